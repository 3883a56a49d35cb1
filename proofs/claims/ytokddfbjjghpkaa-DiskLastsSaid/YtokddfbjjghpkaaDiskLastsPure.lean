/-
  DiskLasts: its map, and the disk at each of its calls. No statement is proved here.
-/
import Derived.Test.YtokddfbjjghpkaaDiskArmedPure
import Derived.Maps.OwnSet
import Derived.Maps.StringElems
import Derived.Laws.IdiomMaps
namespace Go.Proofs.Ytokddfbjjghpkaa
open Go.RowKit Go.WideMaps Go.Maps

theorem mlaw : Keyed Try.prog 3 := int_keyed Try.underlying3
theorem wf_i64 {n : Int} (h1 : -9223372036854775808 ≤ n) (h2 : n ≤ 9223372036854775807) : (Lit.int .i64 n).wf = true := by
  have e := wf_wrap .i64 n
  have hw : IntKind.i64.wrap n = n := by rw [IntKind.wrap_i64]; omega
  rwa [hw] at e
theorem mkey (k : Nat) (hk : k < 1000) : keyOf Try.prog 3 (.int .i64 (k : Int)) = some (.int .i64 (k : Int)) := keyOf_int_mk Try.underlying3 (wf_i64 (by omega) (by omega))
theorem mzero (w : World) : (zeroValue 9).run Try.prog w = .ok (.string .empty) w := by kernel_rfl

/-- One more entry. -/
def updM (M : Nat → Option ByteArray) (k : Nat) (v : ByteArray) : Nat → Option ByteArray := fun i => if i = k then some v else M i
theorem updM_same (M : Nat → Option ByteArray) (k : Nat) (v : ByteArray) : updM M k v k = some v := if_pos rfl
theorem updM_other (M : Nat → Option ByteArray) {k i : Nat} (v : ByteArray) (h : i ≠ k) : updM M k v i = M i := if_neg h
/-- The map in block b holds just M, of the numbers below 20. -/
def MapIs (w : World) (b n : Nat) (M : Nat → Option ByteArray) : Prop :=
  ∃ D : DataW Unit, w.ownsMap Try.prog 3 (plainElem Try.prog 9) b n D ∧
    ∀ k, k < 20 → (∀ v, M k = some v → Maps.has D (.int .i64 (k : Int)) = true ∧ D.atKey (.int .i64 (k : Int)) (.lit (.string [])) = .lit (.string v.data.toList)) ∧ (M k = none → Maps.has D (.int .i64 (k : Int)) = false)
theorem MapIs.lt {w : World} {b n : Nat} {M : Nat → Option ByteArray} (h : MapIs w b n M) : b < w.heap.size := by
  obtain ⟨D, h, _⟩ := h
  exact h.lt
theorem MapIs.kept {w w' : World} {b n : Nat} {M : Nat → Option ByteArray} (h : MapIs w b n M) (hb : w'.heap[b]? = w.heap[b]?) : MapIs w' b n M := by
  obtain ⟨D, ⟨es, clock, h1, h2⟩, h3⟩ := h
  exact ⟨D, ⟨es, clock, hb.trans h1, h2⟩, h3⟩
theorem MapIs.made (w : World) : MapIs (w.alloc (.map #[] 0)) w.heap.size 0 (fun _ => none) :=
  ⟨.map [], World.ownsMap_made _ _ _ _, fun k _ => ⟨fun v hv => (by cases hv), fun _ => rfl⟩⟩
theorem MapIs.update {w : World} {b n : Nat} {M : Nat → Option ByteArray} (h : MapIs w b n M) (hn : n < 1000) {k : Nat} (hk : k < 20) (v : ByteArray) (hv : v.size ≤ 100000) :
    ∃ w', (Instr.mapUpdate 40 (.map (some b)) (.int .i64 (k : Int)) (.string v)).run Try.prog w = .ok () w' ∧ MapIs w' b (n + 1) (updM M k v) ∧ w.grownBy w' (some b) := by
  obtain ⟨D, h1, h2⟩ := h
  have hkey := mkey k (by omega)
  obtain ⟨w', hr, h3, h4⟩ := h1.update mlaw Try.underlying40 (by unfold maxLen; omega) hkey (plainElem_string Try.underlying9 (show v.size ≤ maxLen by unfold maxLen; omega))
  refine ⟨w', hr, ⟨_, h3, fun i hi => ?_⟩, h4⟩
  by_cases hik : i = k
  · subst hik
    rw [updM_same]
    refine ⟨fun u hu => ?_, fun e => by cases e⟩
    injection hu with hu
    subst hu
    exact ⟨has_put_same h1.isMap (show WideAt.IsKeyLit (Lit.int .i64 (i : Int)) from trivial) _, atKey_put_same h1.isMap (show WideAt.IsKeyLit (Lit.int .i64 (i : Int)) from trivial) _ _⟩
  · rw [updM_other M v hik]
    have hne : (Lit.int .i64 (i : Int)) ≠ .int .i64 (k : Int) := fun e => by
      injection e with _ e
      omega
    refine ⟨fun u hu => ?_, fun hu => ?_⟩
    · obtain ⟨q1, q2⟩ := (h2 i hi).1 u hu
      exact ⟨by rw [has_put_other hne]; exact q1, by rw [atKey_put_other hne]; exact q2⟩
    · rw [has_put_other hne]
      exact (h2 i hi).2 hu
theorem MapIs.look {w : World} {b n : Nat} {M : Nat → Option ByteArray} (h : MapIs w b n M) {k : Nat} (hk : k < 20) :
    (Instr.lookup 40 (.map (some b)) (.int .i64 (k : Int)) true).run Try.prog w = .ok (.tuple #[.string ((M k).getD .empty), .bool (M k).isSome]) w := by
  obtain ⟨D, h1, h2⟩ := h
  obtain ⟨v, ps, hr, hv⟩ := h1.look_ok mlaw Try.underlying40 (mzero w) (zd := .lit (.string [])) (zp := []) (plainElem_string Try.underlying9 (show ByteArray.empty.size ≤ maxLen by decide)) (mkey k (by omega))
  obtain ⟨s, rfl, hz, _⟩ := plainElem_string_inv Try.underlying9 hv
  have hz : D.atKey (.int .i64 (k : Int)) (.lit (.string [])) = .lit (.string s.data.toList) := congrArg Prod.fst hz
  have hs : ∀ u : ByteArray, DataW.lit (H := Unit) (.string u.data.toList) = .lit (.string s.data.toList) → s = u := fun u e => by
    injection e with e
    injection e with e
    apply ByteArray.ext
    exact (Array.toList_inj.1 e).symm
  cases hM : M k with
  | none =>
    have hh := (h2 k hk).2 hM
    rw [atKey_of_not_has hh] at hz
    rw [hh] at hr
    rw [hs .empty hz] at hr
    exact hr
  | some u =>
    obtain ⟨q1, q2⟩ := (h2 k hk).1 u hM
    rw [q2] at hz
    rw [q1, hs u hz] at hr
    exact hr

/-- Sectors that are as the map says, or as they were made. -/
def Inv (z : ByteArray) (s : List ByteArray) (M : Nat → Option ByteArray) : Prop := s.length = 140 ∧ (∀ k, k < 140 → s[k]? = some ((M k).getD z)) ∧ ∀ k v, M k = some v → v.size = 256
theorem Inv.start (z : ByteArray) : Inv z (z140 z) (fun _ => none) := ⟨z140_len z, fun k hk => by unfold z140; rw [List.getElem?_replicate, if_pos hk]; rfl, fun k v h => by cases h⟩
theorem Inv.set {z : ByteArray} {s : List ByteArray} {M : Nat → Option ByteArray} (h : Inv z s M) {a : Nat} (ha : a < 140) {v : ByteArray} (hv : v.size = 256) : Inv z (s.set a v) (updM M a v) := by
  obtain ⟨h1, h2, h3⟩ := h
  refine ⟨by simpa using h1, fun k hk => ?_, fun k u hu => ?_⟩
  · by_cases hka : k = a
    · subst hka
      rw [List.getElem?_set_self (by omega), updM_same]
      rfl
    · rw [List.getElem?_set_ne (fun e => hka e.symm), updM_other M v hka]
      exact h2 k hk
  · by_cases hka : k = a
    · subst hka
      rw [updM_same] at hu
      injection hu with hu
      rw [← hu]
      exact hv
    · rw [updM_other M v hka] at hu
      exact h3 k u hu
theorem Inv.small {z : ByteArray} {s : List ByteArray} {M : Nat → Option ByteArray} (h : Inv z s M) (hz : z.size = 256) : ∀ x ∈ s, x.size ≤ 100000 := by
  intro x hx
  obtain ⟨i, hi, rfl⟩ := List.getElem_of_mem hx
  have h2 := h.2.1 i (by rw [← h.1]; exact hi)
  rw [List.getElem?_eq_getElem hi] at h2
  injection h2 with h2
  rw [h2]
  cases hM : M i with
  | none => show z.size ≤ _; omega
  | some u => have := h.2.2 i u hM; show u.size ≤ _; omega

/-- A disk, unarmed, with power. -/
def gS (s : List ByteArray) (d : List (Nat × ByteArray)) (n : Nat) : DS := { now := setAll s d, safe := s, dirty := d, on := true, writes := n, armed := false, left := 0, keep := [] }
def InR (d : List (Nat × ByteArray)) : Prop := ∀ x ∈ d, x.1 < 140
theorem InR.snoc {d : List (Nat × ByteArray)} (h : InR d) {a : Nat} (ha : a < 140) (v : ByteArray) : InR (d ++ [(a, v)]) := by
  intro x hx
  rcases List.mem_append.1 hx with hx | hx
  · exact h x hx
  · rw [List.mem_singleton.1 hx]; exact ha
theorem gS_ok {s : List ByteArray} {d : List (Nat × ByteArray)} (n : Nat) (hs : s.length = 140) (hd : InR d) : (gS s d n).Ok := ⟨rfl, fun w hw => by show w.1 < s.length; rw [hs]; exact hd w hw⟩
theorem gS_write {s : List ByteArray} (d : List (Nat × ByteArray)) (n : Nat) (hs : s.length = 140) {a : Nat} (ha : a < 140) {v : ByteArray} (hv : v.size = 256) : (gS s d n).errW [((a : Int), v)] = 0 ∧ (gS s d n).write [((a : Int), v)] = gS s (d ++ [(a, v)]) (n + 1) := by
  have hl : (gS s d n).now.length = 140 := by show (setAll s d).length = 140; rw [setAll_length, hs]
  have h1 := err1_plain (S := gS s d n) (i := a) (by rw [hl]; exact ha) hv rfl
  have h2 := write1_plain (S := gS s d n) (i := a) (by rw [hl]; exact ha) hv rfl
  constructor
  · unfold DS.errW
    rw [if_pos (show (gS s d n).on = true from rfl)]
    simp only [DS.errL, h1, if_true]
  · unfold DS.write
    rw [if_pos (show (gS s d n).on = true from rfl)]
    simp only [DS.writeL, h1, if_true, h2]
    unfold DS.put gS
    rw [setAll_snoc]
theorem gS_flush (s : List ByteArray) (d : List (Nat × ByteArray)) (n : Nat) : (gS s d n).errF = 0 ∧ (gS s d n).flush = gS (setAll s d) [] n := ⟨rfl, rfl⟩
theorem gS_crash (s : List ByteArray) (d : List (Nat × ByteArray)) (n : Nat) (keep : List Int) : (gS s d n).lost keep = lostN keep 0 d ∧ ((gS s d n).crash keep).dirty.length = 0 ∧ ((gS s d n).crash keep).restore.now = keptL keep 0 d s := ⟨rfl, rfl, rfl⟩
theorem gS_read {z : ByteArray} {s : List ByteArray} (d : List (Nat × ByteArray)) (n : Nat) (keep : List Int) {M : Nat → Option ByteArray} (h : Inv z (keptL keep 0 d s) M) {k : Nat} (hk : k < 140) :
    ((gS s d n).crash keep).restore.read (k : Int) = (M k).getD z ∧ ((gS s d n).crash keep).restore.errR (k : Int) = 0 := by
  have hl : ((gS s d n).crash keep).restore.now.length = 140 := h.1
  constructor
  · unfold DS.read
    rw [if_pos ⟨rfl, by omega, by rw [hl]; omega⟩, Int.toNat_natCast, List.getD_eq_getElem?_getD]
    show ((keptL keep 0 d s)[k]?).getD .empty = _
    rw [h.2.1 k hk]
    rfl
  · unfold DS.errR
    rw [if_pos (show ((gS s d n).crash keep).restore.on = true from rfl), if_pos ⟨by omega, by rw [hl]; omega⟩]

/-- The sector that a number names. -/
def atN (y : Int) : Nat := (y % 20).toNat
theorem atN_lt (y : Int) : atN y < 20 := by unfold atN; omega
theorem atN_steps (y : Int) : ∃ t : Int, y.tmod 20 = t ∧ -20 < t ∧ t < 20 ∧ (t + 20).tmod 20 = (atN y : Int) ∧ (t + 20) % 20 = (atN y : Int) := by
  refine ⟨y.tmod 20, rfl, ?_, ?_, ?_⟩
  · have := Int.lt_tmod_of_pos y (show (0 : Int) < 20 by omega); omega
  · exact Int.tmod_lt_of_pos y (by omega)
  · have h1 : -20 < y.tmod 20 := Int.lt_tmod_of_pos y (show (0 : Int) < 20 by omega)
    have h2 : y.tmod 20 < 20 := Int.tmod_lt_of_pos y (by omega)
    have h3 : (y.tmod 20 + 20) % 20 = (atN y : Int) := by
      have e : y = 20 * (y.tdiv 20) + y.tmod 20 := (Int.mul_tdiv_add_tmod y 20).symm
      unfold atN
      omega
    refine ⟨?_, h3⟩
    rw [Int.tmod_eq_emod_of_nonneg (by omega)]
    exact h3
theorem one_byte7 (w : World) (x : Nat) (hx : x < 256) :
    (convert 42 9 (.slice (some ⟨w.heap.size, 0, none⟩) 1 1)).run Try.prog (w.alloc (.cells #[.int .u8 (x : Int)] 5)) = .ok (.string ⟨#[x.toUInt8]⟩) (w.alloc (.cells #[.int .u8 (x : Int)] 5)) := by
  have h := blk_text (w.alloc (.cells #[.int .u8 (x : Int)] 5)) w.heap.size [x.toUInt8] 1 rfl (by
    have hb := Blk.new w 5 #[.int .u8 (x : Int)]
    have e : (Lib.byteCells [x.toUInt8]).toArray = #[.int .u8 (x : Int)] := by
      show #[Value.int .u8 ((x.toUInt8.toNat : Nat) : Int)] = _
      have : x.toUInt8.toNat = x := by simp [Nat.toUInt8]; omega
      rw [this]
    rw [e]
    exact hb)
  exact h
end Go.Proofs.Ytokddfbjjghpkaa
