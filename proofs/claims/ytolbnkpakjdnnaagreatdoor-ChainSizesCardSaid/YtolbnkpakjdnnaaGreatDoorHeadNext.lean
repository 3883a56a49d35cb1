/-
  Package head's Next. No statement is proved here.
-/
import Derived.Test.YtolbnkpakjdnnaaGreatDoorViews
import Derived.Laws.BitsLemmas
import Derived.Test.YtolbnkpakjdnnaaGreatDoorDiskClone
import Derived.Test.YtolbnkpakjdnnaaGreatDoorCrcOf
import Derived.Test.YtolbnkpakjdnnaaGreatDoorHeadReadAny
import Derived.Sort.OwnSortedInts
import Derived.BigCall
import Derived.Lib.SliceRun
import Derived.Deep.AppendLies
namespace Go.Proofs.YtolbnkpakjdnnaaGreatDoor
open Go.ChangeShapes Go.WideShapes Go.ChangeAt Go.RowKit
open Go.WideMaps Go.WideElems

theorem i64_and1 (n : Int) : bits .and .i64 n 1 = n % 2 := by
  have h1 : (BitVec.ofInt 64 1).toNat = 2 ^ 1 - 1 := by decide
  have key : (BitVec.ofInt 64 n &&& BitVec.ofInt 64 1).toNat = (n % ((2 ^ 64 : Nat) : Int)).toNat % 2 ^ 1 := by
    rw [BitVec.toNat_and, BitVec.toNat_ofInt, h1, Nat.and_two_pow_sub_one_eq_mod]
  show IntKind.i64.wrap ((BitVec.ofInt 64 n &&& BitVec.ofInt 64 1).toNat : Nat) = n % 2
  rw [key, IntKind.wrap_i64]
  omega
theorem odd_and {y : Int} (h : oddI y = true) : bits .and .i64 y 1 = 1 := by
  rw [i64_and1]
  simpa [oddI] using h
theorem even_and {y : Int} (h : oddI y = false) : bits .and .i64 y 1 = 0 := by
  rw [i64_and1]
  have h1 : ¬ y % 2 = 1 := by simpa [oddI] using h
  omega

/-- Numbers as they came in. -/
structure IntsIn (w : World) (A : Option Addr) (m c : Nat) (l : List Int) : Prop where
  len : l.length = m
  lie : IntsD w A l
  nil_ : A = none → m = 0 ∧ c = 0
  few : m ≤ 9223372036854775807
  fits : ∀ n ∈ l, -9223372036854775808 ≤ n ∧ n ≤ 9223372036854775807
theorem cellsInt : Tryz.prog.cellsOf 3 = 1 := by kernel_rfl
theorem view_intsD {H : Type} {enc : TypeId × Value → H} {W : World} {a : Option Addr} {n c : Nat} {d : DataW H} {p : List MemPlace} (h : DataW.Trod enc Tryz.prog W 0 (fun _ => true) true 30 (.slice a n c) d p) :
    ∃ l : List Int, IntsIn W a n c l := by
  obtain ⟨fuel, hf⟩ := h
  rcases open_ints Tryz.underlying30 Tryz.underlying3 cellsInt hf with ⟨hcs, _⟩ | ⟨a', len, cap, zs, hcs, _, hl, hcap, hz, _, hc, hw⟩
  · simp [Value.cells] at hcs
    obtain ⟨rfl, rfl, rfl⟩ := hcs
    exact ⟨[], rfl, IntsD.nil _ _, fun _ => ⟨rfl, rfl⟩, by omega, by simp⟩
  · simp [Value.cells] at hcs
    obtain ⟨rfl, rfl, rfl⟩ := hcs
    simp only [if_true] at hz
    have hmax : maxLen = 9223372036854775807 := rfl
    have hlen : (zs.take n).length = n := by rw [List.length_take]; omega
    refine ⟨zs.take n, hlen, ?_, (fun e => by cases e), by omega, fun x hx => bounds_i64 (hw x (List.mem_of_mem_take hx))⟩
    intro hpos
    rw [hlen] at hpos
    obtain ⟨b, off, rfl, hb, hc'⟩ := plain_at hc (by omega)
    refine ⟨b, off, rfl, hb, fun j x hx => ?_⟩
    rw [List.getElem?_take] at hx
    split at hx
    · have := hc' j (by omega)
      rw [this, List.getD_eq_getElem?_getD, hx]
      rfl
    · cases hx
end Go.Proofs.YtolbnkpakjdnnaaGreatDoor

namespace Go.Proofs.YtolbnkpakjdnnaaGreatDoor
open Go.RowKit

theorem ints_cells {w : World} {B b off : Nat} {xs : List Int} (hc : ∀ (j : Nat) (x : Int), xs[j]? = some x → w.cell? ⟨b, off + j, none⟩ = some (.int .i64 x)) (_hB : b < B) :
    ∀ (j : Nat) (u : Value), (xs.map (Value.int .i64))[j]? = some u → w.cell? ((⟨b, off, none⟩ : Addr).add j) = some u := by
  intro j u hu
  rw [List.getElem?_map] at hu
  obtain ⟨x, hx, rfl⟩ := Option.map_eq_some_iff.1 hu
  rw [Go.WideShapes.add_plain]
  exact hc j x hx

set_option maxRecDepth 100000 in
set_option maxHeartbeats 1000000 in
theorem icopy_any (A : Option Addr) (m c : Nat) (xs : List Int) (w : World) (hm : xs.length = m) (hx : IntsD w A xs) (hl : m ≤ 1000000) (h0 : A = none → c = 0) :
    Calls Tryz.prog 77 #[.slice A m c] w fun e w' => ∃ v, e = .returned v ∧ w'.ownsRow w.heap.size 3 1 v m (xs.map (Value.int .i64)) ∧ Below w.heap.size w w' := by
  obtain ⟨i0, hi, hz0, hz1, hz2⟩ := info_parts clints_info
  have HX := Lib.hid hx
  have HM := Lib.hid hm
  have H0 := Lib.hid h0
  clear hx hm h0
  rcases A with _ | ad
  · obtain rfl : c = 0 := H0.out rfl
    have hm0 : m = 0 := by
      rcases Nat.eq_zero_or_pos m with h | h
      · exact h
      · obtain ⟨b, off, e, _⟩ := HX.out (by rw [HM.out]; exact h)
        cases e
    subst hm0
    have hxs : xs = [] := List.eq_nil_of_length_eq_zero HM.out
    subst hxs
    go_enter Tryz.func77, Tryz.ntmps77
    go_wp2_with (at_builtin; refine wpList_append_own_none rfl _ _ 30 rfl w.heap.size 3 i0 1 Tryz.underlying30 hi (.slice none 0 0) 0 [] rfl (World.ownsRow_nil _ _ _ _) rfl ?_)
    go_ret
    exact ⟨_, rfl, World.ownsRow_nil _ _ _ _, Below.refl _ _⟩
  · have hnews : ∀ (j : Nat) (u : Value), (xs.map (Value.int .i64))[j]? = some u → w.cell? (ad.add j) = some u := by
      intro j u hu
      have hj : j < xs.length := by
        rcases Nat.lt_or_ge j xs.length with h | h
        · exact h
        · rw [List.getElem?_eq_none (by rw [List.length_map]; exact h)] at hu; cases hu
      obtain ⟨b, off, e, hB, hc⟩ := HX.out (by omega)
      injection e with e
      subst e
      exact ints_cells hc hB j u hu
    have hone : ∀ u ∈ xs.map (Value.int .i64), u.oneCell' = true := by
      intro u hu
      obtain ⟨x, _, rfl⟩ := List.mem_map.1 hu
      rfl
    have HN := Lib.hid hnews
    have HO := Lib.hid hone
    clear hnews hone
    go_enter Tryz.func77, Tryz.ntmps77
    go_wp2_with (at_builtin; refine wpList_append_own _ rfl _ _ 30 rfl w.heap.size 3 i0 (.int .i64 0) 1 8 Tryz.underlying30 hi hz0 hz1 hz2 rfl (by omega) (.slice none 0 0) 0 [] rfl (World.ownsRow_nil _ _ _ _) ad m c (xs.map (Value.int .i64)) rfl (by rw [List.length_map, HM.out]; omega) HN.out HO.out (by unfold maxLen; omega) (by omega) (Nat.le_refl _) ?_; intro v1 w1 hown1 hg1 _)
    have hb1 : Below w.heap.size w w1 := (Below.refl _ _).grown hg1 (Nat.le_refl _) (by simp [Value.ownBlock])
    clear hg1
    have HOW := Lib.hid hown1
    clear hown1
    go_wp2_with fail
    go_ret
    exact ⟨v1, rfl, by simpa using HOW.out, hb1⟩

/-- A list lent: it lies in a block of its own, with a mark behind it that it has room for. -/
def LentI (w : World) (B g cap : Nat) (xs : List Int) : Prop :=
  B ≤ g ∧ g < w.heap.size ∧ xs.length + 1 ≤ cap ∧ cap ≤ 9223372036854775807 ∧ ∀ (j : Nat) (x : Int), (xs ++ [(-77)])[j]? = some x → w.cell? ⟨g, j, none⟩ = some (.int .i64 x)
theorem LentI.below {w w' : World} {B g cap : Nat} {xs : List Int} (h : LentI w B g cap xs) (hb : Below w.heap.size w w') : LentI w' B g cap xs := by
  obtain ⟨h0, h1, h2, h3, h4⟩ := h
  exact ⟨h0, Nat.lt_of_lt_of_le h1 hb.size, h2, h3, fun j x hx => (hb.cell (p := ⟨g, j, none⟩) h1).trans (h4 j x hx)⟩
theorem LentI.ints {w : World} {B g cap : Nat} {xs : List Int} (h : LentI w B g cap xs) : IntsD w (some ⟨g, 0, none⟩) xs := by
  obtain ⟨h0, h1, h2, h3, h4⟩ := h
  intro _
  refine ⟨g, 0, rfl, h1, fun j x hx => ?_⟩
  rw [Nat.zero_add]
  have hj : j < xs.length := by
    rcases Nat.lt_or_ge j xs.length with h | h
    · exact h
    · rw [List.getElem?_eq_none h] at hx; cases hx
  exact h4 j x (by rw [List.getElem?_append_left hj]; exact hx)


set_option maxRecDepth 100000 in
set_option maxHeartbeats 1000000 in
theorem ilent_any (A : Option Addr) (m c : Nat) (xs : List Int) (w : World) (hm : xs.length = m) (hx : IntsD w A xs) (hl : m ≤ 900000) (h0 : A = none → c = 0) :
    Calls Tryz.prog 37 #[.slice A m c] w fun e w' => ∃ g cap, e = .returned (.slice (some ⟨g, 0, none⟩) m cap) ∧ LentI w' w.heap.size g cap xs ∧ Below w.heap.size w w' := by
  obtain ⟨i0, hi, hz0, hz1, hz2⟩ := info_parts clints_info
  have HC := Lib.hid (icopy_any A m c xs w hm hx (by omega) h0)
  have HM := Lib.hid hm
  clear hx hm h0
  go_enter Tryz.func37, Tryz.ntmps37
  go_wp2_with fail
  refine HC.out.mono ?_
  rintro e w1 ⟨v, rfl, hown, hb1⟩
  have HOWN := Lib.hid hown
  clear hown
  go_wp2_with (at_builtin; refine wpList_append_lies _ rfl (.tmp 4) (.tmp 5) 30 rfl w.heap.size 3 i0 (.int .i64 0) 1 8 Tryz.underlying30 hi hz0 hz1 hz2 rfl (by omega) _ m _ rfl (HOWN.out.alloc _) ⟨w1.heap.size, 0, none⟩ 1 1 [.int .i64 (-77)] rfl rfl ?c1 ?c2 (by omega) (by unfold maxLen; omega) (by omega) (by have := hb1.size; simp; omega) _ rfl ?_)
  case c1 =>
    intro a u ha
    match a, ha with
    | 0, ha => simp at ha; subst ha; simp [Addr.add]
  case c2 => intro u hu; simp at hu; subst hu; rfl
  intro g cap w2 hown2 hg2 hor hlt2
  have hb2 : Below w.heap.size w w2 := (hb1.alloc hb1.size _).grown hg2 (by have := hb1.size; simp; omega) (fun k hk => (HOWN.out.lt k hk).1)
  have hform : m + 1 ≤ cap ∧ cap ≤ 9223372036854775807 ∧ w.heap.size ≤ g := by
    rcases hown2.2 with ⟨h, _⟩ | ⟨g', cap', cur, h, hg', _, h1, h2, _⟩
    · cases h
    · injection h with e1 e2 e3
      injection e1 with e1
      injection e1 with e1
      subst e1 e3
      exact ⟨h1, h2, hg'⟩
  obtain ⟨hc1, hc2, hc3⟩ := hform
  have hlent : LentI w2 w.heap.size g cap xs := by
    refine ⟨hc3, hlt2, by rw [HM.out]; exact hc1, hc2, fun j x hx => ?_⟩
    have := hown2.cells (g := g) rfl j (.int .i64 x) (by
      rw [show xs.map (Value.int .i64) ++ [Value.int .i64 (-77)] = (xs ++ [(-77 : Int)]).map (Value.int .i64) by simp, List.getElem?_map, hx]
      rfl)
    rw [Go.WideShapes.add_plain, Nat.zero_add] at this
    exact this
  have HL := Lib.hid hlent
  clear hlent hown2 hg2 hor hb1
  go_wp2_with fail
  go_ret
  exact ⟨g, cap, rfl, HL.out, hb2⟩

set_option maxRecDepth 100000 in
set_option maxHeartbeats 1000000 in
theorem isame_any (A B : Option Addr) (m c d : Nat) (xs : List Int) (w : World) (hm : xs.length = m) (hx : IntsD w A xs) (hy : IntsD w B xs) (hl : m ≤ 1000000) :
    Calls Tryz.prog 16 #[.slice A m c, .slice B m d] w fun e w' => e = .returned (.bool true) ∧ ∃ n, w' = w.drewN n := by
  have HX := Lib.hid hx
  have HY := Lib.hid hy
  have HM := Lib.hid hm
  clear hx hm hy
  go_enter Tryz.func16, Tryz.ntmps16
  go_wp2_with fail
  go_loopw [5] (fun i wr => ∃ (j n : Nat), j ≤ m ∧ i = .int .i64 j ∧ wr = w.drewN n) (fun i _ => m - (intOf i).toNat)
  case atStart => exact ⟨0, 0, Nat.zero_le _, rfl, rfl⟩
  case round =>
    obtain ⟨j, n, hj, rfl, rfl⟩ := hrel
    by_cases hlt : j < m
    · have hxl : j < xs.length := by rw [HM.out]; exact hlt
      obtain ⟨b, off, hA, hbB, hc⟩ := HX.out (by omega)
      obtain ⟨b', off', hA', hbB', hc'⟩ := HY.out (by omega)
      obtain ⟨x, hx⟩ : ∃ x, x = xs[j] := ⟨_, rfl⟩
      have hxj : xs[j]? = some x := by rw [hx]; exact List.getElem?_eq_getElem hxl
      have hcx : w.cell? ⟨b, off + j, none⟩ = some (.int .i64 x) := hc j x hxj
      have hcy : w.cell? ⟨b', off' + j, none⟩ = some (.int .i64 x) := hc' j x hxj
      clear hxj hc hx hc'
      subst hA
      subst hA'
      go_wp2_with fail
      go_quiet (fail)
      go_wp2_with fail
      go_roundw
      case rel => exact ⟨j + 1, _, by omega, by go_num, rfl⟩
      case measure => simp [intOf]; omega
    · obtain rfl : j = m := by omega
      go_wp2_with fail
      go_ret
      exact ⟨rfl, _, rfl⟩

set_option maxRecDepth 100000 in
set_option maxHeartbeats 1000000 in
theorem istays_any (g cap : Nat) (A : Option Addr) (m d : Nat) (xs : List Int) (B0 : Nat) (w : World) (hm : xs.length = m) (hL : LentI w B0 g cap xs) (hx : IntsD w A xs) (hl : m ≤ 1000000) :
    Calls Tryz.prog 39 #[.slice (some ⟨g, 0, none⟩) m cap, .slice A m d] w fun e w' => e = .returned (.bool true) ∧ ∃ n, w' = w.drewN n := by
  have HS := Lib.hid (isame_any (some ⟨g, 0, none⟩) A m cap d xs w hm hL.ints hx hl)
  obtain ⟨h0, h1, h2, h3, h4⟩ := hL
  have hc : w.cell? ⟨g, m, none⟩ = some (.int .i64 (-77)) := h4 m _ (by rw [List.getElem?_append_right (by omega), hm, Nat.sub_self]; rfl)
  have h2' : m + 1 ≤ cap := by omega
  clear hx hm h0 h4 h2
  go_enter Tryz.func39, Tryz.ntmps39
  go_wp2_with fail
  refine HS.out.mono ?_
  rintro e w1 ⟨rfl, n, rfl⟩
  go_wp2_with fail
  go_ret
  exact ⟨rfl, n, rfl⟩
end Go.Proofs.YtolbnkpakjdnnaaGreatDoor

namespace Go.Proofs.YtolbnkpakjdnnaaGreatDoor
open Go.RowKit

def flatI (l : List (Int × ByteArray)) : List Value := l.flatMap fun x => [.int .i64 x.1, .string x.2]
theorem flatI_len (l : List (Int × ByteArray)) : (flatI l).length = l.length * 2 := by
  induction l with
  | nil => rfl
  | cons x r ih => show (_ :: _ :: flatI r).length = _; rw [List.length_cons, List.length_cons, ih, List.length_cons]; omega
theorem flatI_get {l : List (Int × ByteArray)} {j : Nat} {x : Int × ByteArray} (h : l[j]? = some x) : (flatI l)[2 * j]? = some (.int .i64 x.1) ∧ (flatI l)[2 * j + 1]? = some (.string x.2) := by
  induction l generalizing j with
  | nil => cases h
  | cons y r ih =>
    have e : flatI (y :: r) = .int .i64 y.1 :: .string y.2 :: flatI r := rfl
    rw [e]
    cases j with
    | zero =>
      rw [List.getElem?_cons_zero] at h
      injection h with h
      subst h
      exact ⟨rfl, rfl⟩
    | succ j =>
      rw [List.getElem?_cons_succ] at h
      have := ih h
      rw [show 2 * (j + 1) = (2 * j + 1) + 1 by omega, show (2 * j + 1) + 1 + 1 = (2 * j + 1 + 1) + 1 by omega]
      simp only [List.getElem?_cons_succ]
      exact this
theorem flatI_cells {l : List (Int × ByteArray)} {f : Nat → Option Value} (h : ∀ (j : Nat) (x : Int × ByteArray), l[j]? = some x → f (j * 2) = some (.int .i64 x.1) ∧ f (j * 2 + 1) = some (.string x.2)) : ∀ (j : Nat) (u : Value), (flatI l)[j]? = some u → f j = some u := by
  intro j u hu
  have hj : j < l.length * 2 := by
    rcases Nat.lt_or_ge j (l.length * 2) with h | h
    · exact h
    · rw [List.getElem?_eq_none (by rw [flatI_len]; exact h)] at hu; cases hu
  obtain ⟨x, hx⟩ : ∃ x, l[j / 2]? = some x := ⟨l[j / 2]'(by omega), List.getElem?_eq_getElem (by omega)⟩
  obtain ⟨q1, q2⟩ := flatI_get hx
  obtain ⟨h1, h2⟩ := h _ _ hx
  rcases Nat.mod_two_eq_zero_or_one j with e | e
  · have ej : 2 * (j / 2) = j := by omega
    have ej' : j / 2 * 2 = j := by omega
    rw [ej] at q1
    rw [ej'] at h1
    rw [hu] at q1
    rw [h1, ← q1]
  · have ej : 2 * (j / 2) + 1 = j := by omega
    have ej' : j / 2 * 2 + 1 = j := by omega
    rw [ej] at q2
    rw [ej'] at h2
    rw [hu] at q2
    rw [h2, ← q2]
theorem flatI_one {l : List (Int × ByteArray)} : ∀ u ∈ flatI l, u.oneCell' = true := by
  intro u hu
  unfold flatI at hu
  simp only [List.mem_flatMap] at hu
  obtain ⟨x, _, hu⟩ := hu
  simp at hu
  rcases hu with rfl | rfl <;> rfl

/-- A list of writes as a slice: nil, empty or not. -/
def WIn (w : World) (A : Option Addr) (l : List (Int × ByteArray)) : Prop :=
  0 < l.length → ∃ b off, A = some ⟨b, off, none⟩ ∧ b < w.heap.size ∧ ∀ (j : Nat) (x : Int × ByteArray), l[j]? = some x → w.cell? ⟨b, off + j * 2, none⟩ = some (.int .i64 x.1) ∧ w.cell? ⟨b, off + j * 2 + 1, none⟩ = some (.string x.2)
theorem WIn.below {w w' : World} {A : Option Addr} {l : List (Int × ByteArray)} (h : WIn w A l) (hb : Below w.heap.size w w') : WIn w' A l := fun hp => by
  obtain ⟨b, off, e, hl, hc⟩ := h hp
  exact ⟨b, off, e, Nat.lt_of_lt_of_le hl hb.size, fun j x hx => ⟨(hb.cell (p := ⟨b, off + j * 2, none⟩) hl).trans (hc j x hx).1, (hb.cell (p := ⟨b, off + j * 2 + 1, none⟩) hl).trans (hc j x hx).2⟩⟩

/-- A list lent: it lies in a block of its own, with a mark behind it that it has room for. -/
def LentW (w : World) (B g cap : Nat) (xs : List (Int × ByteArray)) : Prop :=
  B ≤ g ∧ g < w.heap.size ∧ xs.length + 1 ≤ cap ∧ cap ≤ 9223372036854775807 ∧ ∀ (j : Nat) (x : Int × ByteArray), (xs ++ [(-77, ⟨#[]⟩)])[j]? = some x → w.cell? ⟨g, j * 2, none⟩ = some (.int .i64 x.1) ∧ w.cell? ⟨g, j * 2 + 1, none⟩ = some (.string x.2)
theorem LentW.below {w w' : World} {B g cap : Nat} {xs : List (Int × ByteArray)} (h : LentW w B g cap xs) (hb : Below w.heap.size w w') : LentW w' B g cap xs := by
  obtain ⟨h0, h1, h2, h3, h4⟩ := h
  exact ⟨h0, Nat.lt_of_lt_of_le h1 hb.size, h2, h3, fun j x hx => ⟨(hb.cell (p := ⟨g, j * 2, none⟩) h1).trans (h4 j x hx).1, (hb.cell (p := ⟨g, j * 2 + 1, none⟩) h1).trans (h4 j x hx).2⟩⟩
theorem LentW.wrts {w : World} {B g cap : Nat} {xs : List (Int × ByteArray)} (h : LentW w B g cap xs) : WIn w (some ⟨g, 0, none⟩) xs := by
  obtain ⟨h0, h1, h2, h3, h4⟩ := h
  intro _
  refine ⟨g, 0, rfl, h1, fun j x hx => ?_⟩
  rw [Nat.zero_add]
  have hj : j < xs.length := by
    rcases Nat.lt_or_ge j xs.length with h | h
    · exact h
    · rw [List.getElem?_eq_none h] at hx; cases hx
  exact h4 j x (by rw [List.getElem?_append_left hj]; exact hx)

end Go.Proofs.YtolbnkpakjdnnaaGreatDoor

namespace Go.Proofs.YtolbnkpakjdnnaaGreatDoor
open Go.RowKit Go.Sort

theorem hcl_info : (Tryz.prog.info? 3).map (fun i => (i.zero, i.size, i.bytes)) = some (some (.int .i64 0), 1, 8) := by kernel_rfl
set_option maxRecDepth 100000 in
set_option maxHeartbeats 1000000 in
theorem hclone_any (A : Option Addr) (m c : Nat) (l : List Int) (w : World) (hl : l.length = m) (hA : ∀ ad, A = some ad → ∀ (j : Nat) (u : Value), (l.map (Value.int .i64))[j]? = some u → w.cell? (ad.add j) = some u) (h0 : A = none → m = 0 ∧ c = 0) (hm : m ≤ 1000000000000) :
    Calls Tryz.prog 88 #[.slice A m c] w fun e w' => ∃ v, e = .returned v ∧ w'.ownsRow w.heap.size 3 1 v m (l.map (Value.int .i64)) ∧ Below w.heap.size w w' := by
  obtain ⟨i0, hi, hz0, hz1, hz2⟩ := info_parts hcl_info
  have HM := Lib.hid hl
  have H0 := Lib.hid h0
  rcases A with _ | ad
  · obtain ⟨rfl, rfl⟩ := h0 rfl
    have hxs : l = [] := List.eq_nil_of_length_eq_zero hl
    subst hxs
    have q : ∀ w, (binOp .eql 30 (.slice none 0 0) (.slice none 0 0)).run Tryz.prog w = .ok (.bool true) w := fun w => Lib.run_eql_slice_nil w 30 _ none 0 0 0 0 Tryz.underlying30
    clear hA h0 hl
    go_enter Tryz.func88, Tryz.ntmps88
    go_wp2_with fail
    go_ret
    exact ⟨_, rfl, World.ownsRow_nil _ _ _ _, Below.refl _ _⟩
  · have hone : ∀ u ∈ (l.map (Value.int .i64)), u.oneCell' = true := by
      intro u hu
      obtain ⟨x, _, rfl⟩ := List.mem_map.1 hu
      rfl
    have HN := Lib.hid (hA ad rfl)
    have HO := Lib.hid hone
    have HE : Hid ((w.alloc (.cells #[] 3)).ownsRow w.heap.size 3 1 (.slice (some ⟨w.heap.size, 0, none⟩) 0 0) 0 []) := Lib.hid (World.ownsRow_made w #[] 0 (Nat.le_refl _) (by decide) rfl)
    have HC : Hid ((l.map (Value.int .i64)).length = m * 1) := Lib.hid (by rw [List.length_map, hl]; omega)
    have HB : Hid (Below w.heap.size w (w.alloc (.cells #[] 3))) := Lib.hid ((Below.refl _ _).alloc (Nat.le_refl _) _)
    have HNN : Hid (∀ (j : Nat) (u : Value), (l.map (Value.int .i64))[j]? = some u → (w.alloc (.cells #[] 3)).cell? (ad.add j) = some u) := Lib.hid (fun j u hu => by
      have h1 := HN.out j u hu
      have hlt := World.block_lt_of_cell? w _ h1
      rw [World.cell?_of_block (Below.heap_alloc w _ _ hlt)]
      exact h1)
    have q : ∀ w, (binOp .eql 30 (.slice (some ad) m c) (.slice none 0 0)).run Tryz.prog w = .ok (.bool false) w := fun w => Lib.run_eql_slice_nil w 30 _ (some ad) m c 0 0 Tryz.underlying30
    clear hA h0 hone hl
    go_enter Tryz.func88, Tryz.ntmps88
    go_wp2_with (at_builtin; refine wpList_append_own _ rfl _ _ 30 rfl w.heap.size 3 i0 (.int .i64 0) 1 8 Tryz.underlying30 hi hz0 hz1 hz2 rfl (by omega) (.slice (some ⟨w.heap.size, 0, none⟩) 0 0) 0 [] rfl HE.out ad m c (l.map (Value.int .i64)) rfl HC.out HNN.out HO.out (by unfold maxLen; omega) (by omega) (by simp) ?_; intro v1 w1 hown1 hg1 _)
    have hb1 : Below w.heap.size w w1 := HB.out.grown hg1 (by simp) (by simp [Value.ownBlock])
    have HOW := Lib.hid hown1
    clear hown1 hg1
    go_ret
    exact ⟨v1, rfl, by simpa using HOW.out, hb1⟩


/-- Targets in order, each once. -/
def putOnce (l : List Int) : List Int := Lib.compact (l.mergeSort fun x y => decide (x ≤ y))
theorem keeps_sorted {s : List Int} (hs : s.Pairwise (fun x y => decide (x ≤ y) = true)) (hr : ∀ x ∈ s, 0 ≤ x ∧ x < 2000) : ∀ m, m ≤ s.length →
    riseB 0 (Lib.compactUpTo s.toArray m) = true ∧ (∀ y ∈ Lib.compactUpTo s.toArray m, ∃ k, k < m ∧ s[k]? = some y) ∧ (0 < m → 0 < (Lib.compactUpTo s.toArray m).length) ∧ (Lib.compactUpTo s.toArray m).length ≤ m := by
  intro m
  induction m with
  | zero => intro _; exact ⟨rfl, (fun y hy => by cases hy), (fun h => by omega), Nat.le_refl _⟩
  | succ m ih =>
    intro hm
    obtain ⟨h1, h2, h3, h4⟩ := ih (by omega)
    rw [Lib.compactUpTo_succ]
    have hx : s[m]? = some s[m] := List.getElem?_eq_getElem (by omega)
    have hget : s.toArray[m]! = s[m] := by rw [getElem!_pos s.toArray m (by simpa using by omega)]; simp
    have hxr := hr s[m] (List.getElem_mem _)
    have hle : ∀ k (hk : k < m), s[k]'(by omega) ≤ s[m] := fun k hk => by
      have := List.pairwise_iff_getElem.1 hs k m (by omega) (by omega) hk
      simpa using this
    by_cases hkp : Lib.keeps s.toArray m = true
    · rw [if_pos hkp, hget]
      refine ⟨riseB_snoc _ 0 _ h1 (fun y hy => ?_) hxr.1 hxr.2, fun y hy => ?_, fun _ => by simp, by simp; omega⟩
      · obtain ⟨k, hk, hky⟩ := h2 y hy
        have hm0 : 0 < m := by omega
        have hprev : s.toArray[m - 1]! = s[m - 1]'(by omega) := by rw [getElem!_pos s.toArray (m - 1) (by simpa using by omega)]; simp
        unfold Lib.keeps at hkp
        have hkp := of_decide_eq_true hkp
        rcases hkp with hkp | hkp
        · omega
        · rw [hget, hprev] at hkp
          have h5 := hle (m - 1) (by omega)
          have h6 : y ≤ s[m - 1]'(by omega) := by
            have hkk : s[k]'(by omega) = y := by
              rw [List.getElem?_eq_getElem (by omega)] at hky
              exact Option.some.inj hky
            rcases Nat.lt_or_ge k (m - 1) with h7 | h7
            · have := List.pairwise_iff_getElem.1 hs k (m - 1) (by omega) (by omega) h7
              rw [hkk] at this
              simpa using this
            · have : k = m - 1 := by omega
              subst this
              omega
          omega
      · rcases List.mem_append.1 hy with hy | hy
        · obtain ⟨k, hk, hky⟩ := h2 y hy
          exact ⟨k, by omega, hky⟩
        · have := List.mem_singleton.1 hy
          subst this
          exact ⟨m, by omega, hx⟩
    · rw [if_neg hkp, List.append_nil]
      refine ⟨h1, fun y hy => ?_, fun _ => ?_, by omega⟩
      · obtain ⟨k, hk, hky⟩ := h2 y hy
        exact ⟨k, by omega, hky⟩
      · apply h3
        rcases Nat.eq_zero_or_pos m with h | h
        · subst h
          exact absurd (show Lib.keeps s.toArray 0 = true by simp [Lib.keeps]) hkp
        · exact h
theorem putOnce_ok {l : List Int} (hr : ∀ x ∈ l, 0 ≤ x ∧ x < 2000) : riseB 0 (putOnce l) = true ∧ (0 < l.length → 0 < (putOnce l).length) ∧ (putOnce l).length ≤ l.length := by
  have hp : (l.mergeSort fun x y => decide (x ≤ y)).Pairwise (fun x y => decide (x ≤ y) = true) := List.pairwise_mergeSort (by intro a b c h1 h2; simp at *; omega) (by intro a b; simp; omega) l
  have hl : (l.mergeSort fun x y => decide (x ≤ y)).length = l.length := List.length_mergeSort _
  obtain ⟨h1, _, h3, h4⟩ := keeps_sorted hp (fun x hx => hr x (List.mem_mergeSort.1 hx)) _ (Nat.le_refl _)
  rw [hl] at h3 h4
  exact ⟨by unfold putOnce Lib.compact; exact h1, fun h => by unfold putOnce Lib.compact; rw [hl]; exact h3 h, by unfold putOnce Lib.compact; rw [hl]; exact h4⟩

set_option maxRecDepth 100000 in
set_option maxHeartbeats 4000000 in
theorem hnext_any (h : HD) (A : Option Addr) (c : Nat) (X : Option Addr) (m cx : Nat) (l : List Int) (w : World) (hm : l.length = m) (hx : Ints w w.heap.size X l) (h0 : X = none → m = 0 ∧ cx = 0) (hq : 0 ≤ h.seq ∧ h.seq ≤ 1000000) (hb : m ≤ 1000000) :
    Calls Tryz.prog 160 #[h.val A c, .slice X m cx] w fun e w' => ∃ A' c', e = .returned ((HD.mk (h.seq + 1) true (putOnce l)).val A' c') ∧ (HD.mk (h.seq + 1) true (putOnce l)).At w' A' c' ∧ (∀ b off, A' = some ⟨b, off, none⟩ → 0 < (putOnce l).length → ∃ cs fr, w'.heap[b]? = some (.cells cs 3 fr)) ∧ Below w.heap.size w w' := by
  obtain ⟨seq, full, ts⟩ := h
  simp only at hq
  obtain ⟨q0, q1⟩ := hq
  unfold HD.val
  simp only
  have HX := Lib.hid hx
  have HM := Lib.hid hm
  have HCL : Hid (∀ W, Below w.heap.size w W → Calls Tryz.prog 88 #[.slice X m cx] W fun e w' => ∃ v, e = .returned v ∧ w'.ownsRow W.heap.size 3 1 v m (l.map (Value.int .i64)) ∧ Below W.heap.size W w') := Lib.hid (fun W hW => by
    refine hclone_any X m cx l W hm (fun ad e j u hu => ?_) h0 (by omega)
    subst e
    have hj : j < l.length := by
      rcases Nat.lt_or_ge j l.length with h | h
      · exact h
      · rw [List.getElem?_eq_none (by rw [List.length_map]; exact h)] at hu; cases hu
    obtain ⟨b, off, e, hbb, hc⟩ := hx (by omega)
    injection e with e
    subst e
    rw [List.getElem?_map] at hu
    obtain ⟨x, hx', rfl⟩ := Option.map_eq_some_iff.1 hu
    rw [Go.WideShapes.add_plain]
    exact (hW.cell (p := ⟨b, off + j, none⟩) hbb).trans (hc j x hx'))
  obtain ⟨tl, htl⟩ : ∃ tl, tl = ts.length := ⟨_, rfl⟩
  rw [← htl]
  clear hx hm h0 htl
  go_enter Tryz.func160, Tryz.ntmps160
  go_wp2_with fail
  obtain ⟨W, hW⟩ : ∃ W, W = (w.alloc (.cells #[.int .i64 seq, .bool full, .slice A tl c] 161)).alloc (.cells #[.int .i64 0, .bool false, .slice none 0 0] 161) := ⟨_, rfl⟩
  rw [← hW]
  have HBW : Hid (Below w.heap.size w W) := Lib.hid (by rw [hW]; exact ((Below.refl _ _).alloc (Nat.le_refl _) _).alloc (by simp) _)
  have HSZ : Hid (W.heap.size = w.heap.size + 2) := Lib.hid (by rw [hW]; simp)
  have HR0 : Hid (Blk W (w.heap.size + 1) 161 #[.int .i64 0, .bool false, .slice none 0 0]) := Lib.hid (by
    have := Blk.new (w.alloc (.cells #[.int .i64 seq, .bool full, .slice A tl c] 161)) 161 #[.int .i64 0, .bool false, .slice none 0 0]
    rw [hW]
    rwa [show (w.alloc (.cells #[.int .i64 seq, .bool full, .slice A tl c] 161)).heap.size = w.heap.size + 1 by simp] at this)
  clear hW
  refine (HCL.out W HBW.out).mono ?_
  rintro e w1 ⟨v, rfl, hrow, hb1⟩
  obtain ⟨pv, cv, rfl, hpn⟩ : ∃ p cap, v = .slice p m cap ∧ (p = none → m = 0) := by
    rcases hrow.2 with ⟨rfl, rfl⟩ | ⟨g, cap, cur, rfl, _⟩
    · exact ⟨none, 0, rfl, fun _ => rfl⟩
    · exact ⟨some ⟨g, 0, none⟩, cap, rfl, fun h => by cases h⟩
  have HROW := Lib.hid hrow
  have HB1 := Lib.hid hb1
  clear hrow hb1 HCL
  by_cases hz : m = 0
  · subst hz
    have hl0 : l = [] := List.eq_nil_of_length_eq_zero HM.out
    have HPO : Hid (putOnce l = []) := Lib.hid (by rw [hl0]; simp [putOnce, Lib.compact, Lib.compactUpTo])
    have hr1 := HR0.out.below HB1.out HR0.out.lt
    have r0 := hr1.cell 0
    have r1 := hr1.cell 1
    have r2 := hr1.cell 2
    have f0 := hr1.frozen 0
    have f1 := hr1.frozen 1
    have f2 := hr1.frozen 2
    simp at r0 r1 r2
    clear hl0
    go_wp2_with fail
    refine (h_slices_Sort_int_none pv cv w1).mono ?_
    rintro e w2 ⟨rfl, rfl⟩
    go_wp2_with fail
    refine (h_slices_Compact_int_empty pv cv _).mono ?_
    rintro e w3 ⟨rfl, rfl⟩
    go_wp2_with fail
    have b3 := ((hr1.put 0 (.int .i64 (seq + 1))).put 1 (.bool true)).put 2 (.slice pv 0 cv)
    refine ret_cell rfl rfl (head_var b3) rfl ?_
    refine ⟨pv, cv, by rw [HPO.out]; rfl, ⟨by rw [HPO.out]; exact fun h => absurd h (by simp), by rw [HPO.out]; simp⟩, (fun _ _ _ h => by rw [HPO.out] at h; exact absurd h (by simp)), ?_⟩
    have k1 : Below w.heap.size w _ := HBW.out.trans (HB1.out.mono (by have := HSZ.out; omega))
    exact ((k1.setCell (by show w.heap.size ≤ w.heap.size + 1; omega) _).setCell (by show w.heap.size ≤ w.heap.size + 1; omega) _).setCell (by show w.heap.size ≤ w.heap.size + 1; omega) _
  · obtain ⟨g, cap, cur, hv, hbg, hcur, h1, h2, h3, h4⟩ : ∃ g cap cur, Value.slice pv m cv = .slice (some ⟨g, 0, none⟩) m cap ∧ W.heap.size ≤ g ∧ w1.heap[g]? = some (.cells cur 3 (0, 0)) ∧ m ≤ cap ∧ cap ≤ maxLen ∧ cur.size = cap * 1 ∧ cur.toList.take (m * 1) = l.map (Value.int .i64) := by
      rcases HROW.out.2 with ⟨_, h⟩ | ⟨g, cap, cur, e, hb, hc, h1, h2, h3, h4⟩
      · exact absurd h hz
      · exact ⟨g, cap, cur, e, hb, hc, h1, h2, h3, h4⟩
    injection hv with e1 _ e3
    subst e1 e3
    rw [Nat.mul_one] at h4
    have hglt : g < w1.heap.size := (HROW.out.lt g rfl).2
    have hH := holds_of_blockI hcur (by rw [HM.out]; exact h4)
    have HSORT := Lib.hid (h_slices_Sort_int g 0 cv l w1 hH hglt (by have := HM.out; omega))
    rw [HM.out] at HSORT
    obtain ⟨s, hs⟩ : ∃ s, s = l.mergeSort fun x y => decide (x ≤ y) := ⟨_, rfl⟩
    have hsl : s.length = m := by rw [hs, List.length_mergeSort, HM.out]
    rw [← hs] at HSORT
    have HPO : Hid (putOnce l = Lib.compact s) := Lib.hid (by unfold putOnce; rw [hs])
    have HOR : Hid (∀ q os, (grow (putRow (Value.int .i64) (Sort.ahead w1 q) g 0 s.toArray) os).ownsRow W.heap.size 3 1 (.slice (some ⟨g, 0, none⟩) m cv) m (s.map (Value.int .i64)) ∧ w1.grownBy (grow (putRow (Value.int .i64) (Sort.ahead w1 q) g 0 s.toArray) os) (some g)) := Lib.hid (fun q os => by
      have := ownsRow_sortedI (n := q) (os := os) (ss := l) (ts := s) (by rw [hsl, HM.out]) hbg hcur (by rw [HM.out]; exact h1) h2 h3
      rw [HM.out] at this
      exact ⟨this, grownBy_sortedI s.toArray⟩)
    have HSL := Lib.hid hsl
    have HG : Hid (W.heap.size ≤ g ∧ g < w1.heap.size) := Lib.hid ⟨hbg, hglt⟩
    clear hs hsl hH h1 h2 h3 h4 hcur hbg hglt hpn
    go_wp2_with fail
    refine HSORT.out.mono ?_
    rintro e w2 ⟨rfl, q, os, rfl⟩
    obtain ⟨w2, hw2⟩ : ∃ w2, w2 = grow (putRow (Value.int .i64) (Sort.ahead w1 q) g 0 s.toArray) os := ⟨_, rfl⟩
    have hor := HOR.out q os
    rw [← hw2] at hor ⊢
    obtain ⟨hrow2, hg2⟩ := hor
    obtain ⟨cap2, cur2, hv2, hbg2, hcur2, h1, h2, h3, h4⟩ : ∃ cap cur, Value.slice (some ⟨g, 0, none⟩) m cv = .slice (some ⟨g, 0, none⟩) m cap ∧ W.heap.size ≤ g ∧ w2.heap[g]? = some (.cells cur 3 (0, 0)) ∧ m ≤ cap ∧ cap ≤ maxLen ∧ cur.size = cap * 1 ∧ cur.toList.take (m * 1) = s.map (Value.int .i64) := by
      rcases hrow2.2 with ⟨_, h⟩ | ⟨g', cap, cur, e, hb, hc, h1, h2, h3, h4⟩
      · exact absurd h hz
      · have e' := e
        injection e with e1 _ _
        injection e1 with e1
        injection e1 with e1 _ _
        subst e1
        exact ⟨cap, cur, e', hb, hc, h1, h2, h3, h4⟩
    injection hv2 with _ _ e3
    subst e3
    rw [Nat.mul_one] at h4
    have hH2 := holds_of_blockI hcur2 (by rw [HSL.out]; exact h4)
    have HCOM := Lib.hid (Any.slices_Compact_int h_laysNm220 g 0 cv s w2 hH2 (by rw [HSL.out]; omega) (by rw [HSL.out]; exact h1))
    obtain ⟨k, hk⟩ : ∃ k, k = (Lib.compact s).length := ⟨_, rfl⟩
    have hkm : k ≤ m := by rw [hk, ← HSL.out]; exact Lib.compact_length_le s
    obtain ⟨z, hzz⟩ : ∃ z, z = Lib.compact s ++ List.replicate (s.length - (Lib.compact s).length) 0 := ⟨_, rfl⟩
    have hzl : z.length = m := by rw [hzz, List.length_append, List.length_replicate, ← hk, HSL.out]; omega
    rw [← hzz, ← hk, HSL.out] at HCOM
    have HOR2 : Hid (∀ q, (putRow (Value.int .i64) (Sort.ahead w2 q) g 0 z.toArray).ownsRow W.heap.size 3 1 (.slice (some ⟨g, 0, none⟩) m cv) m (z.map (Value.int .i64)) ∧ w2.grownBy (putRow (Value.int .i64) (Sort.ahead w2 q) g 0 z.toArray) (some g)) := Lib.hid (fun q => by
      have h5 := ownsRow_sortedI (n := q) (os := #[]) (ss := s) (ts := z) (by rw [hzl, HSL.out]) hbg2 hcur2 (by rw [HSL.out]; exact h1) h2 h3
      rw [HSL.out, Go.Sort.grow_empty] at h5
      have h6 := grownBy_sortedI (w := w2) (g := g) (n := q) (os := #[]) z.toArray
      rw [Go.Sort.grow_empty] at h6
      exact ⟨h5, h6⟩)
    have HK := Lib.hid hk
    have HKM := Lib.hid hkm
    have HZZ := Lib.hid hzz
    have HG2 := Lib.hid hg2
    clear hw2 hrow2 hg2 hcur2 hbg2 h1 h2 h3 h4 hH2 hk hkm hzz hzl
    go_wp2_with fail
    refine HCOM.out.mono ?_
    rintro e w3 ⟨rfl, q2, rfl⟩
    obtain ⟨w3, hw3⟩ : ∃ w3, w3 = putRow (Value.int .i64) (Sort.ahead w2 q2) g 0 z.toArray := ⟨_, rfl⟩
    have hor := HOR2.out q2
    rw [← hw3] at hor ⊢
    obtain ⟨hrow3, hg3⟩ := hor
    have HROW3 := Lib.hid hrow3
    have hne : some g ≠ some (w.heap.size + 1) := fun e => by injection e with e; have := HG.out; have := HSZ.out; omega
    have hr1 := HR0.out.below HB1.out HR0.out.lt
    have hr2 : Blk w2 (w.heap.size + 1) 161 #[.int .i64 0, .bool false, .slice none 0 0] := (HG2.out.block _ hr1.lt (fun e => hne e.symm)).trans hr1
    have hr3 : Blk w3 (w.heap.size + 1) 161 #[.int .i64 0, .bool false, .slice none 0 0] := (hg3.block _ hr2.lt (fun e => hne e.symm)).trans hr2
    have HR3 := Lib.hid hr3
    have r0 := hr3.cell 0
    have r1 := hr3.cell 1
    have r2 := hr3.cell 2
    have f0 := hr3.frozen 0
    have f1 := hr3.frozen 1
    have f2 := hr3.frozen 2
    simp at r0 r1 r2
    have HB3 : Hid (Below w.heap.size w w3) := Lib.hid (by
      have hs := HSZ.out
      have hgw : w.heap.size ≤ g := by have := HG.out; omega
      have k1 : Below w.heap.size w w1 := HBW.out.trans (HB1.out.mono (by omega))
      exact below_by_new (below_by_new k1 HG2.out hgw) hg3 hgw)
    clear hw3 hrow3 hg3 hr1 hr2 hr3 hne HG2
    go_wp2_with fail
    have b3 := ((HR3.out.put 0 (.int .i64 (seq + 1))).put 1 (.bool true)).put 2 (.slice (some ⟨g, 0, none⟩) k cv)
    refine ret_cell rfl rfl (head_var b3) rfl ?_
    have hkl : (putOnce l).length = k := by rw [HPO.out, HK.out]
    refine ⟨some ⟨g, 0, none⟩, cv, by rw [hkl], ⟨?_, by rw [hkl]; have := HKM.out; omega⟩, fun b off e _ => ?_, ?_⟩
    · intro hp
      have hgl : g < w3.heap.size := (HROW3.out.lt g rfl).2
      have hgr : g ≠ w.heap.size + 1 := by have := HG.out; have := HSZ.out; omega
      refine ⟨g, 0, rfl, by simpa [World.setCell] using hgl, fun i x hx => ?_⟩
      have hx : (putOnce l)[i]? = some x := hx
      have hzx : z[i]? = some x := by
        rw [HZZ.out]
        rw [HPO.out] at hx
        have hi : i < (Lib.compact s).length := by
          rcases Nat.lt_or_ge i (Lib.compact s).length with h | h
          · exact h
          · rw [List.getElem?_eq_none h] at hx; cases hx
        rw [List.getElem?_append_left hi]
        exact hx
      have hc := HROW3.out.cells (g := g) rfl i (.int .i64 x) (by rw [List.getElem?_map, hzx]; rfl)
      rw [add_off] at hc
      rw [World.cell?_of_block (w := w3) ((Below.heap_setCell _ _ _ _ (fun e => hgr e)).trans ((Below.heap_setCell _ _ _ _ (fun e => hgr e)).trans (Below.heap_setCell _ _ _ _ (fun e => hgr e))))]
      exact hc
    · injection e with e
      injection e with e _ _
      subst e
      have hgr : g ≠ w.heap.size + 1 := by have := HG.out; have := HSZ.out; omega
      rcases HROW3.out.2 with ⟨h, _⟩ | ⟨g', cap', cur', e, _, hg', _⟩
      · cases h
      · injection e with e1 _ _
        injection e1 with e1
        injection e1 with e1 _ _
        subst e1
        exact ⟨_, _, ((Below.heap_setCell _ _ _ _ (fun e => hgr e)).trans ((Below.heap_setCell _ _ _ _ (fun e => hgr e)).trans (Below.heap_setCell _ _ _ _ (fun e => hgr e)))).trans hg'⟩
    · exact ((HB3.out.setCell (by show w.heap.size ≤ w.heap.size + 1; omega) _).setCell (by show w.heap.size ≤ w.heap.size + 1; omega) _).setCell (by show w.heap.size ≤ w.heap.size + 1; omega) _
end Go.Proofs.YtolbnkpakjdnnaaGreatDoor
