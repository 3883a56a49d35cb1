/-
  WalAll: the law itself. No statement is proved here.
-/
import Derived.Test.YtnpmeolibdjgpaaGreatDoorWalAlive
import Derived.Test.YtnpmeolibdjgpaaGreatDoorHeadRead
import Derived.Test.YtnpmeolibdjgpaaGreatDoorWalRound
import Derived.Deep.AppendLies
import Derived.Deep.DeepCutAuto
namespace Go.Proofs.YtnpmeolibdjgpaaGreatDoor
open Go.RowKit

/-- Each sector is as it was, or one of those that were to be written there. -/
def Part (s : List ByteArray) (g : List (Nat × ByteArray)) (Y : List ByteArray) : Prop := Y.length = s.length ∧ ∀ i : Nat, Y[i]? = s[i]? ∨ ∃ x ∈ g, x.1 = i ∧ Y[i]? = some x.2
theorem Part.refl (s : List ByteArray) (g : List (Nat × ByteArray)) : Part s g s := ⟨rfl, fun _ => .inl rfl⟩
theorem Part.mono {s Y : List ByteArray} {g g' : List (Nat × ByteArray)} (h : Part s g Y) (hg : ∀ x ∈ g, x ∈ g') : Part s g' Y :=
  ⟨h.1, fun i => (h.2 i).imp id fun ⟨x, hx, e⟩ => ⟨x, hg x hx, e⟩⟩
theorem kept_part (keep : List Int) (d : List (Nat × ByteArray)) : ∀ (k : Nat) (s : List ByteArray), (∀ x ∈ d, x.1 < s.length) → Part s d (keptL keep k d s) := by
  induction d with
  | nil => intro k s _; exact Part.refl _ _
  | cons w r ih =>
    intro k s h
    show Part s (w :: r) (keptL keep (k + 1) r (if oddI (keep.getD k 0) then s.set w.1 w.2 else s))
    split
    · obtain ⟨h1, h2⟩ := ih (k + 1) (s.set w.1 w.2) (fun x hx => by rw [List.length_set]; exact h x (by simp [hx]))
      refine ⟨by rw [h1, List.length_set], fun i => ?_⟩
      rcases h2 i with e | ⟨x, hx, e⟩
      · by_cases hi : w.1 = i
        · right
          refine ⟨w, by simp, hi, ?_⟩
          rw [e, ← hi, List.getElem?_set_self (h w (by simp))]
        · left
          rw [e, List.getElem?_set_ne hi]
      · exact .inr ⟨x, by simp [hx], e⟩
    · exact (ih (k + 1) s (fun x hx => h x (by simp [hx]))).mono (fun x hx => by simp [hx])

/-- A disk whose power went: what it holds is safe. -/
structure Dead (S : DS) (Y : List ByteArray) : Prop where
  off : S.on = false
  now : S.now = Y
  safe : S.safe = Y
  dirty : S.dirty = []
  unarmed : S.armed = false
  left : S.left = 0
  keep : S.keep = []
theorem Dead.restored {S : DS} {Y : List ByteArray} (h : Dead S Y) : S.restore = calm Y S.writes := by
  obtain ⟨S1, S2, S3, S4, S5, S6, S7, S8⟩ := S
  obtain ⟨h1, h2, h3, h4, h5, h6, h7⟩ := h
  simp only at h1 h2 h3 h4 h5 h6 h7
  subst h1 h2 h3 h4 h5 h6 h7
  rfl
theorem crash_dead {S : DS} (hon : S.on = true) (keep : List Int) : Dead (S.crash keep) (keptL keep 0 S.dirty S.safe) := by
  unfold DS.crash
  rw [if_pos hon]
  exact ⟨rfl, rfl, rfl, rfl, rfl, rfl, rfl⟩
theorem Dead.crash {S : DS} {Y : List ByteArray} (h : Dead S Y) (keep : List Int) : S.crash keep = S := by
  unfold DS.crash
  rw [if_neg (by rw [h.off]; decide)]
/-- Where the power stays or goes: one step of it. -/
theorem failed_cases {S : DS} (hok : S.Ok) (hon : S.on = true) : (S.fails = false ∧ S.failed.on = true ∧ S.failed.now = S.now ∧ S.failed.safe = S.safe ∧ S.failed.dirty = S.dirty ∧ S.failed.Ok) ∨ (S.fails = true ∧ ∃ Y, Dead S.failed Y ∧ Part S.safe S.dirty Y) := by
  unfold DS.fails DS.failed
  cases hA : S.armed with
  | false => left; simp [hon, hok]
  | true =>
    by_cases hl : 0 < S.left
    · left
      have h1 : decide (S.left = 0) = false := by simp; omega
      simp only [if_true, if_pos hl, h1]
      exact ⟨rfl, hon, trivial, trivial, trivial, hok.now, hok.fits⟩
    · right
      have h1 : decide (S.left = 0) = true := by simp; omega
      simp only [if_true, if_neg hl, h1]
      exact ⟨rfl, _, crash_dead hon _, kept_part _ _ 0 _ hok.fits⟩

def natW (g : List Wr1) : List (Nat × ByteArray) := g.map fun x => (x.1.toNat, x.2)
theorem writeL_cases (g : List Wr1) : ∀ S : DS, S.Ok → S.on = true → Fit S.now.length g →
    (S.errL g = 0 ∧ (S.writeL g).on = true ∧ (S.writeL g).Ok ∧ (S.writeL g).safe = S.safe ∧ (S.writeL g).now = setI S.now g ∧ ∀ x ∈ (S.writeL g).dirty, x ∈ S.dirty ++ natW g) ∨
    (S.errL g = 14 ∧ ∃ Y, Dead (S.writeL g) Y ∧ Part S.safe (S.dirty ++ natW g) Y) := by
  induction g with
  | nil => intro S hok hon _; exact .inl ⟨rfl, hon, hok, rfl, rfl, fun x hx => by have hx' : x ∈ S.dirty := hx; simpa [natW] using hx'⟩
  | cons x r ih =>
    intro S hok hon hf
    obtain ⟨h1, h2, h3⟩ := hf x (by simp)
    have hp : (S.put x.1.toNat x.2).Ok := hok.put (by omega) _
    have ew : S.write1 x.1 x.2 = (S.put x.1.toNat x.2).failed := by unfold DS.write1; rw [if_pos ⟨h1, h2, h3⟩]
    have ee : S.err1 x.1 x.2 = if (S.put x.1.toNat x.2).fails then 14 else 0 := by unfold DS.err1; rw [if_pos ⟨h1, h2⟩, if_pos h3]
    rcases failed_cases hp hon with ⟨f1, f2, f3, f4, f5, f6⟩ | ⟨f1, Y, f2, f3⟩
    · have e0 : S.err1 x.1 x.2 = 0 := by rw [ee, f1]; rfl
      rw [DS.errL, DS.writeL, if_pos e0, if_pos e0, ew]
      have hn : (S.put x.1.toNat x.2).failed.now = S.now.set x.1.toNat x.2 := f3
      have hd : (S.put x.1.toNat x.2).failed.dirty = S.dirty ++ [(x.1.toNat, x.2)] := f5
      rcases ih _ f6 f2 (by rw [hn, List.length_set]; exact fun y hy => hf y (by simp [hy])) with ⟨i1, i2, i3, i4, i5, i6⟩ | ⟨i1, Y, i2, i3⟩
      · refine .inl ⟨i1, i2, i3, i4.trans f4, by rw [i5, hn, setI_cons], fun y hy => ?_⟩
        have := i6 y hy
        rw [hd] at this
        simpa [natW] using this
      · refine .inr ⟨i1, Y, i2, ?_⟩
        rw [f4, hd] at i3
        exact i3.mono (fun y hy => by simpa [natW] using hy)
    · have e0 : S.err1 x.1 x.2 = 14 := by rw [ee, f1]; rfl
      have hne : ¬ S.err1 x.1 x.2 = 0 := by rw [e0]; decide
      rw [DS.errL, DS.writeL, if_neg hne, if_neg hne, ew]
      refine .inr ⟨e0, Y, f2, f3.mono (fun y hy => ?_)⟩
      have hd : (S.put x.1.toNat x.2).dirty = S.dirty ++ [(x.1.toNat, x.2)] := rfl
      rw [hd] at hy
      rcases List.mem_append.1 hy with hy | hy
      · exact List.mem_append_left _ hy
      · rw [List.mem_singleton.1 hy]
        exact List.mem_append_right _ (by simp [natW])

/-- A disk with power on which all is safe. -/
structure Clean (S : DS) (s : List ByteArray) : Prop where
  on : S.on = true
  now : S.now = s
  safe : S.safe = s
  dirty : S.dirty = []
theorem Clean.ok {S : DS} {s : List ByteArray} (h : Clean S s) : S.Ok := ⟨by rw [h.now, h.safe, h.dirty]; rfl, by rw [h.dirty]; intro w hw; cases hw⟩
/-- One group: written and flushed, or the power went in it. -/
theorem group_cases {S : DS} {s : List ByteArray} (h : Clean S s) (g : List Wr1) (hf : Fit s.length g) :
    (S.errW g = 0 ∧ (S.write g).errF = 0 ∧ Clean (S.write g).flush (setI s g)) ∨ (∃ Y, Part s (natW g) Y ∧ ((S.errW g = 14 ∧ Dead (S.write g) Y) ∨ (S.errW g = 0 ∧ (S.write g).errF = 14 ∧ Dead (S.write g).flush Y))) := by
  have e1 : S.errW g = S.errL g := by unfold DS.errW; rw [if_pos h.on]
  have e2 : S.write g = S.writeL g := by unfold DS.write; rw [if_pos h.on]
  rw [e1, e2]
  rcases writeL_cases g S h.ok h.on (by rw [h.now]; exact hf) with ⟨i1, i2, i3, i4, i5, i6⟩ | ⟨i1, Y, i2, i3⟩
  · rcases failed_cases i3 i2 with ⟨f1, f2, f3, f4, f5, f6⟩ | ⟨f1, Y, f2, f3⟩
    · left
      refine ⟨i1, by unfold DS.errF; rw [if_pos i2, f1]; rfl, ?_⟩
      have e : (S.writeL g).flush = { (S.writeL g).failed with safe := (S.writeL g).now, dirty := [] } := by unfold DS.flush; rw [if_pos i2, f1]; rfl
      rw [e]
      exact ⟨f2, by show (S.writeL g).failed.now = _; rw [f3, i5, h.now], by show (S.writeL g).now = _; rw [i5, h.now], rfl⟩
    · right
      have e : (S.writeL g).flush = (S.writeL g).failed := by unfold DS.flush; rw [if_pos i2, f1]; rfl
      refine ⟨Y, ?_, .inr ⟨i1, by unfold DS.errF; rw [if_pos i2, f1]; rfl, by rw [e]; exact f2⟩⟩
      rw [i4, h.safe] at f3
      exact f3.mono (fun x hx => by have := i6 x hx; rw [h.dirty] at this; simpa using this)
  · right
    refine ⟨Y, ?_, .inl ⟨i1, i2⟩⟩
    rw [h.safe, h.dirty] at i3
    simpa using i3

/-- Groups: all written, or the power went in one of them. -/
theorem put_cases (G : List (List Wr1)) : ∀ (S : DS) (s : List ByteArray), Clean S s → (∀ g ∈ G, Fit s.length g) →
    (putE S G = 0 ∧ Clean (putS S G) (G.foldl setI s)) ∨ (putE S G = 14 ∧ ∃ (j : Nat) (g : List Wr1) (Y : List ByteArray), G[j]? = some g ∧ Part ((G.take j).foldl setI s) (natW g) Y ∧ Dead (putS S G) Y) := by
  induction G with
  | nil => intro S s h _; exact .inl ⟨rfl, h⟩
  | cons g r ih =>
    intro S s h hf
    rcases group_cases h g (hf g (by simp)) with ⟨h1, h2, h3⟩ | ⟨Y, hY, hE⟩
    · rw [putE, putS, if_pos h1, if_pos h2, if_pos h1, if_pos h2]
      rcases ih _ _ h3 (fun g' hg' => by rw [setI_length]; exact hf g' (by simp [hg'])) with ⟨k1, k2⟩ | ⟨k1, j, g', Y, k2, k3, k4⟩
      · exact .inl ⟨k1, k2⟩
      · exact .inr ⟨k1, j + 1, g', Y, by simpa using k2, by simpa using k3, k4⟩
    · right
      rcases hE with ⟨h1, h2⟩ | ⟨h1, h2, h3⟩
      · have hne : ¬ S.errW g = 0 := by rw [h1]; decide
        rw [putE, putS, if_neg hne, if_neg hne]
        exact ⟨h1, 0, g, Y, rfl, hY, h2⟩
      · have hne : ¬ (S.write g).errF = 0 := by rw [h2]; decide
        rw [putE, putS, if_pos h1, if_neg hne, if_pos h1, if_neg hne]
        exact ⟨h2, 0, g, Y, rfl, hY, h3⟩
end Go.Proofs.YtnpmeolibdjgpaaGreatDoor

namespace Go.Proofs.YtnpmeolibdjgpaaGreatDoor
open Go.RowKit

/-- What redo writes home. -/
def redoL (X : List ByteArray) : Nat → List Int → List Wr1
  | _, [] => []
  | k, t :: r => (111 + t, X.getD (1 + k) .empty) :: redoL X (k + 1) r
theorem redoL_len (X : List ByteArray) (ts : List Int) : ∀ k, (redoL X k ts).length = ts.length := by
  induction ts with
  | nil => intro k; rfl
  | cons t r ih => intro k; simp [redoL, ih]
theorem redoL_snoc (X : List ByteArray) (t : Int) (ts : List Int) : ∀ k, redoL X k (ts ++ [t]) = redoL X k ts ++ [(111 + t, X.getD (1 + (k + ts.length)) .empty)] := by
  induction ts with
  | nil => intro k; simp [redoL]
  | cons u r ih =>
    intro k
    simp only [List.cons_append, redoL, ih, List.length_cons]
    rw [show k + 1 + r.length = k + (r.length + 1) by omega]
theorem redoL_at (X : List ByteArray) (ts : List Int) : ∀ k, ∀ x ∈ redoL X k ts, ∃ (j : Nat) (t : Int), x = (111 + t, X.getD (1 + j) .empty) ∧ k ≤ j ∧ j < k + ts.length ∧ t ∈ ts ∧ ts[j - k]? = some t := by
  induction ts with
  | nil => intro k x hx; cases hx
  | cons t r ih =>
    intro k x hx
    rcases List.mem_cons.1 hx with rfl | hx
    · exact ⟨k, t, rfl, Nat.le_refl _, by simp, by simp, by simp⟩
    · obtain ⟨j, u, e, h1, h2, h3, h4⟩ := ih (k + 1) x hx
      refine ⟨j, u, e, by omega, by simp only [List.length_cons]; omega, by simp [h3], ?_⟩
      rw [show j - k = (j - (k + 1)) + 1 by omega, List.getElem?_cons_succ]
      exact h4
/-- A row of writes as far as it is filled. -/
structure RowTo (w : World) (g tn : Nat) (l : List Wr1) (j : Nat) : Prop where
  ex : ∃ C : List Value, Blk w g 71 C.toArray ∧ C.length = tn * 2 ∧ C.take (j * 2) = flatI (l.take j)
theorem RowTo.below {w w' : World} {g tn j : Nat} {l : List Wr1} (h : RowTo w g tn l j) (hb : Below w.heap.size w w') : RowTo w' g tn l j := by
  obtain ⟨C, h1, h2, h3⟩ := h.ex
  exact ⟨C, h1.below hb h1.lt, h2, h3⟩
theorem RowTo.next {w : World} {g tn j : Nat} {l : List Wr1} {x : Wr1} (h : RowTo w g tn l j) (hx : l[j]? = some x) (hj : j < tn) :
    ∃ u0 u1, w.cell? ⟨g, j * 2, none⟩ = some u0 ∧ w.cell? ⟨g, j * 2 + 1, none⟩ = some u1 ∧ w.frozen? ⟨g, j * 2, none⟩ = false ∧ w.frozen? ⟨g, j * 2 + 1, none⟩ = false ∧ g < w.heap.size ∧
      RowTo ((w.setCell ⟨g, j * 2, none⟩ (.int .i64 x.1)).setCell ⟨g, j * 2 + 1, none⟩ (.string x.2)) g tn l (j + 1) := by
  obtain ⟨C, h1, h2, h3⟩ := h.ex
  refine ⟨C[j * 2]'(by omega), C[j * 2 + 1]'(by omega), ?_, ?_, h1.frozen _, h1.frozen _, h1.lt, (C.set (j * 2) (.int .i64 x.1)).set (j * 2 + 1) (.string x.2), ?_, by simpa using h2, ?_⟩
  · rw [h1.cell, List.getElem?_toArray, List.getElem?_eq_getElem]
  · rw [h1.cell, List.getElem?_toArray, List.getElem?_eq_getElem]
  · have := (h1.put (j * 2) (.int .i64 x.1)).put (j * 2 + 1) (.string x.2)
    simpa using this
  · have e : l.take (j + 1) = l.take j ++ [x] := by rw [List.take_add_one, hx]; rfl
    rw [e, flatI_snoc, ← h3]
    rw [show (j + 1) * 2 = j * 2 + 1 + 1 by omega]
    have hl : j * 2 + 1 < ((C.set (j * 2) (.int .i64 x.1)).set (j * 2 + 1) (.string x.2)).length := by simp; omega
    have hl0 : j * 2 < ((C.set (j * 2) (.int .i64 x.1)).set (j * 2 + 1) (.string x.2)).length := by simp; omega
    rw [List.take_succ_eq_append_getElem hl, List.take_succ_eq_append_getElem hl0]
    rw [List.getElem_set_self, List.getElem_set_ne (by omega), List.getElem_set_self, List.take_set_of_le (by omega), List.take_set_of_le (Nat.le_refl _)]
    simp
theorem RowTo.wrts {w : World} {g tn : Nat} {l : List Wr1} {O : List Nat} (h : RowTo w g tn l tn) (hl : l.length = tn) (hO : g ∉ O) : Wrts w O (some ⟨g, 0, none⟩) l := fun _ => by
  obtain ⟨C, h1, h2, h3⟩ := h.ex
  rw [List.take_of_length_le (by omega), List.take_of_length_le (by omega)] at h3
  subst h3
  refine ⟨g, 0, rfl, h1.lt, hO, fun j x hx => ?_⟩
  obtain ⟨q1, q2⟩ := flatI_get hx
  rw [h1.cell, h1.cell, List.getElem?_toArray, List.getElem?_toArray, show 0 + j * 2 = 2 * j by omega]
  exact ⟨q1, q2⟩

structure RedoOk (N : Nat) (q : Int) (X : List ByteArray) (T : List Int) : Prop where
  len : X.length = N
  dim : 140 ≤ N ∧ N ≤ 2000
  few : T.length ≤ 110
  range : ∀ t ∈ T, 0 ≤ t ∧ 111 + t < (N : Int)
  seq : 0 ≤ q ∧ q ≤ 1099511627776
  size : ∀ k, k < T.length → (X.getD (1 + k) .empty).size = 256
  small : ∀ x ∈ X, x.size ≤ 100000
def redoS (X : List ByteArray) (q : Int) (T : List Int) : List ByteArray := setI (setI X (redoL X 0 T)) [(0, doneB q)]
theorem RedoOk.fits {N : Nat} {q : Int} {X : List ByteArray} {T : List Int} (h : RedoOk N q X T) : ∀ g ∈ [redoL X 0 T, [(0, doneB q)]], Fit N g := by
  intro g hg x hx
  simp only [List.mem_cons, List.not_mem_nil, or_false] at hg
  rcases hg with rfl | rfl
  · obtain ⟨j, t, rfl, h1, h2, h3, h4⟩ := redoL_at X T 0 x hx
    have := h.range t h3
    exact ⟨by simp only; omega, by simp only; omega, h.size j (by omega)⟩
  · rw [List.mem_singleton.1 hx]
    have := h.dim
    exact ⟨by simp, by simp only; omega, doneB_size h.seq.1 h.seq.2⟩

set_option maxRecDepth 100000 in
set_option maxHeartbeats 1000000 in
theorem wredo_any {w : World} {gw gd N c tn n : Nat} {q k : Int} {O : List Nat} {X : List ByteArray} {T : List Int} (A : Option Addr) (hok : RedoOk N q X T) (h : Blk w gw 128 (walC gd q true k)) (hd : DiskAt w O gd (calm X n)) (hgw : gw ∉ O)
    (hT : T.length = tn) (hA : Ints w w.heap.size A T) (hn : n < 800000000000) :
    Calls Tryz.prog 103 #[.pointer (some ⟨gw, 0, none⟩), .agg #[.int .i64 q, .bool true, .slice A tn c]] w fun e w' => e = .returned (.int .i64 0) ∧ Turns O gd (calm (redoS X q T) (n + (tn + 1))) w w' := by
  obtain ⟨i1, hi1, hy0, hy1, hy2⟩ := info_parts clwrites_info
  have HOK := Lib.hid hok
  have HW := Lib.hid h
  have HDK := Lib.hid hd
  have HGW := Lib.hid hgw
  have HT := Lib.hid hT
  have HA := Lib.hid hA
  have HOL : Hid (∀ b ∈ O, b < w.heap.size) := Lib.hid (fun b hb => hd.lt hb)
  have htn : (tn : Int) ≤ 110 := by have := hok.few; omega
  have HI := Lib.hid hi1
  have HN := Lib.hid hn
  have HHAS : Hid (∀ wx, Below w.heap.size w wx → ∀ t ∈ T, Calls Tryz.prog 112 #[.pointer (some ⟨gw, 0, none⟩), .int .i64 t] wx fun e w' => e = .returned (.bool true) ∧ wx = w') := Lib.hid (fun wx hx t ht => by
    have := whas_any t (h.below hx h.lt) (hd.below hx) hok.len (by have := hok.dim; omega) (by have := hok.dim; omega)
    rw [decide_eq_true (by have := hok.range t ht; omega)] at this
    exact this)
  have HREAD : Hid (∀ wx, Below w.heap.size w wx → ∀ j, j < tn → Calls Tryz.prog 102 #[.pointer (some ⟨gd, 0, none⟩), .int .i64 (1 + (j : Int))] wx fun e w' => e = .returned (.tuple #[.string (X.getD (1 + j) .empty), .int .i64 0]) ∧ Below wx.heap.size wx w') := Lib.hid (fun wx hx j hj => by
    have := dread_any (1 + (j : Int)) (hd.below hx) hok.small
    have hlt : 1 + j < X.length := by have := hok.len; have := hok.dim; have := hok.few; omega
    have e := calm_read (n := n) (List.getElem?_eq_getElem hlt)
    rw [show ((1 + j : Nat) : Int) = 1 + (j : Int) by omega] at e
    rw [e.1, e.2] at this
    rw [List.getD_eq_getElem?_getD, List.getElem?_eq_getElem hlt]
    exact this)
  have HDONE : Hid (∀ wx, Calls Tryz.prog 23 #[.agg #[.int .i64 q, .bool true, .slice A tn c]] wx fun e w' => e = .returned (.agg #[.int .i64 q, .bool false, .slice none 0 0]) ∧ Below wx.heap.size wx w') := Lib.hid (fun wx => by
    rw [← hT]
    exact hdone_any (HD.mk q true T) A c wx)
  have HSEC : Hid (∀ wx, Calls Tryz.prog 107 #[.agg #[.int .i64 q, .bool false, .slice none 0 0]] wx fun e w' => ∃ b, e = .returned (.tuple #[.slice (some ⟨b, 0, none⟩) 1 1, .int .i64 0]) ∧ Blk w' b 71 #[.int .i64 0, .string (doneB q)] ∧ wx.heap.size ≤ b ∧ Below wx.heap.size wx w') := Lib.hid (fun wx => by
    refine (wsector_any (HD.mk q false []) none 0 wx ⟨Ints.nil _ _ _, by show 0 ≤ _; omega⟩).mono ?_
    rintro e w' ⟨b, Y, k', rfl, hs, r1, r2, r3⟩
    unfold secIs at hs
    rw [if_pos (valid_done hok.seq.1 hok.seq.2)] at hs
    obtain ⟨rfl, rfl⟩ := hs
    exact ⟨b, rfl, r1, r2, r3⟩)
  clear hok h hd hgw hT hA hi1 hn
  go_enter Tryz.func103, Tryz.ntmps103
  go_upto_region 1 with fail
  obtain ⟨w1, hw1⟩ : ∃ w1, w1 = w.alloc (.cells #[.int .i64 q, .bool true, .slice A tn c] 29) := ⟨_, rfl⟩
  obtain ⟨gb, hgb⟩ : ∃ gb, gb = w.heap.size := ⟨_, rfl⟩
  rw [← hw1, ← hgb]
  have HB1 : Hid (Below w.heap.size w w1) := Lib.hid (by rw [hw1]; exact (Below.refl _ _).alloc (Nat.le_refl _) _)
  have HH1 : Hid (Blk w1 gb 29 #[.int .i64 q, .bool true, .slice A tn c]) := Lib.hid (by rw [hw1, hgb]; exact Blk.new w _ _)
  have HGB : Hid (w.heap.size ≤ gb) := Lib.hid (by omega)
  clear hw1 hgb
  obtain ⟨w2, hmk, hown, hgr⟩ := run_make_full (P := Tryz.prog) w1 w1.heap.size 67 71 i1 (.agg #[.int .i64 0, .string .empty]) 2 Tryz.underlying67 HI.out hy0 hy1 .i64 .i64 tn (by rw [hy2]; omega) (by unfold maxLen; omega) (Nat.le_refl _)
  obtain ⟨ga, hga⟩ : ∃ ga, ga = w1.heap.size := ⟨_, rfl⟩
  rw [← hga] at hmk hown
  have HR2 : Hid (RowTo w2 ga tn (redoL X 0 T) 0) := Lib.hid (by
    rcases hown.2 with ⟨h, _⟩ | ⟨g', cap, cur, h, _, hg, h1, h2, h3, _⟩
    · cases h
    · injection h with h4 _ h5
      injection h4 with h4
      injection h4 with h4 _ _
      subst h4 h5
      exact ⟨cur.toList, by simpa using (show Blk w2 ga _ cur from hg), by simpa using h3, by simp [flatI]⟩)
  have HB12 : Hid (Below w1.heap.size w1 w2) := Lib.hid ⟨hgr.os, hgr.tape, hgr.output, hgr.size, fun b hb => hgr.block b hb (fun e => by cases e)⟩
  have HH2 := Lib.hid (HH1.out.below HB12.out HH1.out.lt)
  have HB2 : Hid (Below w.heap.size w w2) := Lib.hid (HB1.out.trans (HB12.out.mono HB1.out.size))
  have HGA : Hid (w.heap.size ≤ ga ∧ ga ≠ gb) := Lib.hid ⟨by rw [hga]; exact HB1.out.size, by have := HH1.out.lt; omega⟩
  have c2 := HH1.out.cell 2
  simp at c2
  clear hown hgr hga
  go_upto_region 2 with fail
  have c2 := HH2.out.cell 2
  simp at c2
  clear hmk
  go_wp2_with fail
  clear c2
  go_loopw [19] (fun i wr => ∃ j : Nat, j ≤ tn ∧ i = .int .i64 j ∧ RowTo wr ga tn (redoL X 0 T) j ∧ Blk wr gb 29 #[.int .i64 q, .bool true, .slice A tn c] ∧ Below w.heap.size w wr) (fun i _ => tn - (intOf i).toNat)
  case atStart => exact ⟨0, Nat.zero_le _, rfl, HR2.out, HH2.out, HB2.out⟩
  case round =>
    obtain ⟨j, hj, rfl, hr, hh, hb⟩ := hrel
    have HR := Lib.hid hr
    have HH := Lib.hid hh
    have HB := Lib.hid hb
    clear hr hh hb HR2 HH2 HB2
    by_cases hlt : j < tn
    · have hjl : j < T.length := by rw [HT.out]; exact hlt
      obtain ⟨b, off, rfl, hbb, hc⟩ := HA.out (by omega)
      obtain ⟨t, ht⟩ : ∃ t, t = T[j] := ⟨_, rfl⟩
      have htj : T[j]? = some t := by rw [ht]; exact List.getElem?_eq_getElem hjl
      have htm := List.mem_of_getElem? htj
      have hct : wr.cell? ⟨b, off + j, none⟩ = some (.int .i64 t) := (HB.out.cell (p := ⟨b, off + j, none⟩) hbb).trans (hc j t htj)
      have HHJ := Lib.hid (HHAS.out wr HB.out t htm)
      have HRJ := Lib.hid (HREAD.out wr HB.out j hlt)
      obtain ⟨D, hD⟩ : ∃ D, D = X.getD (1 + j) .empty := ⟨_, rfl⟩
      rw [← hD] at HRJ
      have hx : (redoL X 0 T)[j]? = some (111 + t, D) := by
        have h1 : T.take (j + 1) = T.take j ++ [t] := by rw [List.take_add_one, htj]; rfl
        have h2 : T = T.take j ++ (t :: T.drop (j + 1)) := by rw [ht, ← List.drop_eq_getElem_cons hjl, List.take_append_drop]
        have h3 : ∀ (a b : List Int) (k : Nat), redoL X k (a ++ b) = redoL X k a ++ redoL X (k + a.length) b := by
          intro a
          induction a with
          | nil => intro b k; simp [redoL]
          | cons u r ih => intro b k; simp only [List.cons_append, redoL, ih, List.length_cons]; rw [show k + 1 + r.length = k + (r.length + 1) by omega]
        rw [h2, h3, List.getElem?_append_right (by rw [redoL_len, List.length_take]; omega), redoL_len]
        have h4 : (T.take j).length = j := by rw [List.length_take]; omega
        rw [h4, Nat.sub_self]
        show some (111 + t, X.getD (1 + (0 + j)) .empty) = _
        rw [Nat.zero_add, ← hD]
      have HX := Lib.hid hx
      have hwal := HW.out.below HB.out HW.out.lt
      have c0 := hwal.cell 0
      simp [walC] at c0
      have hr := HOK.out.range t htm
      have hd := HOK.out.dim
      obtain ⟨r0, r1⟩ := hr
      have r2 : t ≤ 2000 := by omega
      have hjI : (j : Int) < (tn : Int) := by omega
      clear hx hjl ht htj htm hc hbb hwal hD r1 hd
      go_upto_region 7 with (go_at_call 112; refine HHJ.out.mono ?_; rintro e w3 ⟨rfl, rfl⟩)
      go_wp2_with fail
      refine HRJ.out.mono ?_
      rintro e w3 ⟨rfl, hb3⟩
      have HB3 := Lib.hid (HB.out.trans (hb3.mono HB.out.size))
      have HH3 := Lib.hid (HH.out.below hb3 HH.out.lt)
      obtain ⟨u0, u1, a0, a1, f0, f1, hgal, hrn⟩ := (HR.out.below hb3).next HX.out hlt
      have HRN := Lib.hid hrn
      clear hb3 hrn c0 hct
      go_wp2_with fail
      go_roundw
      case rel =>
        refine ⟨j + 1, by omega, by go_num, HRN.out, ?_, (HB3.out.setCell HGA.out.1 _).setCell HGA.out.1 _⟩
        exact (HH3.out.far (p := ⟨ga, j * 2, none⟩) (fun e => HGA.out.2 e.symm) _).far (p := ⟨ga, j * 2 + 1, none⟩) (fun e => HGA.out.2 e.symm) _
      case measure => simp [intOf]; omega
    · obtain rfl : tn = j := by omega
      have c0 := HH.out.cell 0
      have c1 := HH.out.cell 1
      have c2 := HH.out.cell 2
      simp at c0 c1 c2
      go_wp2_with fail
      refine (HDONE.out _).mono ?_
      rintro e w3 ⟨rfl, hb3⟩
      have HB3 := Lib.hid (HB.out.trans (hb3.mono HB.out.size))
      have HR3 := Lib.hid (HR.out.below hb3)
      clear hb3 c0 c1 c2
      go_wp2_with fail
      refine (HSEC.out _).mono ?_
      rintro e w4 ⟨b2, rfl, hs2, hsb2, hb4⟩
      have HS4 := Lib.hid hs2
      have HSB : Hid (w.heap.size ≤ b2) := Lib.hid (Nat.le_trans HB3.out.size hsb2)
      have HB4 := Lib.hid (HB3.out.trans (hb4.mono HB3.out.size))
      have HR4 := Lib.hid (HR3.out.below hb4)
      clear hs2 hsb2 hb4
      go_wp2_with fail
      obtain ⟨wp, hwp⟩ : ∃ wp, wp = w4.alloc (.cells #[.slice (some ⟨ga, 0, none⟩) tn tn, .slice (some ⟨b2, 0, none⟩) 1 1] 67) := ⟨_, rfl⟩
      obtain ⟨bg, hbg⟩ : ∃ bg, bg = w4.heap.size := ⟨_, rfl⟩
      rw [← hwp, ← hbg]
      have hB4P : Below w4.heap.size w4 wp := by rw [hwp]; exact (Below.refl _ _).alloc (Nat.le_refl _) _
      have hGP : Blk wp bg 67 #[.slice (some ⟨ga, 0, none⟩) tn tn, .slice (some ⟨b2, 0, none⟩) 1 1] := by rw [hwp, hbg]; exact Blk.new w4 _ _
      have hBWP : Below w.heap.size w wp := HB4.out.trans (hB4P.mono HB4.out.size)
      have hrl : (redoL X 0 T).length = tn := by rw [redoL_len]; exact HT.out
      have hput := wput_any (bg := bg) (m := 2) (c := 2) [⟨some ⟨ga, 0, none⟩, tn, redoL X 0 T⟩, ⟨some ⟨b2, 0, none⟩, 1, [(0, doneB q)]⟩] (HW.out.below hBWP HW.out.lt) (HDK.out.below hBWP) (calm_ok X n) HGW.out rfl (fun j x hx => by
        match j, hx with
        | 0, hx =>
          injection hx with hx
          subst hx
          refine ⟨?_, (HR4.out.below hB4P).wrts hrl (fun hm => by have := HOL.out _ hm; have := HGA.out.1; omega), by show (redoL X 0 T).length ≤ _; omega⟩
          unfold WI.val
          simp only
          rw [hrl]
          exact hGP.cell 0
        | 1, hx =>
          injection hx with hx
          subst hx
          exact ⟨hGP.cell 1, blk_wrts (HS4.out.below hB4P HS4.out.lt) HOL.out HSB.out, by show 1 ≤ _; omega⟩) hGP.lt (fun hm => by have := HOL.out _ hm; have := HB4.out.size; omega) (by omega) (show (0 : Nat) ≤ 9223372036854775807 by decide) (show n < 900000000000 by have := HN.out; omega) (show (0 : Nat) < 900000000000 by decide)
      obtain ⟨p1, p2⟩ := calm_put [redoL X 0 T, [(0, doneB q)]] X n (fun g hg => by rw [HOK.out.len]; exact HOK.out.fits g hg)
      simp only [List.map_cons, List.map_nil] at hput
      rw [p1, p2] at hput
      have HPUT := Lib.hid hput
      have HBWP := Lib.hid hBWP
      clear hput p1 p2 hwp hbg hB4P hGP hBWP
      refine HPUT.out.mono ?_
      rintro e w5 ⟨rfl, hT5⟩
      have HT5 := Lib.hid hT5
      clear hT5
      go_wp2_with fail
      go_ret
      refine ⟨rfl, ?_⟩
      have e : n + sumL [redoL X 0 T, [(0, doneB q)]] = n + (tn + 1) := by unfold sumL; simp only [List.foldr_cons, List.foldr_nil, hrl, List.length_cons, List.length_nil]
      have h5 := HT5.out
      rw [e] at h5
      exact Turns.after HBWP.out h5
end Go.Proofs.YtnpmeolibdjgpaaGreatDoor

namespace Go.Proofs.YtnpmeolibdjgpaaGreatDoor
open Go.RowKit

/-- A disk that was opened: the Wal, and what is as it was. -/
def OpenedAt (O : List Nat) (gd gw : Nat) (S : DS) (q : Int) (w w' : World) : Prop :=
  ∃ O', DiskAt w' O' gd S ∧ (∀ b ∈ O', b ∈ O ∨ w.heap.size ≤ b) ∧ Keep O w w' ∧ Blk w' gw 128 (walC gd q true 0) ∧ w.heap.size ≤ gw ∧ gw ∉ O'
theorem OpenedAt.after {O : List Nat} {gd gw : Nat} {S1 S : DS} {q : Int} {w w1 w' : World} (hT : Turns O gd S1 w w1) (h : ∀ O1, DiskAt w1 O1 gd S1 → OpenedAt O1 gd gw S q w1 w') : OpenedAt O gd gw S q w w' := by
  obtain ⟨O1, d1, d2, d3⟩ := hT
  obtain ⟨O2, e1, e2, e3, e4, e5, e6⟩ := h O1 d1
  refine ⟨O2, e1, fun b hb => ?_, d3.trans e3 d2, e4, Nat.le_trans d3.size e5, e6⟩
  rcases e2 b hb with hb | hb
  · exact d2 b hb
  · exact .inr (Nat.le_trans d3.size hb)
theorem OpenedAt.of_plain {O : List Nat} {gd gw : Nat} {S : DS} {q : Int} {w w' : World} (hd : DiskAt w O gd S) (h1 : Blk w' gw 128 (walC gd q true 0)) (h2 : w.heap.size ≤ gw) (h3 : Below w.heap.size w w') : OpenedAt O gd gw S q w w' :=
  ⟨O, hd.below h3, fun b hb => .inl hb, Keep.of_below h3, h1, h2, fun hm => by have := hd.lt hm; omega⟩

set_option maxRecDepth 100000 in
set_option maxHeartbeats 2000000 in
theorem wopen_full {w : World} {gd N n : Nat} {q : Int} {O : List Nat} {X : List ByteArray} {T : List Int} (hd : DiskAt w O gd (calm X n)) (hok : RedoOk N q X T) (hv : (HD.mk q true T).validB = true) (hX : X[0]? = some (fullB q T)) (hn : n < 800000000000) :
    Calls Tryz.prog 27 #[.pointer (some ⟨gd, 0, none⟩)] w fun e w' => ∃ gw, e = .returned (.tuple #[.pointer (some ⟨gw, 0, none⟩), .int .i64 0]) ∧ OpenedAt O gd gw (calm (redoS X q T) (n + (T.length + 1))) q w w' := by
  obtain ⟨tn, htn⟩ : ∃ tn, tn = T.length := ⟨_, rfl⟩
  rw [← htn]
  obtain ⟨b, hb⟩ : ∃ b, b = fullB q T := ⟨_, rfl⟩
  rw [← hb] at hX
  have hr0 := calm_read (n := n) hX
  have HR : Hid (Calls Tryz.prog 102 #[.pointer (some ⟨gd, 0, none⟩), .int .i64 0] w fun e w' => e = .returned (.tuple #[.string b, .int .i64 0]) ∧ Below w.heap.size w w') := Lib.hid (by
    have := dread_any 0 hd hok.small
    have e1 : (calm X n).read 0 = b := hr0.1
    have e2 : (calm X n).errR 0 = 0 := hr0.2
    rw [e1, e2] at this
    exact this)
  have HRD : Hid (∀ W, Calls Tryz.prog 15 #[.string b] W fun e w' => ∃ A c, e = .returned (.tuple #[.agg #[.int .i64 q, .bool true, .slice A tn c], .int .i64 0]) ∧ Ints w' w'.heap.size A T ∧ Below W.heap.size W w') := Lib.hid (fun W => by
    rw [hb]
    refine (hread_laid (HD.mk q true T) hv W).mono ?_
    rintro e w' ⟨A, c, rfl, ha, h3⟩
    refine ⟨A, c, ?_, ha.lie, h3⟩
    unfold HD.val
    simp only
    rw [htn])
  have HDN : Hid (∀ W A c, Calls Tryz.prog 23 #[.agg #[.int .i64 q, .bool true, .slice A tn c]] W fun e w' => e = .returned (.agg #[.int .i64 q, .bool false, .slice none 0 0]) ∧ Below W.heap.size W w') := Lib.hid (fun W A c => by
    rw [htn]
    exact hdone_any (HD.mk q true T) A c W)
  have HREDO : Hid (∀ W gw A c, Below w.heap.size w W → Blk W gw 128 (walC gd q true 0) → w.heap.size ≤ gw → Ints W W.heap.size A T → Calls Tryz.prog 103 #[.pointer (some ⟨gw, 0, none⟩), .agg #[.int .i64 q, .bool true, .slice A tn c]] W fun e w' => e = .returned (.int .i64 0) ∧ OpenedAt O gd gw (calm (redoS X q T) (n + (tn + 1))) q w w') := Lib.hid (fun W gw A c hW h1 h2 h3 => by
    have hgw : gw ∉ O := fun hm => by have := hd.lt hm; omega
    refine (wredo_any A hok h1 (hd.below hW) hgw htn.symm h3 hn).mono ?_
    rintro e w' ⟨rfl, O', d1, d2, d3⟩
    refine ⟨rfl, O', d1, fun b hb => ?_, (Keep.of_below hW).trans d3 (fun _ hb => .inl hb), (d3.block gw h1.lt hgw).trans h1, h2, fun hm => ?_⟩
    · rcases d2 b hb with h | h
      · exact .inl h
      · exact .inr (Nat.le_trans hW.size h)
    · rcases d2 gw hm with h | h
      · exact hgw h
      · have := h1.lt; omega)
  clear hd hok hv hX hn hr0 hb htn
  go_enter Tryz.func27, Tryz.ntmps27
  go_wp2_with fail
  refine HR.out.mono ?_
  rintro e w1 ⟨rfl, hb1⟩
  have HB1 := Lib.hid hb1
  clear hb1
  go_wp2_with fail
  refine (HRD.out _).mono ?_
  rintro e w2 ⟨A, c, rfl, hin, hb2⟩
  have HB2 := Lib.hid (HB1.out.trans (hb2.mono HB1.out.size))
  have HIN := Lib.hid hin
  clear hb2 hin
  go_upto_region 9 with fail
  obtain ⟨w3, hw3⟩ : ∃ w3, w3 = w2.alloc (.cells #[.int .i64 q, .bool true, .slice A tn c] 29) := ⟨_, rfl⟩
  obtain ⟨g6, hg6⟩ : ∃ g6, g6 = w2.heap.size := ⟨_, rfl⟩
  rw [← hw3, ← hg6]
  have HH3 : Hid (Blk w3 g6 29 #[.int .i64 q, .bool true, .slice A tn c]) := Lib.hid (by rw [hw3, hg6]; exact Blk.new w2 _ _)
  have HB23 : Hid (Below w2.heap.size w2 w3) := Lib.hid (by rw [hw3]; exact (Below.refl _ _).alloc (Nat.le_refl _) _)
  have HB3 : Hid (Below w.heap.size w w3) := Lib.hid (HB2.out.trans (HB23.out.mono HB2.out.size))
  have HIN3 : Hid (Ints w3 w3.heap.size A T) := Lib.hid ((HIN.out.below HB23.out).more HB23.out.size)
  have c0 := HH3.out.cell 0
  have c1 := HH3.out.cell 1
  have c2 := HH3.out.cell 2
  simp at c0 c1 c2
  clear hw3 hg6
  go_wp2_with fail
  refine (HDN.out _ A c).mono ?_
  rintro e w4 ⟨rfl, hb4⟩
  have HH4 := Lib.hid (HH3.out.below hb4 HH3.out.lt)
  have HB4 := Lib.hid (HB3.out.trans (hb4.mono HB3.out.size))
  have HIN4 : Hid (Ints w4 w4.heap.size A T) := Lib.hid ((HIN3.out.below hb4).more hb4.size)
  clear hb4 c0 c1 c2
  go_upto_region 10 with fail
  obtain ⟨w5, hw5⟩ : ∃ w5, w5 = w4.alloc (.cells (walC gd q true 0) 128) := ⟨_, rfl⟩
  obtain ⟨gw, hgw⟩ : ∃ gw, gw = w4.heap.size := ⟨_, rfl⟩
  have HB45 : Hid (Below w4.heap.size w4 w5) := Lib.hid (by rw [hw5]; exact (Below.refl _ _).alloc (Nat.le_refl _) _)
  have HH5 : Hid (Blk w5 gw 128 (walC gd q true 0)) := Lib.hid (by rw [hw5, hgw]; exact Blk.new w4 _ _)
  have HB5 : Hid (Below w.heap.size w w5) := Lib.hid (HB4.out.trans (HB45.out.mono HB4.out.size))
  have HG5 : Hid (w.heap.size ≤ gw) := Lib.hid (by rw [hgw]; exact HB4.out.size)
  have HIN5 : Hid (Ints w5 w5.heap.size A T) := Lib.hid ((HIN4.out.below HB45.out).more HB45.out.size)
  have hh5 := HH4.out.below HB45.out HH4.out.lt
  unfold walC at hw5
  rw [← hw5, ← hgw]
  have c0 := hh5.cell 0
  have c1 := hh5.cell 1
  have c2 := hh5.cell 2
  simp at c0 c1 c2
  clear hw5 hgw hh5
  go_wp2_with fail
  refine (HREDO.out _ _ A c HB5.out HH5.out HG5.out HIN5.out).mono ?_
  rintro e w6 ⟨rfl, h6⟩
  have H6 := Lib.hid h6
  clear h6 c0 c1 c2
  go_wp2_with fail
  go_ret2
  exact ⟨gw, rfl, H6.out⟩

set_option maxRecDepth 100000 in
set_option maxHeartbeats 2000000 in
theorem wagain_any {w : World} {gd : Nat} {O : List Nat} {S S' : DS} {q : Int} (hd : DiskAt w O gd S)
    (hO : ∀ W O1, DiskAt W O1 gd S.restore → Calls Tryz.prog 27 #[.pointer (some ⟨gd, 0, none⟩)] W fun e w' => ∃ gw, e = .returned (.tuple #[.pointer (some ⟨gw, 0, none⟩), .int .i64 0]) ∧ OpenedAt O1 gd gw S' q W w') :
    Calls Tryz.prog 37 #[.pointer (some ⟨gd, 0, none⟩)] w fun e w' => ∃ gw, e = .returned (.pointer (some ⟨gw, 0, none⟩)) ∧ OpenedAt O gd gw S' q w w' := by
  have HR := Lib.hid (drestore_any hd)
  have HO : Hid (∀ W, Turns O gd S.restore w W → Calls Tryz.prog 27 #[.pointer (some ⟨gd, 0, none⟩)] W fun e w' => ∃ gw, e = .returned (.tuple #[.pointer (some ⟨gw, 0, none⟩), .int .i64 0]) ∧ OpenedAt O gd gw S' q w w') := Lib.hid (fun W hT => by
    obtain ⟨O1, d1, d2, d3⟩ := hT
    refine (hO W O1 d1).mono ?_
    rintro e w' ⟨gw, rfl, O2, e1, e2, e3, e4, e5, e6⟩
    refine ⟨gw, rfl, O2, e1, fun b hb => ?_, d3.trans e3 d2, e4, Nat.le_trans d3.size e5, e6⟩
    rcases e2 b hb with hb | hb
    · exact d2 b hb
    · exact .inr (Nat.le_trans d3.size hb))
  clear hd hO
  go_enter Tryz.func37, Tryz.ntmps37
  go_wp2_with fail
  go_loopw [3] (fun i wr => i = .int .i64 0 ∧ w = wr) (fun _ _ => 0)
  case atStart => exact ⟨rfl, rfl⟩
  case round =>
    obtain ⟨rfl, rfl⟩ := hrel
    go_wp2_with fail
    refine HR.out.mono ?_
    rintro e w1 ⟨rfl, hT1⟩
    have HT1 := Lib.hid hT1
    clear hT1
    go_wp2_with fail
    refine (HO.out _ HT1.out).mono ?_
    rintro e w2 ⟨gw, rfl, h2⟩
    have H2 := Lib.hid h2
    clear h2
    go_wp2_with fail
    go_ret
    exact ⟨gw, rfl, H2.out⟩
end Go.Proofs.YtnpmeolibdjgpaaGreatDoor

namespace Go.Proofs.YtnpmeolibdjgpaaGreatDoor
open Go.RowKit

def manyP (n i j : Nat) : List Wr1 := (List.range j).map fun (u : Nat) => (((n : Int) - 1 - (u : Int)), roundB i)
theorem manyP_succ (n i j : Nat) : manyP n i (j + 1) = manyP n i j ++ [((n : Int) - 1 - (j : Int), roundB i)] := by unfold manyP; rw [List.range_succ, List.map_append]; rfl
theorem manyP_len (n i j : Nat) : (manyP n i j).length = j := by unfold manyP; simp
theorem manyP_mem {n i j : Nat} {x : Wr1} (h : x ∈ manyP n i j) : ∃ u : Nat, u < j ∧ x = ((n : Int) - 1 - (u : Int), roundB i) := by
  unfold manyP at h
  obtain ⟨u, hu, rfl⟩ := List.mem_map.1 h
  exact ⟨u, List.mem_range.1 hu, rfl⟩
def rangeI (n : Nat) : List Int := (List.range n).map fun (k : Nat) => (k : Int)
theorem rangeI_len (n : Nat) : (rangeI n).length = n := by unfold rangeI; simp
theorem rangeI_mem {n : Nat} {t : Int} : t ∈ rangeI n ↔ 0 ≤ t ∧ t < (n : Int) := by
  unfold rangeI
  rw [List.mem_map]
  constructor
  · rintro ⟨k, hk, rfl⟩
    have := List.mem_range.1 hk
    omega
  · intro h
    exact ⟨t.toNat, List.mem_range.2 (by omega), by omega⟩
theorem rangeI_get {n k : Nat} (h : k < n) : (rangeI n)[k]? = some (k : Int) := by
  unfold rangeI
  rw [List.getElem?_map, List.getElem?_range h]
  rfl
theorem rangeI_strict (n : Nat) : (rangeI n).Pairwise (· < ·) := by
  unfold rangeI
  rw [List.pairwise_map]
  exact List.pairwise_lt_range.imp (fun h => by omega)
theorem many_once (n i : Nat) : rangeI n = putOnce ((manyP n i n).map Prod.fst) := by
  refine strict_ext _ _ (rangeI_strict n) (putOnce_spec _).1 (fun t => ?_)
  rw [(putOnce_spec _).2 t, rangeI_mem]
  constructor
  · intro h
    refine List.mem_map.2 ⟨((n : Int) - 1 - (((n : Int) - 1 - t).toNat : Int), roundB i), ?_, by simp only; omega⟩
    unfold manyP
    exact List.mem_map.2 ⟨((n : Int) - 1 - t).toNat, List.mem_range.2 (by omega), rfl⟩
  · intro h
    obtain ⟨x, hx, rfl⟩ := List.mem_map.1 h
    obtain ⟨u, hu, rfl⟩ := manyP_mem hx
    simp only
    omega
theorem refE_all {m : Int} : ∀ {l : List Wr1}, (∀ x ∈ l, 0 ≤ x.1 ∧ x.1 < m ∧ x.2.size = 256) → refE m l = 0
  | [], _ => rfl
  | y :: r, h => by
    obtain ⟨h1, h2, h3⟩ := h y (by simp)
    unfold refE
    rw [if_pos ⟨h1, h2⟩, if_pos h3]
    exact refE_all (fun x hx => h x (by simp [hx]))
theorem many_ok {n : Nat} (i : Nat) (h1 : 1 ≤ n) (h2 : n ≤ 60) {q : Int} (hq : 0 ≤ q ∧ q < 1099511627776) : CommitOk 200 q (manyP n i n) (rangeI n) := by
  refine ⟨many_once n i, by omega, by rw [rangeI_len]; omega, by rw [manyP_len]; omega, refE_all (fun x hx => ?_), hq⟩
  obtain ⟨u, hu, rfl⟩ := manyP_mem hx
  exact ⟨by simp only; omega, by simp only; omega, roundB_size i⟩
theorem many_last {n i : Nat} {t : Int} (h : t ∈ rangeI n) : lastB (manyP n i n) t = roundB i := by
  rw [many_once n i, (putOnce_spec _).2 t] at h
  obtain ⟨j, x, _, _, hx, _, e⟩ := lastM_all _ h
  rw [← e]
  obtain ⟨u, _, rfl⟩ := manyP_mem (List.mem_of_getElem? hx)
  rfl

/-- What the home sectors held ahead of commit j. -/
def oldB : Nat → ByteArray
  | 0 => zeroB 256
  | j + 1 => roundB j
def headB : Nat → ByteArray
  | 0 => zeroB 256
  | j + 1 => doneB ((j : Int) + 1)
structure Inv9 (n j : Nat) (s : List ByteArray) : Prop where
  len : s.length = 200
  head : s[0]? = some (headB j)
  home : ∀ t : Nat, t < n → s[111 + t]? = some (oldB j)
  small : ∀ x ∈ s, x.size ≤ 256
theorem Inv9.start (n : Nat) (hn : n ≤ 60) : Inv9 n 0 (List.replicate 200 (zeroB 256)) :=
  ⟨List.length_replicate, by rw [List.getElem?_replicate, if_pos (by omega)]; rfl, fun t ht => by rw [List.getElem?_replicate, if_pos (by omega)]; rfl, fun x hx => by rw [List.eq_of_mem_replicate hx, zeroB_size]; omega⟩
theorem fold_small {N : Nat} (G : List (List Wr1)) : ∀ s : List ByteArray, (∀ g ∈ G, Fit N g) → (∀ x ∈ s, x.size ≤ 256) → ∀ x ∈ G.foldl setI s, x.size ≤ 256 := by
  induction G with
  | nil => intro s _ h; exact h
  | cons g r ih =>
    intro s hf hs
    exact ih _ (fun g' hg' => hf g' (by simp [hg'])) (setI_small g 256 s (fun x hx => by have := (hf g (by simp) x hx).2.2; omega) hs)
theorem Inv9.next {n j : Nat} {s : List ByteArray} (h : Inv9 n j s) (h1 : 1 ≤ n) (h2 : n ≤ 60) (hj : j < 100) : Inv9 n (j + 1) (doneS s (j : Int) (manyP n j n) (rangeI n)) := by
  have hok := many_ok j h1 h2 (q := (j : Int)) (by omega)
  refine ⟨by rw [CommitOk.done_len]; exact h.len, hok.done_head s h.len, fun t ht => ?_, fold_small _ _ hok.fits h.small⟩
  have := hok.done_at s h.len (t := (t : Int)) (by omega) (by omega)
  rw [if_pos (rangeI_mem.2 (by omega)), many_last (rangeI_mem.2 (by omega))] at this
  rw [show (111 + (t : Int)).toNat = 111 + t by omega] at this
  exact this

theorem head_read {j : Nat} (hj : j ≤ 100) (W : World) : Calls Tryz.prog 15 #[.string (headB j)] W fun e w' => ∃ A c, e = .returned (.tuple #[.agg #[.int .i64 (j : Int), .bool false, .slice A 0 c], .int .i64 0]) ∧ Below W.heap.size W w' := by
  cases j with
  | zero => exact read_zero W
  | succ j => exact read_done (q := (j : Int) + 1) (by omega) (by omega) W

/-- What a disk may hold whose power went in a commit: as ahead of it, full, or as behind it. -/
inductive Left9 (n j : Nat) (Y : List ByteArray) : Prop
  | old (h : Inv9 n j Y)
  | full (hl : Y.length = 200) (hs : ∀ x ∈ Y, x.size ≤ 256) (h0 : Y[0]? = some (fullB ((j : Int) + 1) (rangeI n))) (hc : ∀ k : Nat, k < n → Y[1 + k]? = some (roundB j))
  | new (h : Inv9 n (j + 1) Y)

theorem part_small {s Y : List ByteArray} {g : List Wr1} {N : Nat} (h : Part s (natW g) Y) (hs : ∀ x ∈ s, x.size ≤ 256) (hg : Fit N g) : ∀ x ∈ Y, x.size ≤ 256 := by
  intro x hx
  obtain ⟨i, hi⟩ := List.getElem?_of_mem hx
  rcases h.2 i with e | ⟨y, hy, _, e⟩
  · rw [hi] at e
    exact hs x (List.mem_of_getElem? e.symm)
  · rw [hi] at e
    injection e with e
    unfold natW at hy
    obtain ⟨z, hz, rfl⟩ := List.mem_map.1 hy
    have := (hg z hz).2.2
    rw [e]
    show z.2.size ≤ 256
    omega
theorem part_far {s Y : List ByteArray} {g : List Wr1} (h : Part s (natW g) Y) {i : Nat} (hi : ∀ x ∈ g, x.1.toNat ≠ i) : Y[i]? = s[i]? := by
  rcases h.2 i with e | ⟨y, hy, e', _⟩
  · exact e
  · unfold natW at hy
    obtain ⟨z, hz, rfl⟩ := List.mem_map.1 hy
    exact absurd e' (hi z hz)
theorem copies_here (l : List Wr1) (ts : List Int) : ∀ (k : Nat) (s : List ByteArray), k + ts.length < s.length → ∀ j t, ts[j]? = some t → (setI s (copiesL l k ts))[1 + (k + j)]? = some (lastB l t) := by
  induction ts with
  | nil => intro k s _ j t h; cases h
  | cons u r ih =>
    intro k s hs j t h
    rw [copiesL, setI_cons]
    cases j with
    | zero =>
      rw [List.getElem?_cons_zero] at h
      injection h with h
      subst h
      rw [setI_far _ _ (fun x hx => ?_)]
      · have e : (1 + (k : Int)).toNat = 1 + (k + 0) := by omega
        rw [show ((1 + (k : Int), lastB l u) : Wr1).1 = 1 + (k : Int) from rfl, e, List.getElem?_set_self (by simp only [List.length_cons] at hs; omega)]
      · obtain ⟨j', t', rfl, h1, _, _⟩ := copies_at l r (k + 1) x hx
        simp only
        omega
    | succ j =>
      rw [List.getElem?_cons_succ] at h
      have := ih (k + 1) (s.set (1 + (k : Int)).toNat (lastB l u)) (by simp only [List.length_set]; simp only [List.length_cons] at hs; omega) j t h
      rw [show k + 1 + j = k + (j + 1) by omega] at this
      exact this

theorem left_cases {n j : Nat} {s : List ByteArray} (h : Inv9 n j s) (h1 : 1 ≤ n) (h2 : n ≤ 60) (hj : j < 100) {i : Nat} {g : List Wr1} {Y : List ByteArray}
    (hi : (groupsL (j : Int) (manyP n j n) (rangeI n))[i]? = some g) (hp : Part (((groupsL (j : Int) (manyP n j n) (rangeI n)).take i).foldl setI s) (natW g) Y) : Left9 n j Y := by
  have hok := many_ok j h1 h2 (q := (j : Int)) (by omega)
  have hf := hok.fits
  have hrl := rangeI_len n
  have hcopy : ∀ (x : Wr1), x ∈ copiesL (manyP n j n) 0 (rangeI n) → 1 ≤ x.1 ∧ x.1 ≤ 60 := fun x hx => by
    obtain ⟨k, t, rfl, a1, a2, a3⟩ := copies_at _ _ 0 x hx
    simp only
    omega
  have hhome : ∀ (x : Wr1), x ∈ homeL (manyP n j n) (rangeI n) → 111 ≤ x.1 ∧ x.1 < 111 + (n : Int) := fun x hx => by
    obtain ⟨t, ht, rfl⟩ := home_at _ _ hx
    have := rangeI_mem.1 ht
    simp only
    omega
  have hsm := fold_small ((groupsL (j : Int) (manyP n j n) (rangeI n)).take i) s (fun g' hg' => hf g' (List.mem_of_mem_take hg')) h.small
  have hYs := part_small hp hsm (hf g (List.mem_of_getElem? hi))
  have hYl : Y.length = 200 := by
    have : ∀ (G : List (List Wr1)) (s : List ByteArray), (G.foldl setI s).length = s.length := by
      intro G
      induction G with
      | nil => intro s; rfl
      | cons g r ih => intro s; show (r.foldl setI (setI s g)).length = _; rw [ih, setI_length]
    rw [hp.1, this, h.len]
  unfold groupsL at hi hp
  match i, hi with
  | 0, hi =>
    injection hi with hi
    subst hi
    have hp : Part s (natW (copiesL (manyP n j n) 0 (rangeI n))) Y := hp
    refine .old ⟨hYl, ?_, fun t ht => ?_, hYs⟩
    · rw [part_far hp (fun x hx => by have := hcopy x hx; omega)]; exact h.head
    · rw [part_far hp (fun x hx => by have := hcopy x hx; omega)]; exact h.home t ht
  | 1, hi =>
    injection hi with hi
    subst hi
    have hp : Part (setI s (copiesL (manyP n j n) 0 (rangeI n))) (natW [(0, bs (HD.mk ((j : Int) + 1) true (rangeI n)).text)]) Y := hp
    rcases hp.2 0 with e | ⟨x, hx, _, e⟩
    · refine .old ⟨hYl, ?_, fun t ht => ?_, hYs⟩
      · rw [e, setI_far _ _ (fun x hx => by have := hcopy x hx; omega)]; exact h.head
      · rw [part_far hp (fun x hx => by rw [List.mem_singleton.1 hx]; simp only; omega), setI_far _ _ (fun x hx => by have := hcopy x hx; omega)]; exact h.home t ht
    · have hx : x = (((0 : Int)).toNat, bs (HD.mk ((j : Int) + 1) true (rangeI n)).text) := List.mem_singleton.1 hx
      subst hx
      refine .full hYl hYs e (fun k hk => ?_)
      rw [part_far hp (fun x hx => by rw [List.mem_singleton.1 hx]; simp only; omega)]
      have := copies_here (manyP n j n) (rangeI n) 0 s (by rw [hrl, h.len]; omega) k (k : Int) (rangeI_get hk)
      rw [Nat.zero_add, many_last (rangeI_mem.2 (by omega))] at this
      exact this
  | 2, hi =>
    injection hi with hi
    subst hi
    have hp : Part (setI (setI s (copiesL (manyP n j n) 0 (rangeI n))) [(0, bs (HD.mk ((j : Int) + 1) true (rangeI n)).text)]) (natW (homeL (manyP n j n) (rangeI n))) Y := hp
    refine .full hYl hYs ?_ (fun k hk => ?_)
    · rw [part_far hp (fun x hx => by have := hhome x hx; omega), setI_cons]
      show (List.set _ 0 _)[0]? = _
      rw [List.getElem?_set_self (by rw [setI_length, h.len]; omega)]
      rfl
    · rw [part_far hp (fun x hx => by have := hhome x hx; omega), setI_far _ _ (fun x hx => by rw [List.mem_singleton.1 hx]; simp only; omega)]
      have := copies_here (manyP n j n) (rangeI n) 0 s (by rw [hrl, h.len]; omega) k (k : Int) (rangeI_get hk)
      rw [Nat.zero_add, many_last (rangeI_mem.2 (by omega))] at this
      exact this
  | 3, hi =>
    injection hi with hi
    subst hi
    have hp : Part (setI (setI (setI s (copiesL (manyP n j n) 0 (rangeI n))) [(0, bs (HD.mk ((j : Int) + 1) true (rangeI n)).text)]) (homeL (manyP n j n) (rangeI n))) (natW [(0, bs (HD.mk ((j : Int) + 1) false []).text)]) Y := hp
    rcases hp.2 0 with e | ⟨x, hx, _, e⟩
    · refine .full hYl hYs ?_ (fun k hk => ?_)
      · rw [e, setI_far _ _ (fun x hx => by have := hhome x hx; omega), setI_cons]
        show (List.set _ 0 _)[0]? = _
        rw [List.getElem?_set_self (by rw [setI_length, h.len]; omega)]
        rfl
      · rw [part_far hp (fun x hx => by rw [List.mem_singleton.1 hx]; simp only; omega), setI_far _ _ (fun x hx => by have := hhome x hx; omega), setI_far _ _ (fun x hx => by rw [List.mem_singleton.1 hx]; simp only; omega)]
        have := copies_here (manyP n j n) (rangeI n) 0 s (by rw [hrl, h.len]; omega) k (k : Int) (rangeI_get hk)
        rw [Nat.zero_add, many_last (rangeI_mem.2 (by omega))] at this
        exact this
    · have hx : x = (((0 : Int)).toNat, bs (HD.mk ((j : Int) + 1) false []).text) := List.mem_singleton.1 hx
      subst hx
      refine .new ⟨hYl, e, fun t ht => ?_, hYs⟩
      rw [part_far hp (fun x hx => by rw [List.mem_singleton.1 hx]; simp only; omega)]
      have := setI_home (manyP n j n) (rangeI n) (t := (t : Int)) (setI (setI s (copiesL (manyP n j n) 0 (rangeI n))) [(0, bs (HD.mk ((j : Int) + 1) true (rangeI n)).text)]) (rangeI_mem.2 (by omega)) (by omega) (by rw [setI_length, setI_length, h.len]; omega) (fun u hu => (rangeI_mem.1 hu).1)
      rw [many_last (rangeI_mem.2 (by omega)), show (111 + (t : Int)).toNat = 111 + t by omega] at this
      exact this
end Go.Proofs.YtnpmeolibdjgpaaGreatDoor

namespace Go.Proofs.YtnpmeolibdjgpaaGreatDoor
open Go.RowKit

theorem redo_home {n j : Nat} {Y : List ByteArray} {q : Int} (hl : Y.length = 200) (h2 : n ≤ 60) (hc : ∀ k : Nat, k < n → Y[1 + k]? = some (roundB j)) : ∀ t : Nat, t < n → (redoS Y q (rangeI n))[111 + t]? = some (roundB j) := by
  have key : ∀ (ts : List Int) (k : Nat) (s : List ByteArray), (∀ u ∈ ts, 0 ≤ u) → (∀ i, i < ts.length → Y.getD (1 + (k + i)) .empty = roundB j) → ∀ t ∈ ts, (111 + t).toNat < s.length → (setI s (redoL Y k ts))[(111 + t).toNat]? = some (roundB j) := by
    intro ts
    induction ts with
    | nil => intro k s _ _ t ht; cases ht
    | cons u r ih =>
      intro k s h0 hk t ht hlt
      rw [redoL, setI_cons]
      by_cases hr : t ∈ r
      · exact ih (k + 1) _ (fun v hv => h0 v (by simp [hv])) (fun i hi => by have := hk (i + 1) (by simp only [List.length_cons]; omega); rw [show k + 1 + i = k + (i + 1) by omega]; exact this) t hr (by simpa using hlt)
      · have htu : t = u := by
          rcases List.mem_cons.1 ht with h | h
          · exact h
          · exact absurd h hr
        subst htu
        rw [setI_far _ _ (fun x hx => ?_), List.getElem?_set_self hlt]
        · have := hk 0 (by simp)
          rw [Nat.add_zero] at this
          rw [this]
        · obtain ⟨i, v, rfl, _, _, hv, _⟩ := redoL_at Y r (k + 1) x hx
          have h1 := h0 v (by simp [hv])
          have h3 := h0 t (by simp)
          simp only
          intro e
          have : v = t := by omega
          exact hr (this ▸ hv)
  intro t ht
  unfold redoS
  rw [setI_far [(0, doneB q)] _ (fun x hx => by rw [List.mem_singleton.1 hx]; simp only; omega)]
  have := key (rangeI n) 0 Y (fun u hu => (rangeI_mem.1 hu).1) (fun i hi => by
    rw [rangeI_len] at hi
    rw [Nat.zero_add, List.getD_eq_getElem?_getD, hc i hi]
    rfl) (t : Int) (rangeI_mem.2 (by omega)) (by omega)
  rw [show (111 + (t : Int)).toNat = 111 + t by omega] at this
  exact this
theorem redo_ok {n j : Nat} {Y : List ByteArray} (hl : Y.length = 200) (h2 : n ≤ 60) (hj : j < 100) (hs : ∀ x ∈ Y, x.size ≤ 256) (hc : ∀ k : Nat, k < n → Y[1 + k]? = some (roundB j)) : RedoOk 200 ((j : Int) + 1) Y (rangeI n) :=
  ⟨hl, by omega, by rw [rangeI_len]; omega, fun t ht => by have := rangeI_mem.1 ht; omega, by omega, fun k hk => by
    rw [rangeI_len] at hk
    rw [List.getD_eq_getElem?_getD, hc k hk]
    exact roundB_size j, fun x hx => by have := hs x hx; omega⟩

/-- Opened anew: all home sectors are as ahead of the commit, or as behind it. -/
theorem again_left {w : World} {gd n j : Nat} {O : List Nat} {S : DS} {Y : List ByteArray} {bad : Prop} (hd : DiskAt w O gd S) (hS : Dead S Y) (hL : Left9 n j Y) (hb : bad ∨ Inv9 n (j + 1) Y) (h1 : 1 ≤ n) (h2 : n ≤ 60) (hj : j < 99) (hw : S.writes < 700000000000) :
    Calls Tryz.prog 37 #[.pointer (some ⟨gd, 0, none⟩)] w fun e w' => ∃ gw, e = .returned (.pointer (some ⟨gw, 0, none⟩)) ∧ ∃ Z wz q F, OpenedAt O gd gw (calm Z wz) q w w' ∧ Z.length = 200 ∧ (∀ x ∈ Z, x.size ≤ 256) ∧ (∀ t : Nat, t < n → Z[111 + t]? = some F) ∧ (F = roundB j ∨ (bad ∧ F = oldB j)) := by
  have hre := hS.restored
  have plain : ∀ (i : Nat), i ≤ 100 → Inv9 n i Y → ∀ W O1, DiskAt W O1 gd S.restore → Calls Tryz.prog 27 #[.pointer (some ⟨gd, 0, none⟩)] W fun e w' => ∃ gw, e = .returned (.tuple #[.pointer (some ⟨gw, 0, none⟩), .int .i64 0]) ∧ OpenedAt O1 gd gw (calm Y S.writes) (i : Int) W w' := fun i hi hI W O1 hd1 => by
    rw [hre] at hd1
    refine (wopen_plain hd1 (fun x hx => by have := hI.small x hx; omega) rfl (by show 0 < Y.length; rw [hI.len]; omega) (calm_read (n := S.writes) hI.head).1 (head_read hi)).mono ?_
    rintro e w' ⟨gw, rfl, k1, k2, k3⟩
    exact ⟨gw, rfl, OpenedAt.of_plain hd1 k1 k2 k3⟩
  have isnew : Inv9 n (j + 1) Y → Calls Tryz.prog 37 #[.pointer (some ⟨gd, 0, none⟩)] w fun e w' => ∃ gw, e = .returned (.pointer (some ⟨gw, 0, none⟩)) ∧ ∃ Z wz q F, OpenedAt O gd gw (calm Z wz) q w w' ∧ Z.length = 200 ∧ (∀ x ∈ Z, x.size ≤ 256) ∧ (∀ t : Nat, t < n → Z[111 + t]? = some F) ∧ (F = roundB j ∨ (bad ∧ F = oldB j)) := fun h => by
    refine (wagain_any hd (plain (j + 1) (by omega) h)).mono ?_
    rintro e w' ⟨gw, rfl, ho⟩
    exact ⟨gw, rfl, Y, _, _, roundB j, ho, h.len, h.small, h.home, .inl rfl⟩
  rcases hb with hbad | hnew
  · cases hL with
    | old h =>
      refine (wagain_any hd (plain j (by omega) h)).mono ?_
      rintro e w' ⟨gw, rfl, ho⟩
      exact ⟨gw, rfl, Y, _, _, oldB j, ho, h.len, h.small, h.home, .inr ⟨hbad, rfl⟩⟩
    | full hl hs h0 hc =>
      have hro := redo_ok hl h2 (show j < 100 by omega) hs hc
      have hv : (HD.mk ((j : Int) + 1) true (rangeI n)).validB = true := (many_ok j h1 h2 (q := (j : Int)) (by omega)).valid
      refine (wagain_any (S' := calm (redoS Y ((j : Int) + 1) (rangeI n)) (S.writes + ((rangeI n).length + 1))) (q := (j : Int) + 1) hd (fun W O1 hd1 => ?_)).mono ?_
      · rw [hre] at hd1
        exact wopen_full hd1 hro hv h0 (by omega)
      rintro e w' ⟨gw, rfl, ho⟩
      refine ⟨gw, rfl, _, _, _, roundB j, ho, ?_, ?_, redo_home hl h2 hc, .inl rfl⟩
      · unfold redoS; rw [setI_length, setI_length, hl]
      · exact fold_small [redoL Y 0 (rangeI n), [(0, doneB ((j : Int) + 1))]] Y hro.fits hs
    | new h => exact isnew h
  · exact isnew hnew

/-- The last commit, and the crash behind it. -/
theorem final_commit {n j w0 : Nat} {s : List ByteArray} {a k : Int} {keep : List Int} (h : Inv9 n j s) (h1 : 1 ≤ n) (h2 : n ≤ 60) (hj : j < 99) (ha : 0 ≤ a) (hw : w0 < 600000000000) :
    ∃ R Y, R = commitR ((calm s w0).arm a keep) (j : Int) k (manyP n j n) ∧ Left9 n j Y ∧ Dead (R.S.crash keep) Y ∧ (R.e ≠ 0 ∨ Inv9 n (j + 1) Y) ∧ R.S.Ok ∧ (R.S.crash keep).writes < 700000000000 := by
  obtain ⟨S, hS⟩ : ∃ S, S = (calm s w0).arm a keep := ⟨_, rfl⟩
  rw [← hS]
  have hcl : Clean S s := by
    rw [hS]
    unfold DS.arm
    rw [if_neg (by omega)]
    exact ⟨rfl, rfl, rfl, rfl⟩
  have hSw : S.writes = w0 := by
    rw [hS]
    unfold DS.arm
    rw [if_neg (by omega)]
    rfl
  have hok := many_ok j h1 h2 (q := (j : Int)) (by omega)
  have hnl : S.now.length = 200 := by rw [hcl.now, h.len]
  obtain ⟨G, hG⟩ : ∃ G, G = groupsL (j : Int) (manyP n j n) (rangeI n) := ⟨_, rfl⟩
  have hR : commitR S (j : Int) k (manyP n j n) = if putE S G = 0 then ⟨putS S G, (j : Int) + 1, true, k + 1, 0⟩ else ⟨putS S G, (j : Int), false, k, putE S G⟩ := by
    unfold commitR
    rw [hnl, if_neg (fun hh => hh hok.ok), if_neg (by have := hok.pos; omega), ← hok.eq, if_neg (by have := hok.few; omega), ← hG]
  have hGw : sumL G ≤ 1000 := by
    rw [hG]
    unfold groupsL sumL
    simp only [List.foldr_cons, List.foldr_nil, copiesL_length, homeL_length, List.length_cons, List.length_nil, rangeI_len]
    omega
  have hpw := putS_writes G S
  have hpo := putS_ok G S hcl.ok
  have hcw : ∀ T : DS, (T.crash keep).writes = T.writes := fun T => by unfold DS.crash; split <;> rfl
  have hwr : ((putS S G).crash keep).writes < 700000000000 := by rw [hcw]; omega
  rw [hR]
  rcases put_cases G S s hcl (fun g hg => by rw [h.len]; rw [hG] at hg; exact hok.fits g hg) with ⟨e0, hc⟩ | ⟨e14, i, g, Y, hi, hp, hdead⟩
  · have hd : Dead ((putS S G).crash keep) (G.foldl setI s) := by
      have := crash_dead hc.on keep
      rw [hc.dirty, hc.safe] at this
      exact this
    have hnew : Inv9 n (j + 1) (G.foldl setI s) := by
      rw [hG]
      exact h.next h1 h2 (by omega)
    rw [if_pos e0]
    exact ⟨_, _, rfl, .new hnew, hd, .inr hnew, hpo, hwr⟩
  · rw [if_neg (by rw [e14]; decide)]
    refine ⟨_, Y, rfl, ?_, ?_, .inl (by show putE S G ≠ 0; rw [e14]; decide), hpo, hwr⟩
    · rw [hG] at hi hp
      exact left_cases h h1 h2 (by omega) hi hp
    · show Dead ((putS S G).crash keep) Y
      rw [hdead.crash]
      exact hdead

set_option maxRecDepth 100000 in
set_option maxHeartbeats 2000000 in
theorem many_any (n i : Nat) (w : World) (h1 : 1 ≤ n) (h2 : n ≤ 60) (hi : i < 100) :
    Calls Tryz.prog 44 #[.int .i64 (n : Int), .int .i64 (i : Int)] w fun e w' => ∃ B cb, e = .returned (.slice B n cb) ∧ w'.ownsRow w.heap.size 71 2 (.slice B n cb) n (flatI (manyP n i n)) ∧ Below w.heap.size w w' := by
  obtain ⟨i1, hi1, hy0, hy1, hy2⟩ := info_parts clwrites_info
  have HI := Lib.hid hi1
  have HRND : Hid (∀ W, Calls Tryz.prog 45 #[.int .i64 (i : Int)] W fun e w' => e = .returned (.string (roundB i)) ∧ Below W.heap.size W w') := Lib.hid (fun W => round_any i W hi)
  obtain ⟨D, hD⟩ : ∃ D, D = roundB i := ⟨_, rfl⟩
  rw [← hD] at HRND
  have HNX : Hid (∀ j, manyP n i (j + 1) = manyP n i j ++ [((n : Int) - 1 - (j : Int), D)]) := Lib.hid (fun j => by rw [hD]; exact manyP_succ n i j)
  have n2 : (n : Int) ≤ 60 := by omega
  clear hi1 hD
  go_enter Tryz.func44, Tryz.ntmps44
  go_wp2_with fail
  go_loopw [5, 6] (fun s k wr => ∃ (j : Nat) (B : Option Addr) (cb : Nat), j ≤ n ∧ k = .int .i64 ((n : Int) - 1 - (j : Int)) ∧ s = .slice B j cb ∧ wr.ownsRow w.heap.size 71 2 (.slice B j cb) j (flatI (manyP n i j)) ∧ Below w.heap.size w wr) (fun _ k _ => (intOf k + 1).toNat)
  case atStart => exact ⟨0, none, 0, Nat.zero_le _, by simp, rfl, World.ownsRow_nil _ _ _ _, Below.refl _ _⟩
  case round =>
    obtain ⟨j, B, cb, hj, rfl, rfl, hrow, hb⟩ := hrel
    have HROW := Lib.hid hrow
    have HB := Lib.hid hb
    clear hrow hb
    by_cases hlt : j < n
    · have h0 : 0 ≤ (n : Int) - 1 - (j : Int) := by omega
      have h3 : (n : Int) - 1 - (j : Int) ≤ 60 := by omega
      obtain ⟨q, hq⟩ : ∃ q : Int, q = (n : Int) - 1 - (j : Int) := ⟨_, rfl⟩
      rw [← hq] at h0 h3
      rw [← hq]
      have HQ := Lib.hid hq
      clear hq
      go_wp2_with fail
      refine (HRND.out _).mono ?_
      rintro e w6 ⟨rfl, hb6⟩
      have HROW6 := Lib.hid (row_below HROW.out hb6)
      have HB6 := Lib.hid (HB.out.trans (hb6.mono HB.out.size))
      clear hb6
      go_wp2_with (at_builtin; refine wpList_append_lies _ rfl (.tmp 13) (.tmp 18) 67 rfl w.heap.size 71 i1 (.agg #[.int .i64 0, .string .empty]) 2 24 Tryz.underlying67 HI.out hy0 hy1 hy2 rfl (by omega) _ j _ rfl (HROW6.out.alloc _) ⟨w6.heap.size, 0, none⟩ 1 1 [.int .i64 q, .string D] rfl rfl ?c1 ?c2 (by omega) (by unfold maxLen; omega) (by omega) (by have := HB6.out.size; simp; omega) _ rfl ?_)
      case c1 =>
        intro a u ha
        match a, ha with
        | 0, ha => simp at ha; subst ha; simp [Addr.add]
        | 1, ha => simp at ha; subst ha; simp [Addr.add]
      case c2 => intro u hu; simp at hu; rcases hu with rfl | rfl <;> rfl
      intro g2 cap2 wB hownB hgB horB hltB
      have HRB : Hid (wB.ownsRow w.heap.size 71 2 (.slice (some ⟨g2, 0, none⟩) (j + 1) cap2) (j + 1) (flatI (manyP n i (j + 1)))) := Lib.hid (by rw [HNX.out, flatI_snoc, ← HQ.out]; exact hownB)
      have HBB : Hid (Below w.heap.size w wB) := Lib.hid ((HB6.out.alloc HB6.out.size _).grown hgB (by have := HB6.out.size; simp; omega) (fun q e => (HROW6.out.lt q e).1))
      clear hownB hgB horB hltB
      go_wp2_with fail
      go_roundw
      case rel =>
        refine ⟨j + 1, some ⟨g2, 0, none⟩, cap2, by omega, ?_, rfl, HRB.out, HBB.out⟩
        have := HQ.out
        congr 1
        omega
      case measure => have := HQ.out; simp [intOf]; omega
    · obtain rfl : n = j := by omega
      have h0 : (n : Int) - 1 - (n : Int) < 0 := by omega
      obtain ⟨q, hq⟩ : ∃ q : Int, q = (n : Int) - 1 - (n : Int) := ⟨_, rfl⟩
      rw [← hq] at h0
      rw [← hq]
      clear hq
      go_wp2_with fail
      go_ret
      exact ⟨B, cb, rfl, HROW.out, HB.out⟩
end Go.Proofs.YtnpmeolibdjgpaaGreatDoor

namespace Go.Proofs.YtnpmeolibdjgpaaGreatDoor
open Go.RowKit

/-- On the way: the disk, its Wal, and what they hold behind j commits. -/
structure At9 (w wr : World) (g gw n j : Nat) (s : List ByteArray) (wz : Nat) (O : List Nat) : Prop where
  inv : Inv9 n j s
  disk : DiskAt wr O g (calm s wz)
  wal : Blk wr gw 128 (walC g (j : Int) true (j : Int))
  apart : gw ∉ O
  own : ∀ b ∈ O, w.heap.size ≤ b
  few : wz ≤ 1000 * j
  below : Below w.heap.size w wr

set_option maxRecDepth 100000 in
set_option maxHeartbeats 1500000 in
theorem wall_in (n times arm : Nat) (A : Option Addr) (m c : Nat) (l : List Int) (w : World) (hm : l.length = m) (hA : Ints w w.heap.size A l) (hA0 : A = none → m = 0 ∧ c = 0) (h1 : 1 ≤ n) (h2 : n ≤ 60) (h3 : times ≤ 4) (h4 : arm ≤ 300) (h5 : m ≤ 200) :
    Calls Tryz.prog 6 #[.int .i64 (n : Int), .int .i64 (times : Int), .int .i64 (arm : Int), .slice A m c] w fun e w' => e = .returned (.bool true) ∧ Below w.heap.size w w' := by
  have HN : Hid (∀ W, Calls Tryz.prog 26 #[.int .i64 200] W fun e w' => ∃ g O, e = .returned (.tuple #[.pointer (some ⟨g, 0, none⟩), .int .i64 0]) ∧ DiskAt w' O g (calm (List.replicate 200 (zeroB 256)) 0) ∧ (∀ b ∈ O, W.heap.size ≤ b) ∧ Below W.heap.size W w') := Lib.hid (fun W => dnew_yes 200 200 W rfl (by omega) (by omega))
  obtain ⟨s0, hs0⟩ : ∃ s0, s0 = List.replicate 200 (zeroB 256) := ⟨_, rfl⟩
  have HI0 : Hid (Inv9 n 0 s0) := Lib.hid (by rw [hs0]; exact Inv9.start n h2)
  rw [← hs0] at HN
  have HOP : Hid (∀ W O g, DiskAt W O g (calm s0 0) → Calls Tryz.prog 27 #[.pointer (some ⟨g, 0, none⟩)] W fun e w' => ∃ gw, e = .returned (.tuple #[.pointer (some ⟨gw, 0, none⟩), .int .i64 0]) ∧ Blk w' gw 128 (walC g 0 true 0) ∧ W.heap.size ≤ gw ∧ Below W.heap.size W w') := Lib.hid (fun W O g hd => wopen_plain hd (fun x hx => by have := HI0.out.small x hx; omega) rfl (by show 0 < s0.length; rw [HI0.out.len]; omega) (calm_read (n := 0) HI0.out.head).1 read_zero)
  have HMANY : Hid (∀ W (i : Nat), i < 100 → Calls Tryz.prog 44 #[.int .i64 (n : Int), .int .i64 (i : Int)] W fun e w' => ∃ B cb, e = .returned (.slice B n cb) ∧ w'.ownsRow W.heap.size 71 2 (.slice B n cb) n (flatI (manyP n i n)) ∧ Below W.heap.size W w') := Lib.hid (fun W i hi => many_any n i W h1 h2 hi)
  have HRND : Hid (∀ W (i : Nat), i < 100 → Calls Tryz.prog 45 #[.int .i64 (i : Int)] W fun e w' => e = .returned (.string (roundB i)) ∧ Below W.heap.size W w') := Lib.hid (fun W i hi => round_any i W hi)
  have HAL := Lib.hid (alive9_any)
  have HM := Lib.hid hm
  have HAI := Lib.hid hA
  have HA0 := Lib.hid hA0
  have HNB := Lib.hid (And.intro h1 h2)
  have n1 : (1 : Int) ≤ (n : Int) := by omega
  have n2 : (n : Int) ≤ 60 := by omega
  have t2 : (times : Int) ≤ 4 := by omega
  have a2 : (arm : Int) ≤ 300 := by omega
  have m2 : (m : Int) ≤ 200 := by omega
  clear hm hA hA0 hs0 h1 h2 h4
  go_enter Tryz.func6, Tryz.ntmps6
  go_wp2_with fail
  refine (HAL.out _).mono ?_
  rintro e w1 ⟨rfl, hb1⟩
  have HB1 := Lib.hid hb1
  clear hb1
  go_wp2_with fail
  refine (HN.out _).mono ?_
  rintro e w2 ⟨g, O, rfl, hd, hO, hb2⟩
  have HD2 := Lib.hid hd
  have HO2 := Lib.hid (fun b hb => Nat.le_trans HB1.out.size (hO b hb))
  have HB2 := Lib.hid (HB1.out.trans (hb2.mono HB1.out.size))
  clear hd hO hb2
  go_wp2_with fail
  refine (HOP.out _ _ _ HD2.out).mono ?_
  rintro e w3 ⟨gw, rfl, hw, hgw, hb3⟩
  have HAT : Hid (At9 w w3 g gw n 0 s0 0 O) := Lib.hid ⟨HI0.out, HD2.out.below hb3, hw, fun hm => by have := HD2.out.lt hm; omega, HO2.out, by omega, HB2.out.trans (hb3.mono HB2.out.size)⟩
  have HGW : Hid (w.heap.size ≤ gw) := Lib.hid (Nat.le_trans HB2.out.size hgw)
  clear hw hgw hb3 HD2 HO2 HB2 HOP HN HI0
  go_wp2_with fail
  go_loopw [13] (fun i wr => ∃ (j : Nat) (s : List ByteArray) (wz : Nat) (O : List Nat), j ≤ times ∧ i = .int .i64 j ∧ At9 w wr g gw n j s wz O) (fun i _ => times - (intOf i).toNat)
  case atStart => exact ⟨0, s0, 0, O, Nat.zero_le _, rfl, HAT.out⟩
  case round =>
    obtain ⟨j, s, wz, O1, hj, rfl, hat⟩ := hrel
    have HAJ := Lib.hid hat
    clear hat HAT
    by_cases hlt : j < times
    · have hjI : (j : Int) < (times : Int) := by omega
      go_wp2_with fail
      refine (HMANY.out _ j (by omega)).mono ?_
      rintro e w4 ⟨B, cb, rfl, hrow, hb4⟩
      have HROW := Lib.hid hrow
      have HB4 := Lib.hid hb4
      clear hrow hb4
      have HCOM : Hid (Calls Tryz.prog 31 #[.pointer (some ⟨gw, 0, none⟩), .slice B n cb] w4 fun e w' => e = .returned (.int .i64 0) ∧ ∃ s' wz' O', At9 w w' g gw n (j + 1) s' wz' O') := Lib.hid (by
        have hh := HAJ.out
        have hok := many_ok j HNB.out.1 HNB.out.2 (q := (j : Int)) (by omega)
        have hf := hh.few
        have hdl : ∀ b ∈ O1, b < wr.heap.size := fun b hb => hh.disk.lt hb
        refine (wcommit_any B (manyP n j n) (hh.wal.below HB4.out hh.wal.lt) (hh.disk.below HB4.out) (calm_ok s wz) hh.apart (by show 111 ≤ s.length; rw [hh.inv.len]; omega) (by show s.length ≤ 2000; rw [hh.inv.len]; omega) ⟨by omega, by omega⟩ ⟨by omega, by omega⟩ (manyP_len n j n) (row_wrts HROW.out hdl) (by have := HNB.out.2; omega) (show (0 : Nat) ≤ 9223372036854775807 by decide) (show wz < 900000000000 by omega) (show (0 : Nat) < 900000000000 by decide)).mono ?_
        rw [hok.run s hh.inv.len wz (j : Int)]
        rintro e w' ⟨rfl, O', d1, d2, d3, d4⟩
        have hB : Below w.heap.size w w4 := hh.below.trans (HB4.out.mono hh.below.size)
        refine ⟨rfl, _, _, O', hh.inv.next HNB.out.1 HNB.out.2 (by omega), d1, ?_, fun hm => ?_, fun b hb => ?_, ?_, hB.trans (d3.below (fun b hb => ?_) hB.size)⟩
        · rw [show (((j + 1 : Nat)) : Int) = (j : Int) + 1 by omega]
          exact d4
        · rcases d2 gw hm with h | h
          · exact hh.apart h
          · have := (hh.wal.below HB4.out hh.wal.lt).lt; omega
        · rcases d2 b hb with h | h
          · exact hh.own b h
          · exact Nat.le_trans hB.size h
        · have := HNB.out.2
          rw [rangeI_len]
          omega
        · rcases List.mem_cons.1 hb with rfl | hb
          · exact HGW.out
          · exact hh.own b hb)
      go_wp2_with fail
      refine HCOM.out.mono ?_
      rintro e w5 ⟨rfl, s', wz', O', h5⟩
      have H5 := Lib.hid h5
      clear h5
      go_wp2_with fail
      go_roundw
      case rel => exact ⟨j + 1, s', wz', O', by omega, by go_num, H5.out⟩
      case measure => simp [intOf]; omega
    · obtain rfl : times = j := by omega
      obtain ⟨R, Y, hR, hL, hDead, hbad, hRok, hRw⟩ := final_commit (a := (arm : Int)) (k := (times : Int)) (keep := l) HAJ.out.inv HNB.out.1 HNB.out.2 (by omega) (by omega) (w0 := wz) (by have := HAJ.out.few; omega)
      have HIL : Hid (∀ W, Below w.heap.size w W → IntsD W A l) := Lib.hid (fun W hW => (HAI.out.below hW).more hW.size)
      have HFAR : Hid (∀ O : List Nat, (∀ b ∈ O, w.heap.size ≤ b) → FarInts A l O) := Lib.hid (fun O hO hp a ha hm => by
        obtain ⟨b, off, e, hb, _⟩ := HAI.out hp
        rw [ha] at e
        injection e with e
        subst e
        have := hO b hm
        omega)
      have HARM : Hid (Calls Tryz.prog 40 #[.pointer (some ⟨g, 0, none⟩), .int .i64 (arm : Int), .slice A m c] wr fun e w' => e = .returned (.tuple #[]) ∧ Turns O1 g ((calm s wz).arm (arm : Int) l) wr w') := Lib.hid (darm_any (arm : Int) A m c l HAJ.out.disk HM.out (HIL.out _ HAJ.out.below) HA0.out (by omega))
      have HRE := Lib.hid hR
      have HLEFT := Lib.hid hL
      have HDEAD := Lib.hid hDead
      have HBAD := Lib.hid hbad
      have HROK := Lib.hid hRok
      have HRW := Lib.hid hRw
      clear hR hL hDead hbad hRok hRw
      go_wp2_with fail
      refine HARM.out.mono ?_
      rintro e w4 ⟨rfl, O4, d1, d2, d3⟩
      have HD4 := Lib.hid d1
      have HO4 : Hid (∀ b ∈ O4, w.heap.size ≤ b) := Lib.hid (fun b hb => by
        rcases d2 b hb with h | h
        · exact HAJ.out.own b h
        · exact Nat.le_trans HAJ.out.below.size h)
      have HW4 : Hid (Blk w4 gw 128 (walC g (times : Int) true (times : Int))) := Lib.hid ((d3.block gw HAJ.out.wal.lt HAJ.out.apart).trans HAJ.out.wal)
      have HG4 : Hid (gw ∉ O4) := Lib.hid (fun hm => by
        rcases d2 gw hm with h | h
        · exact HAJ.out.apart h
        · have := HAJ.out.wal.lt; omega)
      have HB4 : Hid (Below w.heap.size w w4) := Lib.hid (HAJ.out.below.trans (d3.below HAJ.out.own HAJ.out.below.size))
      clear d1 d2 d3 HARM
      go_wp2_with fail
      refine (HMANY.out _ times (by omega)).mono ?_
      rintro e w5 ⟨B, cb, rfl, hrow, hb5⟩
      have HCOM : Hid (Calls Tryz.prog 31 #[.pointer (some ⟨gw, 0, none⟩), .slice B n cb] w5 fun e w' => e = .returned (.int .i64 R.e) ∧ ∃ O', DiskAt w' O' g R.S ∧ (∀ b ∈ O', w.heap.size ≤ b) ∧ Below w.heap.size w w') := Lib.hid (by
        have hf := HAJ.out.few
        have hal : ((calm s wz).arm (arm : Int) l).now.length = 200 ∧ ((calm s wz).arm (arm : Int) l).Ok ∧ ((calm s wz).arm (arm : Int) l).left = arm ∧ ((calm s wz).arm (arm : Int) l).writes = wz ∧ ((calm s wz).arm (arm : Int) l).dirty.length = 0 := by
          refine ⟨?_, (calm_ok s wz).arm _ _, ?_, ?_, ?_⟩ <;> unfold DS.arm <;> rw [if_neg (by omega)]
          · exact HAJ.out.inv.len
          · simp
          · rfl
          · rfl
        obtain ⟨q1, q2, q3, q4, q5⟩ := hal
        refine (wcommit_any B (manyP n times n) (HW4.out.below hb5 HW4.out.lt) (HD4.out.below hb5) q2 HG4.out (by omega) (by omega) ⟨by omega, by omega⟩ ⟨by omega, by omega⟩ (manyP_len n times n) (row_wrts hrow (fun b hb => HD4.out.lt hb)) (by have := HNB.out.2; omega) (by rw [q3]; omega) (by rw [q4]; omega) (by rw [q5]; omega)).mono ?_
        rw [← HRE.out]
        rintro e w' ⟨rfl, O', d1, d2, d3, d4⟩
        have hB : Below w.heap.size w w5 := HB4.out.trans (hb5.mono HB4.out.size)
        refine ⟨rfl, O', d1, fun b hb => ?_, hB.trans (d3.below (fun b hb => ?_) hB.size)⟩
        · rcases d2 b hb with h | h
          · exact HO4.out b h
          · exact Nat.le_trans hB.size h
        · rcases List.mem_cons.1 hb with rfl | hb
          · exact HGW.out
          · exact HO4.out b hb)
      obtain ⟨E, hE⟩ : ∃ E, E = R.e := ⟨_, rfl⟩
      rw [← hE] at HCOM HBAD
      clear hrow hb5 hE
      go_wp2_with fail
      refine HCOM.out.mono ?_
      rintro e w6 ⟨rfl, O6, d1, d2, d3⟩
      have HO6 := Lib.hid d2
      have HB6 := Lib.hid d3
      have HCR : Hid (Calls Tryz.prog 39 #[.pointer (some ⟨g, 0, none⟩), .slice A m c] w6 fun e w' => ∃ k, e = .returned (.int .i64 k) ∧ Turns O6 g (R.S.crash l) w6 w') := Lib.hid (by
        refine (dcrash_any A m c l d1 HROK.out HM.out (HIL.out _ d3) (HFAR.out _ d2)).mono ?_
        rintro e w' ⟨rfl, h⟩
        exact ⟨_, rfl, h⟩)
      clear d1 d2 d3 HCOM HW4 HD4 HG4 HO4 HB4
      go_wp2_with fail
      refine HCR.out.mono ?_
      rintro e w7 ⟨k7, rfl, O7, d1, d2, d3⟩
      have HO7 : Hid (∀ b ∈ O7, w.heap.size ≤ b) := Lib.hid (fun b hb => by
        rcases d2 b hb with h | h
        · exact HO6.out b h
        · exact Nat.le_trans HB6.out.size h)
      have HB7 : Hid (Below w.heap.size w w7) := Lib.hid (HB6.out.trans (d3.below HO6.out HB6.out.size))
      have HAG := Lib.hid (again_left d1 HDEAD.out HLEFT.out HBAD.out HNB.out.1 HNB.out.2 (by omega) HRW.out)
      clear d1 d2 d3 HCR
      go_wp2_with fail
      refine HAG.out.mono ?_
      rintro e w8 ⟨gv, rfl, Z, zz, q, F, ⟨O8, d1, d2, d3, d4, d5, d6⟩, hZl, hZs, hZh, hF⟩
      have HD8 := Lib.hid d1
      have HV8 := Lib.hid d4
      have HB8 : Hid (Below w.heap.size w w8) := Lib.hid (HB7.out.trans (d3.below HO7.out HB7.out.size))
      have HF := Lib.hid hF
      have HREAD : Hid (∀ W, Below w8.heap.size w8 W → ∀ t : Nat, t < n → Calls Tryz.prog 41 #[.pointer (some ⟨gv, 0, none⟩), .int .i64 (t : Int)] W fun e w' => e = .returned (.tuple #[.string F, .int .i64 0]) ∧ Below W.heap.size W w') := Lib.hid (fun W hW t ht => by
        have := wread_any (t : Int) (d4.below hW d4.lt) (d1.below hW) (show (calm Z zz).now.length = 200 from hZl) (by omega) (by omega) (fun x hx => by have := hZs x hx; omega)
        have hn2 := HNB.out.2
        rw [if_pos ⟨by omega, by omega⟩] at this
        have e := calm_read (n := zz) (hZh t ht)
        rw [show ((111 + t : Nat) : Int) = 111 + (t : Int) by omega] at e
        rw [e.1, e.2] at this
        exact this)
      clear d1 d2 d3 d4 d5 d6 hZl hZs hZh hF HAG
      have HR0 : Hid (Calls Tryz.prog 41 #[.pointer (some ⟨gv, 0, none⟩), .int .i64 0] w8 fun e w' => e = .returned (.tuple #[.string F, .int .i64 0]) ∧ Below w8.heap.size w8 w') := Lib.hid (HREAD.out w8 (Below.refl _ _) 0 (by have := HNB.out.1; omega))
      go_wp2_with fail
      refine HR0.out.mono ?_
      rintro e w9 ⟨rfl, hb9⟩
      have HB9 := Lib.hid hb9
      clear hb9
      go_wp2_with fail
      go_loopw [17] (fun i wy => ∃ j : Nat, 1 ≤ j ∧ j ≤ n ∧ i = .int .i64 j ∧ Below w8.heap.size w8 wy) (fun i _ => n - (intOf i).toNat)
      case atStart => exact ⟨1, Nat.le_refl _, HNB.out.1, rfl, HB9.out⟩
      case round =>
        obtain ⟨j, hj1, hj2, rfl, hby⟩ := hrel
        have HBY := Lib.hid hby
        clear hby HB9
        by_cases hjn : j < n
        · have hjI : (j : Int) < (n : Int) := by omega
          have HRJ := Lib.hid (HREAD.out _ HBY.out j hjn)
          go_wp2_with fail
          refine HRJ.out.mono ?_
          rintro e wj ⟨rfl, hbj⟩
          have HBJ := Lib.hid (HBY.out.trans (hbj.mono HBY.out.size))
          clear hbj
          go_wp2_with fail
          go_roundw
          case rel => exact ⟨j + 1, by omega, by omega, by go_num, HBJ.out⟩
          case measure => simp [intOf]; omega
        · obtain rfl : n = j := by omega
          have HBE : Hid (Below w.heap.size w wr) := Lib.hid (HB8.out.trans (HBY.out.mono HB8.out.size))
          have hmk := zeros_make wr 256 (by omega)
          have hcv := zeros_convert wr 256
          obtain ⟨W9, hW9⟩ : ∃ W9, W9 = wr.alloc (.cells (Lib.byteCells (zeroB 256).data.toList).toArray 5) := ⟨_, rfl⟩
          rw [← hW9] at hmk hcv
          have hmk : (Instr.makeSlice 86 (.int .i64 256) (.int .i64 256)).run Tryz.prog wr = .ok (.slice (some ⟨wr.heap.size, 0, none⟩) 256 256) W9 := hmk
          obtain ⟨Z0, hZ0⟩ : ∃ Z0, Z0 = zeroB 256 := ⟨_, rfl⟩
          rw [← hZ0] at hcv
          have HZ0 := Lib.hid hZ0
          have HBW9 : Hid (Below w.heap.size w W9) := Lib.hid (by rw [hW9]; exact HBE.out.alloc HBE.out.size _)
          clear hW9 hZ0
          go_upto_if 129 with fail
          clear hmk hcv
          go_cut [20] (fun x wy => x = .string (oldB times) ∧ Below w.heap.size w wy)
          case first =>
            by_cases ht0 : times = 0
            · have HOB : Hid (oldB times = Z0) := Lib.hid (by rw [ht0, HZ0.out]; rfl)
              have htI : (times : Int) = 0 := by omega
              have htn : ¬ (0 : Int) < (times : Int) := by omega
              clear ht0 htI
              go_wp2_with fail
              go_meet
              exact ⟨by rw [HOB.out], HBW9.out⟩
            · obtain ⟨v, hv⟩ : ∃ v, v = times - 1 := ⟨_, rfl⟩
              have HOB : Hid (oldB times = roundB v) := Lib.hid (by
                have : times = v + 1 := by omega
                rw [this]
                rfl)
              have htp : (0 : Int) < (times : Int) := by omega
              have hut : (times : Int) - 1 = (v : Int) := by omega
              have HRT := Lib.hid (HRND.out W9 v (by omega))
              obtain ⟨V, hV⟩ : ∃ V, V = roundB v := ⟨_, rfl⟩
              rw [← hV] at HRT HOB
              clear ht0 hv hV
              go_wp2_with fail
              refine HRT.out.mono ?_
              rintro e wt ⟨rfl, hbt⟩
              have HBT := Lib.hid (HBW9.out.trans (hbt.mono HBW9.out.size))
              clear hbt
              go_wp2_with fail
              go_meet
              exact ⟨by rw [HOB.out], HBT.out⟩
          case rest =>
            obtain ⟨rfl, hbc⟩ := hcut
            have HBC := Lib.hid hbc
            clear hbc
            have HRT := Lib.hid (HRND.out wc times (by omega))
            obtain ⟨P, hP⟩ : ∃ P, P = roundB times := ⟨_, rfl⟩
            obtain ⟨Q, hQ⟩ : ∃ Q, Q = oldB times := ⟨_, rfl⟩
            rw [← hP] at HRT
            rw [← hQ]
            have HF2 : Hid (F = P ∨ (E ≠ 0 ∧ F = Q)) := Lib.hid (by rw [hP, hQ]; exact HF.out)
            clear hP hQ
            by_cases hFP : F = P
            · subst hFP
              go_wp2_with fail
              refine HRT.out.mono ?_
              rintro e wt ⟨rfl, hbt⟩
              have HBT := Lib.hid (HBC.out.trans (hbt.mono HBC.out.size))
              clear hbt
              go_wp2_with fail
              go_ret
              exact ⟨rfl, HBT.out⟩
            · have hne : (F.toList == P.toList) = false := by
                rw [beq_eq_false_iff_ne, Lib.toList_data, Lib.toList_data]
                intro e
                exact hFP (by apply ByteArray.ext; exact Array.toList_inj.1 e)
              have hE : E ≠ 0 := by
                rcases HF2.out with h | h
                · exact absurd h hFP
                · exact h.1
              have hFQ : F = Q := by
                rcases HF2.out with h | h
                · exact absurd h hFP
                · exact h.2
              have hEb : (E != 0) = true := bne_iff_ne.2 hE
              subst hFQ
              clear hFP hE
              go_wp2_with fail
              refine HRT.out.mono ?_
              rintro e wt ⟨rfl, hbt⟩
              have HBT := Lib.hid (HBC.out.trans (hbt.mono HBC.out.size))
              clear hbt
              go_wp2_with fail
              go_ret
              exact ⟨rfl, HBT.out⟩
end Go.Proofs.YtnpmeolibdjgpaaGreatDoor
