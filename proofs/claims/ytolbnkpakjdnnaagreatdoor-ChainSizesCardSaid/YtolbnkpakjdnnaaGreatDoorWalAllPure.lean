/-
  WalAll: many sectors at once, as plain data, and what is there behind a power that went. No statement is proved here.
-/
import Derived.Test.YtolbnkpakjdnnaaGreatDoorWalRedo
import Derived.Maps.StringElems
namespace Go.Proofs.YtolbnkpakjdnnaaGreatDoor
open Go.RowKit

/-- A disk that was opened: the Wal, and what is as it was. -/
def OpenedAt (O : List Nat) (gd gw : Nat) (S : DS) (q : Int) (w w' : World) : Prop :=
  ∃ O', DiskAt w' O' gd S ∧ (∀ b ∈ O', b ∈ O ∨ w.heap.size ≤ b) ∧ Keep O w w' ∧ Blk w' gw 163 (walC gd q true 0) ∧ w.heap.size ≤ gw ∧ gw ∉ O'
theorem OpenedAt.after {O : List Nat} {gd gw : Nat} {S1 S : DS} {q : Int} {w w1 w' : World} (hT : Turns O gd S1 w w1) (h : ∀ O1, DiskAt w1 O1 gd S1 → OpenedAt O1 gd gw S q w1 w') : OpenedAt O gd gw S q w w' := by
  obtain ⟨O1, d1, d2, d3⟩ := hT
  obtain ⟨O2, e1, e2, e3, e4, e5, e6⟩ := h O1 d1
  refine ⟨O2, e1, fun b hb => ?_, d3.trans e3 d2, e4, Nat.le_trans d3.size e5, e6⟩
  rcases e2 b hb with hb | hb
  · exact d2 b hb
  · exact .inr (Nat.le_trans d3.size hb)
theorem OpenedAt.of_plain {O : List Nat} {gd gw : Nat} {S : DS} {q : Int} {w w' : World} (hd : DiskAt w O gd S) (h1 : Blk w' gw 163 (walC gd q true 0)) (h2 : w.heap.size ≤ gw) (h3 : Below w.heap.size w w') : OpenedAt O gd gw S q w w' :=
  ⟨O, hd.below h3, fun b hb => .inl hb, Keep.of_below h3, h1, h2, fun hm => by have := hd.lt hm; omega⟩

set_option maxRecDepth 100000 in
set_option maxHeartbeats 2000000 in
theorem wopen_full {w : World} {gd N n : Nat} {q : Int} {O : List Nat} {X : List ByteArray} {T : List Int} (hd : DiskAt w O gd (calm X n)) (hok : RedoOk N q X T) (hv : (HD.mk q true T).validB = true) (hX : X[0]? = some (fullB q T)) (hn : n < 800000000000) :
    Calls Tryz.prog 85 #[.pointer (some ⟨gd, 0, none⟩)] w fun e w' => ∃ gw, e = .returned (.tuple #[.pointer (some ⟨gw, 0, none⟩), .int .i64 0]) ∧ OpenedAt O gd gw (calm (redoS X q T) (n + (T.length + 1))) q w w' := by
  obtain ⟨tn, htn⟩ : ∃ tn, tn = T.length := ⟨_, rfl⟩
  rw [← htn]
  obtain ⟨b, hb⟩ : ∃ b, b = fullB q T := ⟨_, rfl⟩
  rw [← hb] at hX
  have hr0 := calm_read (n := n) hX
  have HR : Hid (Calls Tryz.prog 106 #[.pointer (some ⟨gd, 0, none⟩), .int .i64 0] w fun e w' => e = .returned (.tuple #[.string b, .int .i64 0]) ∧ Below w.heap.size w w') := Lib.hid (by
    have := dread_any 0 hd hok.small
    have e1 : (calm X n).read 0 = b := hr0.1
    have e2 : (calm X n).errR 0 = 0 := hr0.2
    rw [e1, e2] at this
    exact this)
  have HRD : Hid (∀ W, Calls Tryz.prog 129 #[.string b] W fun e w' => ∃ A c, e = .returned (.tuple #[.agg #[.int .i64 q, .bool true, .slice A tn c], .int .i64 0]) ∧ Ints w' w'.heap.size A T ∧ Below W.heap.size W w') := Lib.hid (fun W => by
    rw [hb]
    refine (hread_laid (HD.mk q true T) hv W).mono ?_
    rintro e w' ⟨A, c, rfl, ha, h3⟩
    refine ⟨A, c, ?_, ha.lie, h3⟩
    unfold HD.val
    simp only
    rw [htn])
  have HDN : Hid (∀ W A c, Calls Tryz.prog 126 #[.agg #[.int .i64 q, .bool true, .slice A tn c]] W fun e w' => e = .returned (.agg #[.int .i64 q, .bool false, .slice none 0 0]) ∧ Below W.heap.size W w') := Lib.hid (fun W A c => by
    rw [htn]
    exact hdone_any (HD.mk q true T) A c W)
  have HREDO : Hid (∀ W gw A c, Below w.heap.size w W → Blk W gw 163 (walC gd q true 0) → w.heap.size ≤ gw → Ints W W.heap.size A T → Calls Tryz.prog 130 #[.pointer (some ⟨gw, 0, none⟩), .agg #[.int .i64 q, .bool true, .slice A tn c]] W fun e w' => e = .returned (.int .i64 0) ∧ OpenedAt O gd gw (calm (redoS X q T) (n + (tn + 1))) q w w') := Lib.hid (fun W gw A c hW h1 h2 h3 => by
    have hgw : gw ∉ O := fun hm => by have := hd.lt hm; omega
    refine (wredo_any A hok h1 (hd.below hW) hgw htn.symm h3 hn).mono ?_
    rintro e w' ⟨rfl, O', d1, d2, d3⟩
    refine ⟨rfl, O', d1, fun b hb => ?_, (Keep.of_below hW).trans d3 (fun _ hb => .inl hb), (d3.block gw h1.lt hgw).trans h1, h2, fun hm => ?_⟩
    · rcases d2 b hb with h | h
      · exact .inl h
      · exact .inr (Nat.le_trans hW.size h)
    · rcases d2 gw hm with h | h
      · exact hgw h
      · have := h1.lt; omega)
  clear hd hok hv hX hn hr0 hb htn
  go_enter Tryz.func85, Tryz.ntmps85
  go_wp2_with fail
  refine HR.out.mono ?_
  rintro e w1 ⟨rfl, hb1⟩
  have HB1 := Lib.hid hb1
  clear hb1
  go_wp2_with fail
  refine (HRD.out _).mono ?_
  rintro e w2 ⟨A, c, rfl, hin, hb2⟩
  have HB2 := Lib.hid (HB1.out.trans (hb2.mono HB1.out.size))
  have HIN := Lib.hid hin
  clear hb2 hin
  go_upto_region 9 with fail
  obtain ⟨w3, hw3⟩ : ∃ w3, w3 = w2.alloc (.cells #[.int .i64 q, .bool true, .slice A tn c] 161) := ⟨_, rfl⟩
  obtain ⟨g6, hg6⟩ : ∃ g6, g6 = w2.heap.size := ⟨_, rfl⟩
  rw [← hw3, ← hg6]
  have HH3 : Hid (Blk w3 g6 161 #[.int .i64 q, .bool true, .slice A tn c]) := Lib.hid (by rw [hw3, hg6]; exact Blk.new w2 _ _)
  have HB23 : Hid (Below w2.heap.size w2 w3) := Lib.hid (by rw [hw3]; exact (Below.refl _ _).alloc (Nat.le_refl _) _)
  have HB3 : Hid (Below w.heap.size w w3) := Lib.hid (HB2.out.trans (HB23.out.mono HB2.out.size))
  have HIN3 : Hid (Ints w3 w3.heap.size A T) := Lib.hid ((HIN.out.below HB23.out).more HB23.out.size)
  have c0 := HH3.out.cell 0
  have c1 := HH3.out.cell 1
  have c2 := HH3.out.cell 2
  simp at c0 c1 c2
  clear hw3 hg6
  go_wp2_with fail
  refine (HDN.out _ A c).mono ?_
  rintro e w4 ⟨rfl, hb4⟩
  have HH4 := Lib.hid (HH3.out.below hb4 HH3.out.lt)
  have HB4 := Lib.hid (HB3.out.trans (hb4.mono HB3.out.size))
  have HIN4 : Hid (Ints w4 w4.heap.size A T) := Lib.hid ((HIN3.out.below hb4).more hb4.size)
  clear hb4 c0 c1 c2
  go_upto_region 10 with fail
  obtain ⟨w5, hw5⟩ : ∃ w5, w5 = w4.alloc (.cells (walC gd q true 0) 163) := ⟨_, rfl⟩
  obtain ⟨gw, hgw⟩ : ∃ gw, gw = w4.heap.size := ⟨_, rfl⟩
  have HB45 : Hid (Below w4.heap.size w4 w5) := Lib.hid (by rw [hw5]; exact (Below.refl _ _).alloc (Nat.le_refl _) _)
  have HH5 : Hid (Blk w5 gw 163 (walC gd q true 0)) := Lib.hid (by rw [hw5, hgw]; exact Blk.new w4 _ _)
  have HB5 : Hid (Below w.heap.size w w5) := Lib.hid (HB4.out.trans (HB45.out.mono HB4.out.size))
  have HG5 : Hid (w.heap.size ≤ gw) := Lib.hid (by rw [hgw]; exact HB4.out.size)
  have HIN5 : Hid (Ints w5 w5.heap.size A T) := Lib.hid ((HIN4.out.below HB45.out).more HB45.out.size)
  have hh5 := HH4.out.below HB45.out HH4.out.lt
  unfold walC at hw5
  rw [← hw5, ← hgw]
  have c0 := hh5.cell 0
  have c1 := hh5.cell 1
  have c2 := hh5.cell 2
  simp at c0 c1 c2
  clear hw5 hgw hh5
  go_wp2_with fail
  refine (HREDO.out _ _ A c HB5.out HH5.out HG5.out HIN5.out).mono ?_
  rintro e w6 ⟨rfl, h6⟩
  have H6 := Lib.hid h6
  clear h6 c0 c1 c2
  go_wp2_with fail
  go_ret2
  exact ⟨gw, rfl, H6.out⟩

end Go.Proofs.YtolbnkpakjdnnaaGreatDoor

namespace Go.Proofs.YtolbnkpakjdnnaaGreatDoor
open Go.RowKit

/-- Each sector is as it was, or one of those that were to be written there. -/
def Part (s : List ByteArray) (g : List (Nat × ByteArray)) (Y : List ByteArray) : Prop := Y.length = s.length ∧ ∀ i : Nat, Y[i]? = s[i]? ∨ ∃ x ∈ g, x.1 = i ∧ Y[i]? = some x.2
theorem Part.refl (s : List ByteArray) (g : List (Nat × ByteArray)) : Part s g s := ⟨rfl, fun _ => .inl rfl⟩
theorem Part.mono {s Y : List ByteArray} {g g' : List (Nat × ByteArray)} (h : Part s g Y) (hg : ∀ x ∈ g, x ∈ g') : Part s g' Y :=
  ⟨h.1, fun i => (h.2 i).imp id fun ⟨x, hx, e⟩ => ⟨x, hg x hx, e⟩⟩
theorem kept_part (keep : List Int) (d : List (Nat × ByteArray)) : ∀ (k : Nat) (s : List ByteArray), (∀ x ∈ d, x.1 < s.length) → Part s d (keptL keep k d s) := by
  induction d with
  | nil => intro k s _; exact Part.refl _ _
  | cons w r ih =>
    intro k s h
    show Part s (w :: r) (keptL keep (k + 1) r (if oddI (keep.getD k 0) then s.set w.1 w.2 else s))
    split
    · obtain ⟨h1, h2⟩ := ih (k + 1) (s.set w.1 w.2) (fun x hx => by rw [List.length_set]; exact h x (by simp [hx]))
      refine ⟨by rw [h1, List.length_set], fun i => ?_⟩
      rcases h2 i with e | ⟨x, hx, e⟩
      · by_cases hi : w.1 = i
        · right
          refine ⟨w, by simp, hi, ?_⟩
          rw [e, ← hi, List.getElem?_set_self (h w (by simp))]
        · left
          rw [e, List.getElem?_set_ne hi]
      · exact .inr ⟨x, by simp [hx], e⟩
    · exact (ih (k + 1) s (fun x hx => h x (by simp [hx]))).mono (fun x hx => by simp [hx])

/-- A disk whose power went: what it holds is safe. -/
structure Dead (S : DS) (Y : List ByteArray) : Prop where
  off : S.on = false
  now : S.now = Y
  safe : S.safe = Y
  dirty : S.dirty = []
  unarmed : S.armed = false
  left : S.left = 0
  keep : S.keep = []
theorem Dead.restored {S : DS} {Y : List ByteArray} (h : Dead S Y) : S.restore = calm Y S.writes := by
  obtain ⟨S1, S2, S3, S4, S5, S6, S7, S8⟩ := S
  obtain ⟨h1, h2, h3, h4, h5, h6, h7⟩ := h
  simp only at h1 h2 h3 h4 h5 h6 h7
  subst h1 h2 h3 h4 h5 h6 h7
  rfl
theorem crash_dead {S : DS} (hon : S.on = true) (keep : List Int) : Dead (S.crash keep) (keptL keep 0 S.dirty S.safe) := by
  unfold DS.crash
  rw [if_pos hon]
  exact ⟨rfl, rfl, rfl, rfl, rfl, rfl, rfl⟩
theorem Dead.crash {S : DS} {Y : List ByteArray} (h : Dead S Y) (keep : List Int) : S.crash keep = S := by
  unfold DS.crash
  rw [if_neg (by rw [h.off]; decide)]
/-- Where the power stays or goes: one step of it. -/
theorem failed_cases {S : DS} (hok : S.Ok) (hon : S.on = true) : (S.fails = false ∧ S.failed.on = true ∧ S.failed.now = S.now ∧ S.failed.safe = S.safe ∧ S.failed.dirty = S.dirty ∧ S.failed.Ok) ∨ (S.fails = true ∧ ∃ Y, Dead S.failed Y ∧ Part S.safe S.dirty Y) := by
  unfold DS.fails DS.failed
  cases hA : S.armed with
  | false => left; simp [hon, hok]
  | true =>
    by_cases hl : 0 < S.left
    · left
      have h1 : decide (S.left = 0) = false := by simp; omega
      simp only [if_true, if_pos hl, h1]
      exact ⟨rfl, hon, trivial, trivial, trivial, hok.now, hok.fits⟩
    · right
      have h1 : decide (S.left = 0) = true := by simp; omega
      simp only [if_true, if_neg hl, h1]
      exact ⟨rfl, _, crash_dead hon _, kept_part _ _ 0 _ hok.fits⟩

def natW (g : List Wr1) : List (Nat × ByteArray) := g.map fun x => (x.1.toNat, x.2)
theorem writeL_cases (g : List Wr1) : ∀ S : DS, S.Ok → S.on = true → Fit S.now.length g →
    (S.errL g = 0 ∧ (S.writeL g).on = true ∧ (S.writeL g).Ok ∧ (S.writeL g).safe = S.safe ∧ (S.writeL g).now = setI S.now g ∧ ∀ x ∈ (S.writeL g).dirty, x ∈ S.dirty ++ natW g) ∨
    (S.errL g = 14 ∧ ∃ Y, Dead (S.writeL g) Y ∧ Part S.safe (S.dirty ++ natW g) Y) := by
  induction g with
  | nil => intro S hok hon _; exact .inl ⟨rfl, hon, hok, rfl, rfl, fun x hx => by have hx' : x ∈ S.dirty := hx; simpa [natW] using hx'⟩
  | cons x r ih =>
    intro S hok hon hf
    obtain ⟨h1, h2, h3⟩ := hf x (by simp)
    have hp : (S.put x.1.toNat x.2).Ok := hok.put (by omega) _
    have ew : S.write1 x.1 x.2 = (S.put x.1.toNat x.2).failed := by unfold DS.write1; rw [if_pos ⟨h1, h2, h3⟩]
    have ee : S.err1 x.1 x.2 = if (S.put x.1.toNat x.2).fails then 14 else 0 := by unfold DS.err1; rw [if_pos ⟨h1, h2⟩, if_pos h3]
    rcases failed_cases hp hon with ⟨f1, f2, f3, f4, f5, f6⟩ | ⟨f1, Y, f2, f3⟩
    · have e0 : S.err1 x.1 x.2 = 0 := by rw [ee, f1]; rfl
      rw [DS.errL, DS.writeL, if_pos e0, if_pos e0, ew]
      have hn : (S.put x.1.toNat x.2).failed.now = S.now.set x.1.toNat x.2 := f3
      have hd : (S.put x.1.toNat x.2).failed.dirty = S.dirty ++ [(x.1.toNat, x.2)] := f5
      rcases ih _ f6 f2 (by rw [hn, List.length_set]; exact fun y hy => hf y (by simp [hy])) with ⟨i1, i2, i3, i4, i5, i6⟩ | ⟨i1, Y, i2, i3⟩
      · refine .inl ⟨i1, i2, i3, i4.trans f4, by rw [i5, hn, setI_cons], fun y hy => ?_⟩
        have := i6 y hy
        rw [hd] at this
        simpa [natW] using this
      · refine .inr ⟨i1, Y, i2, ?_⟩
        rw [f4, hd] at i3
        exact i3.mono (fun y hy => by simpa [natW] using hy)
    · have e0 : S.err1 x.1 x.2 = 14 := by rw [ee, f1]; rfl
      have hne : ¬ S.err1 x.1 x.2 = 0 := by rw [e0]; decide
      rw [DS.errL, DS.writeL, if_neg hne, if_neg hne, ew]
      refine .inr ⟨e0, Y, f2, f3.mono (fun y hy => ?_)⟩
      have hd : (S.put x.1.toNat x.2).dirty = S.dirty ++ [(x.1.toNat, x.2)] := rfl
      rw [hd] at hy
      rcases List.mem_append.1 hy with hy | hy
      · exact List.mem_append_left _ hy
      · rw [List.mem_singleton.1 hy]
        exact List.mem_append_right _ (by simp [natW])

/-- A disk with power on which all is safe. -/
structure Clean (S : DS) (s : List ByteArray) : Prop where
  on : S.on = true
  now : S.now = s
  safe : S.safe = s
  dirty : S.dirty = []
theorem Clean.ok {S : DS} {s : List ByteArray} (h : Clean S s) : S.Ok := ⟨by rw [h.now, h.safe, h.dirty]; rfl, by rw [h.dirty]; intro w hw; cases hw⟩
/-- One group: written and flushed, or the power went in it. -/
theorem group_cases {S : DS} {s : List ByteArray} (h : Clean S s) (g : List Wr1) (hf : Fit s.length g) :
    (S.errW g = 0 ∧ (S.write g).errF = 0 ∧ Clean (S.write g).flush (setI s g)) ∨ (∃ Y, Part s (natW g) Y ∧ ((S.errW g = 14 ∧ Dead (S.write g) Y) ∨ (S.errW g = 0 ∧ (S.write g).errF = 14 ∧ Dead (S.write g).flush Y))) := by
  have e1 : S.errW g = S.errL g := by unfold DS.errW; rw [if_pos h.on]
  have e2 : S.write g = S.writeL g := by unfold DS.write; rw [if_pos h.on]
  rw [e1, e2]
  rcases writeL_cases g S h.ok h.on (by rw [h.now]; exact hf) with ⟨i1, i2, i3, i4, i5, i6⟩ | ⟨i1, Y, i2, i3⟩
  · rcases failed_cases i3 i2 with ⟨f1, f2, f3, f4, f5, f6⟩ | ⟨f1, Y, f2, f3⟩
    · left
      refine ⟨i1, by unfold DS.errF; rw [if_pos i2, f1]; rfl, ?_⟩
      have e : (S.writeL g).flush = { (S.writeL g).failed with safe := (S.writeL g).now, dirty := [] } := by unfold DS.flush; rw [if_pos i2, f1]; rfl
      rw [e]
      exact ⟨f2, by show (S.writeL g).failed.now = _; rw [f3, i5, h.now], by show (S.writeL g).now = _; rw [i5, h.now], rfl⟩
    · right
      have e : (S.writeL g).flush = (S.writeL g).failed := by unfold DS.flush; rw [if_pos i2, f1]; rfl
      refine ⟨Y, ?_, .inr ⟨i1, by unfold DS.errF; rw [if_pos i2, f1]; rfl, by rw [e]; exact f2⟩⟩
      rw [i4, h.safe] at f3
      exact f3.mono (fun x hx => by have := i6 x hx; rw [h.dirty] at this; simpa using this)
  · right
    refine ⟨Y, ?_, .inl ⟨i1, i2⟩⟩
    rw [h.safe, h.dirty] at i3
    simpa using i3

/-- Groups: all written, or the power went in one of them. -/
theorem put_cases (G : List (List Wr1)) : ∀ (S : DS) (s : List ByteArray), Clean S s → (∀ g ∈ G, Fit s.length g) →
    (putE S G = 0 ∧ Clean (putS S G) (G.foldl setI s)) ∨ (putE S G = 14 ∧ ∃ (j : Nat) (g : List Wr1) (Y : List ByteArray), G[j]? = some g ∧ Part ((G.take j).foldl setI s) (natW g) Y ∧ Dead (putS S G) Y) := by
  induction G with
  | nil => intro S s h _; exact .inl ⟨rfl, h⟩
  | cons g r ih =>
    intro S s h hf
    rcases group_cases h g (hf g (by simp)) with ⟨h1, h2, h3⟩ | ⟨Y, hY, hE⟩
    · rw [putE, putS, if_pos h1, if_pos h2, if_pos h1, if_pos h2]
      rcases ih _ _ h3 (fun g' hg' => by rw [setI_length]; exact hf g' (by simp [hg'])) with ⟨k1, k2⟩ | ⟨k1, j, g', Y, k2, k3, k4⟩
      · exact .inl ⟨k1, k2⟩
      · exact .inr ⟨k1, j + 1, g', Y, by simpa using k2, by simpa using k3, k4⟩
    · right
      rcases hE with ⟨h1, h2⟩ | ⟨h1, h2, h3⟩
      · have hne : ¬ S.errW g = 0 := by rw [h1]; decide
        rw [putE, putS, if_neg hne, if_neg hne]
        exact ⟨h1, 0, g, Y, rfl, hY, h2⟩
      · have hne : ¬ (S.write g).errF = 0 := by rw [h2]; decide
        rw [putE, putS, if_pos h1, if_neg hne, if_pos h1, if_neg hne]
        exact ⟨h2, 0, g, Y, rfl, hY, h3⟩
end Go.Proofs.YtolbnkpakjdnnaaGreatDoor

namespace Go.Proofs.YtolbnkpakjdnnaaGreatDoor
open Go.RowKit Go.WideMaps Go.Maps

theorem one_byte9 (w : World) (x : Nat) (hx : x < 256) :
    (convert 57 9 (.slice (some ⟨w.heap.size, 0, none⟩) 1 1)).run Tryz.prog (w.alloc (.cells #[.int .u8 (x : Int)] 5)) = .ok (.string ⟨#[x.toUInt8]⟩) (w.alloc (.cells #[.int .u8 (x : Int)] 5)) := by
  have h := blk_text (w.alloc (.cells #[.int .u8 (x : Int)] 5)) w.heap.size [x.toUInt8] 1 rfl (by
    have hb := Blk.new w 5 #[.int .u8 (x : Int)]
    have e : (Lib.byteCells [x.toUInt8]).toArray = #[.int .u8 (x : Int)] := by
      show #[Value.int .u8 ((x.toUInt8.toNat : Nat) : Int)] = _
      have : x.toUInt8.toNat = x := by simp [Nat.toUInt8]; omega
      rw [this]
    rw [e]
    exact hb)
  exact h
/-- What is written at time i. -/
def roundB (i : Nat) : ByteArray := fillB ⟨#[(97 + i).toUInt8]⟩
theorem roundB_size (i : Nat) : (roundB i).size = 256 := fillB_size _

/-- The place that a number names. -/
def atK (y : Int) : Nat := (y % 80).toNat
theorem atK_lt (y : Int) : atK y < 80 := by unfold atK; omega
theorem atK_steps (y : Int) : ∃ t : Int, y.tmod 80 = t ∧ -80 < t ∧ t < 80 ∧ (t + 80).tmod 80 = (atK y : Int) ∧ (t + 80) % 80 = (atK y : Int) := by
  refine ⟨y.tmod 80, rfl, ?_, ?_, ?_⟩
  · have := Int.lt_tmod_of_pos y (show (0 : Int) < 80 by omega); omega
  · exact Int.tmod_lt_of_pos y (by omega)
  · have h1 : -80 < y.tmod 80 := Int.lt_tmod_of_pos y (show (0 : Int) < 80 by omega)
    have h2 : y.tmod 80 < 80 := Int.tmod_lt_of_pos y (by omega)
    have h3 : (y.tmod 80 + 80) % 80 = (atK y : Int) := by
      have e : y = 80 * (y.tdiv 80) + y.tmod 80 := (Int.mul_tdiv_add_tmod y 80).symm
      unfold atK
      omega
    refine ⟨?_, h3⟩
    rw [Int.tmod_eq_emod_of_nonneg (by omega)]
    exact h3

theorem putL_count (x : Int) : ∀ l : List Int, l.Pairwise (· < ·) → (putL x l).length = if x ∈ l then l.length else l.length + 1
  | [], _ => by simp [putL]
  | y :: r, h => by
    obtain ⟨h1, h2⟩ := List.pairwise_cons.1 h
    unfold putL
    by_cases hy : y < x
    · rw [if_pos hy]
      have ih := putL_count x r h2
      have hne : ¬ x = y := by omega
      simp only [List.length_cons, ih, List.mem_cons, hne, false_or]
      split <;> rfl
    · rw [if_neg hy]
      by_cases he : y = x
      · rw [if_pos he, if_pos (by simp [he])]
      · rw [if_neg he, if_neg (fun hm => by
          rcases List.mem_cons.1 hm with e | hm
          · exact he e.symm
          · have := h1 x hm; omega)]
        rfl

/-- The set in block b holds just these. -/
def SetIs (w : World) (b n : Nat) (L : List Int) : Prop :=
  ∃ D : DataW Unit, w.ownsMap Tryz.prog 3 (plainElem Tryz.prog 4) b n D ∧ Maps.size D = L.length ∧ ∀ t : Int, -9223372036854775808 ≤ t → t ≤ 9223372036854775807 → Maps.has D (.int .i64 t) = decide (t ∈ L)
theorem SetIs.lt {w : World} {b n : Nat} {L : List Int} (h : SetIs w b n L) : b < w.heap.size := by
  obtain ⟨D, h, _⟩ := h
  exact h.lt
theorem SetIs.kept {w w' : World} {b n : Nat} {L : List Int} (h : SetIs w b n L) (hb : w'.heap[b]? = w.heap[b]?) : SetIs w' b n L := by
  obtain ⟨D, ⟨es, clock, h1, h2⟩, h3⟩ := h
  exact ⟨D, ⟨es, clock, hb.trans h1, h2⟩, h3⟩
theorem SetIs.below {w w' : World} {b n : Nat} {L : List Int} (h : SetIs w b n L) (hb : Below w.heap.size w w') : SetIs w' b n L := h.kept (hb.block b h.lt)
theorem SetIs.made (w : World) : SetIs (w.alloc (.map #[] 0)) w.heap.size 0 [] :=
  ⟨.map [], World.ownsMap_made _ _ _ _, rfl, fun _ _ _ => rfl⟩
end Go.Proofs.YtolbnkpakjdnnaaGreatDoor

namespace Go.Proofs.YtolbnkpakjdnnaaGreatDoor
open Go.RowKit

def manyP (n i j : Nat) : List Wr1 := (List.range j).map fun (u : Nat) => (((n : Int) - 1 - (u : Int)), roundB i)
theorem manyP_succ (n i j : Nat) : manyP n i (j + 1) = manyP n i j ++ [((n : Int) - 1 - (j : Int), roundB i)] := by unfold manyP; rw [List.range_succ, List.map_append]; rfl
theorem manyP_len (n i j : Nat) : (manyP n i j).length = j := by unfold manyP; simp
theorem manyP_mem {n i j : Nat} {x : Wr1} (h : x ∈ manyP n i j) : ∃ u : Nat, u < j ∧ x = ((n : Int) - 1 - (u : Int), roundB i) := by
  unfold manyP at h
  obtain ⟨u, hu, rfl⟩ := List.mem_map.1 h
  exact ⟨u, List.mem_range.1 hu, rfl⟩
def rangeI (n : Nat) : List Int := (List.range n).map fun (k : Nat) => (k : Int)
theorem rangeI_len (n : Nat) : (rangeI n).length = n := by unfold rangeI; simp
theorem rangeI_mem {n : Nat} {t : Int} : t ∈ rangeI n ↔ 0 ≤ t ∧ t < (n : Int) := by
  unfold rangeI
  rw [List.mem_map]
  constructor
  · rintro ⟨k, hk, rfl⟩
    have := List.mem_range.1 hk
    omega
  · intro h
    exact ⟨t.toNat, List.mem_range.2 (by omega), by omega⟩
theorem rangeI_get {n k : Nat} (h : k < n) : (rangeI n)[k]? = some (k : Int) := by
  unfold rangeI
  rw [List.getElem?_map, List.getElem?_range h]
  rfl
theorem rangeI_strict (n : Nat) : (rangeI n).Pairwise (· < ·) := by
  unfold rangeI
  rw [List.pairwise_map]
  exact List.pairwise_lt_range.imp (fun h => by omega)
theorem many_once (n i : Nat) : rangeI n = putOnce ((manyP n i n).map Prod.fst) := by
  refine strict_ext _ _ (rangeI_strict n) (putOnce_spec _).1 (fun t => ?_)
  rw [(putOnce_spec _).2 t, rangeI_mem]
  constructor
  · intro h
    refine List.mem_map.2 ⟨((n : Int) - 1 - (((n : Int) - 1 - t).toNat : Int), roundB i), ?_, by simp only; omega⟩
    unfold manyP
    exact List.mem_map.2 ⟨((n : Int) - 1 - t).toNat, List.mem_range.2 (by omega), rfl⟩
  · intro h
    obtain ⟨x, hx, rfl⟩ := List.mem_map.1 h
    obtain ⟨u, hu, rfl⟩ := manyP_mem hx
    simp only
    omega
theorem refE_all {m : Int} : ∀ {l : List Wr1}, (∀ x ∈ l, 0 ≤ x.1 ∧ x.1 < m ∧ x.2.size = 256) → refE m l = 0
  | [], _ => rfl
  | y :: r, h => by
    obtain ⟨h1, h2, h3⟩ := h y (by simp)
    unfold refE
    rw [if_pos ⟨h1, h2⟩, if_pos h3]
    exact refE_all (fun x hx => h x (by simp [hx]))
theorem many_ok {n : Nat} (i : Nat) (h1 : 1 ≤ n) (h2 : n ≤ 60) {q : Int} (hq : 0 ≤ q ∧ q < 1099511627776) : CommitOk 200 q (manyP n i n) (rangeI n) := by
  refine ⟨many_once n i, by omega, by rw [rangeI_len]; omega, by rw [manyP_len]; omega, refE_all (fun x hx => ?_), hq⟩
  obtain ⟨u, hu, rfl⟩ := manyP_mem hx
  exact ⟨by simp only; omega, by simp only; omega, roundB_size i⟩
theorem many_last {n i : Nat} {t : Int} (h : t ∈ rangeI n) : lastB (manyP n i n) t = roundB i := by
  rw [many_once n i, (putOnce_spec _).2 t] at h
  obtain ⟨j, x, _, _, hx, _, e⟩ := lastM_all _ h
  rw [← e]
  obtain ⟨u, _, rfl⟩ := manyP_mem (List.mem_of_getElem? hx)
  rfl

/-- What the home sectors held ahead of commit j. -/
def oldB : Nat → ByteArray
  | 0 => zeroB 256
  | j + 1 => roundB j
def headB : Nat → ByteArray
  | 0 => zeroB 256
  | j + 1 => doneB ((j : Int) + 1)
structure Inv9 (n j : Nat) (s : List ByteArray) : Prop where
  len : s.length = 200
  head : s[0]? = some (headB j)
  home : ∀ t : Nat, t < n → s[111 + t]? = some (oldB j)
  small : ∀ x ∈ s, x.size ≤ 256
theorem Inv9.start (n : Nat) (hn : n ≤ 60) : Inv9 n 0 (List.replicate 200 (zeroB 256)) :=
  ⟨List.length_replicate, by rw [List.getElem?_replicate, if_pos (by omega)]; rfl, fun t ht => by rw [List.getElem?_replicate, if_pos (by omega)]; rfl, fun x hx => by rw [List.eq_of_mem_replicate hx, zeroB_size]; omega⟩
theorem fold_small {N : Nat} (G : List (List Wr1)) : ∀ s : List ByteArray, (∀ g ∈ G, Fit N g) → (∀ x ∈ s, x.size ≤ 256) → ∀ x ∈ G.foldl setI s, x.size ≤ 256 := by
  induction G with
  | nil => intro s _ h; exact h
  | cons g r ih =>
    intro s hf hs
    exact ih _ (fun g' hg' => hf g' (by simp [hg'])) (setI_small g 256 s (fun x hx => by have := (hf g (by simp) x hx).2.2; omega) hs)
theorem Inv9.next {n j : Nat} {s : List ByteArray} (h : Inv9 n j s) (h1 : 1 ≤ n) (h2 : n ≤ 60) (hj : j < 100) : Inv9 n (j + 1) (doneS s (j : Int) (manyP n j n) (rangeI n)) := by
  have hok := many_ok j h1 h2 (q := (j : Int)) (by omega)
  refine ⟨by rw [CommitOk.done_len]; exact h.len, hok.done_head s h.len, fun t ht => ?_, fold_small _ _ hok.fits h.small⟩
  have := hok.done_at s h.len (t := (t : Int)) (by omega) (by omega)
  rw [if_pos (rangeI_mem.2 (by omega)), many_last (rangeI_mem.2 (by omega))] at this
  rw [show (111 + (t : Int)).toNat = 111 + t by omega] at this
  exact this

theorem head_read {j : Nat} (hj : j ≤ 100) (W : World) : Calls Tryz.prog 129 #[.string (headB j)] W fun e w' => ∃ A c, e = .returned (.tuple #[.agg #[.int .i64 (j : Int), .bool false, .slice A 0 c], .int .i64 0]) ∧ Below W.heap.size W w' := by
  cases j with
  | zero => exact read_zero W
  | succ j => exact read_done (q := (j : Int) + 1) (by omega) (by omega) W

/-- What a disk may hold whose power went in a commit: as ahead of it, full, or as behind it. -/
inductive Left9 (n j : Nat) (Y : List ByteArray) : Prop
  | old (h : Inv9 n j Y)
  | full (hl : Y.length = 200) (hs : ∀ x ∈ Y, x.size ≤ 256) (h0 : Y[0]? = some (fullB ((j : Int) + 1) (rangeI n))) (hc : ∀ k : Nat, k < n → Y[1 + k]? = some (roundB j))
  | new (h : Inv9 n (j + 1) Y)

theorem part_small {s Y : List ByteArray} {g : List Wr1} {N : Nat} (h : Part s (natW g) Y) (hs : ∀ x ∈ s, x.size ≤ 256) (hg : Fit N g) : ∀ x ∈ Y, x.size ≤ 256 := by
  intro x hx
  obtain ⟨i, hi⟩ := List.getElem?_of_mem hx
  rcases h.2 i with e | ⟨y, hy, _, e⟩
  · rw [hi] at e
    exact hs x (List.mem_of_getElem? e.symm)
  · rw [hi] at e
    injection e with e
    unfold natW at hy
    obtain ⟨z, hz, rfl⟩ := List.mem_map.1 hy
    have := (hg z hz).2.2
    rw [e]
    show z.2.size ≤ 256
    omega
theorem part_far {s Y : List ByteArray} {g : List Wr1} (h : Part s (natW g) Y) {i : Nat} (hi : ∀ x ∈ g, x.1.toNat ≠ i) : Y[i]? = s[i]? := by
  rcases h.2 i with e | ⟨y, hy, e', _⟩
  · exact e
  · unfold natW at hy
    obtain ⟨z, hz, rfl⟩ := List.mem_map.1 hy
    exact absurd e' (hi z hz)
theorem copies_here (l : List Wr1) (ts : List Int) : ∀ (k : Nat) (s : List ByteArray), k + ts.length < s.length → ∀ j t, ts[j]? = some t → (setI s (copiesL l k ts))[1 + (k + j)]? = some (lastB l t) := by
  induction ts with
  | nil => intro k s _ j t h; cases h
  | cons u r ih =>
    intro k s hs j t h
    rw [copiesL, setI_cons]
    cases j with
    | zero =>
      rw [List.getElem?_cons_zero] at h
      injection h with h
      subst h
      rw [setI_far _ _ (fun x hx => ?_)]
      · have e : (1 + (k : Int)).toNat = 1 + (k + 0) := by omega
        rw [show ((1 + (k : Int), lastB l u) : Wr1).1 = 1 + (k : Int) from rfl, e, List.getElem?_set_self (by simp only [List.length_cons] at hs; omega)]
      · obtain ⟨j', t', rfl, h1, _, _⟩ := copies_at l r (k + 1) x hx
        simp only
        omega
    | succ j =>
      rw [List.getElem?_cons_succ] at h
      have := ih (k + 1) (s.set (1 + (k : Int)).toNat (lastB l u)) (by simp only [List.length_set]; simp only [List.length_cons] at hs; omega) j t h
      rw [show k + 1 + j = k + (j + 1) by omega] at this
      exact this

theorem left_cases {n j : Nat} {s : List ByteArray} (h : Inv9 n j s) (h1 : 1 ≤ n) (h2 : n ≤ 60) (hj : j < 100) {i : Nat} {g : List Wr1} {Y : List ByteArray}
    (hi : (groupsL (j : Int) (manyP n j n) (rangeI n))[i]? = some g) (hp : Part (((groupsL (j : Int) (manyP n j n) (rangeI n)).take i).foldl setI s) (natW g) Y) : Left9 n j Y := by
  have hok := many_ok j h1 h2 (q := (j : Int)) (by omega)
  have hf := hok.fits
  have hrl := rangeI_len n
  have hcopy : ∀ (x : Wr1), x ∈ copiesL (manyP n j n) 0 (rangeI n) → 1 ≤ x.1 ∧ x.1 ≤ 60 := fun x hx => by
    obtain ⟨k, t, rfl, a1, a2, a3⟩ := copies_at _ _ 0 x hx
    simp only
    omega
  have hhome : ∀ (x : Wr1), x ∈ homeL (manyP n j n) (rangeI n) → 111 ≤ x.1 ∧ x.1 < 111 + (n : Int) := fun x hx => by
    obtain ⟨t, ht, rfl⟩ := home_at _ _ hx
    have := rangeI_mem.1 ht
    simp only
    omega
  have hsm := fold_small ((groupsL (j : Int) (manyP n j n) (rangeI n)).take i) s (fun g' hg' => hf g' (List.mem_of_mem_take hg')) h.small
  have hYs := part_small hp hsm (hf g (List.mem_of_getElem? hi))
  have hYl : Y.length = 200 := by
    have : ∀ (G : List (List Wr1)) (s : List ByteArray), (G.foldl setI s).length = s.length := by
      intro G
      induction G with
      | nil => intro s; rfl
      | cons g r ih => intro s; show (r.foldl setI (setI s g)).length = _; rw [ih, setI_length]
    rw [hp.1, this, h.len]
  unfold groupsL at hi hp
  match i, hi with
  | 0, hi =>
    injection hi with hi
    subst hi
    have hp : Part s (natW (copiesL (manyP n j n) 0 (rangeI n))) Y := hp
    refine .old ⟨hYl, ?_, fun t ht => ?_, hYs⟩
    · rw [part_far hp (fun x hx => by have := hcopy x hx; omega)]; exact h.head
    · rw [part_far hp (fun x hx => by have := hcopy x hx; omega)]; exact h.home t ht
  | 1, hi =>
    injection hi with hi
    subst hi
    have hp : Part (setI s (copiesL (manyP n j n) 0 (rangeI n))) (natW [(0, bs (HD.mk ((j : Int) + 1) true (rangeI n)).text)]) Y := hp
    rcases hp.2 0 with e | ⟨x, hx, _, e⟩
    · refine .old ⟨hYl, ?_, fun t ht => ?_, hYs⟩
      · rw [e, setI_far _ _ (fun x hx => by have := hcopy x hx; omega)]; exact h.head
      · rw [part_far hp (fun x hx => by rw [List.mem_singleton.1 hx]; simp only; omega), setI_far _ _ (fun x hx => by have := hcopy x hx; omega)]; exact h.home t ht
    · have hx : x = (((0 : Int)).toNat, bs (HD.mk ((j : Int) + 1) true (rangeI n)).text) := List.mem_singleton.1 hx
      subst hx
      refine .full hYl hYs e (fun k hk => ?_)
      rw [part_far hp (fun x hx => by rw [List.mem_singleton.1 hx]; simp only; omega)]
      have := copies_here (manyP n j n) (rangeI n) 0 s (by rw [hrl, h.len]; omega) k (k : Int) (rangeI_get hk)
      rw [Nat.zero_add, many_last (rangeI_mem.2 (by omega))] at this
      exact this
  | 2, hi =>
    injection hi with hi
    subst hi
    have hp : Part (setI (setI s (copiesL (manyP n j n) 0 (rangeI n))) [(0, bs (HD.mk ((j : Int) + 1) true (rangeI n)).text)]) (natW (homeL (manyP n j n) (rangeI n))) Y := hp
    refine .full hYl hYs ?_ (fun k hk => ?_)
    · rw [part_far hp (fun x hx => by have := hhome x hx; omega), setI_cons]
      show (List.set _ 0 _)[0]? = _
      rw [List.getElem?_set_self (by rw [setI_length, h.len]; omega)]
      rfl
    · rw [part_far hp (fun x hx => by have := hhome x hx; omega), setI_far _ _ (fun x hx => by rw [List.mem_singleton.1 hx]; simp only; omega)]
      have := copies_here (manyP n j n) (rangeI n) 0 s (by rw [hrl, h.len]; omega) k (k : Int) (rangeI_get hk)
      rw [Nat.zero_add, many_last (rangeI_mem.2 (by omega))] at this
      exact this
  | 3, hi =>
    injection hi with hi
    subst hi
    have hp : Part (setI (setI (setI s (copiesL (manyP n j n) 0 (rangeI n))) [(0, bs (HD.mk ((j : Int) + 1) true (rangeI n)).text)]) (homeL (manyP n j n) (rangeI n))) (natW [(0, bs (HD.mk ((j : Int) + 1) false []).text)]) Y := hp
    rcases hp.2 0 with e | ⟨x, hx, _, e⟩
    · refine .full hYl hYs ?_ (fun k hk => ?_)
      · rw [e, setI_far _ _ (fun x hx => by have := hhome x hx; omega), setI_cons]
        show (List.set _ 0 _)[0]? = _
        rw [List.getElem?_set_self (by rw [setI_length, h.len]; omega)]
        rfl
      · rw [part_far hp (fun x hx => by rw [List.mem_singleton.1 hx]; simp only; omega), setI_far _ _ (fun x hx => by have := hhome x hx; omega), setI_far _ _ (fun x hx => by rw [List.mem_singleton.1 hx]; simp only; omega)]
        have := copies_here (manyP n j n) (rangeI n) 0 s (by rw [hrl, h.len]; omega) k (k : Int) (rangeI_get hk)
        rw [Nat.zero_add, many_last (rangeI_mem.2 (by omega))] at this
        exact this
    · have hx : x = (((0 : Int)).toNat, bs (HD.mk ((j : Int) + 1) false []).text) := List.mem_singleton.1 hx
      subst hx
      refine .new ⟨hYl, e, fun t ht => ?_, hYs⟩
      rw [part_far hp (fun x hx => by rw [List.mem_singleton.1 hx]; simp only; omega)]
      have := setI_home (manyP n j n) (rangeI n) (t := (t : Int)) (setI (setI s (copiesL (manyP n j n) 0 (rangeI n))) [(0, bs (HD.mk ((j : Int) + 1) true (rangeI n)).text)]) (rangeI_mem.2 (by omega)) (by omega) (by rw [setI_length, setI_length, h.len]; omega) (fun u hu => (rangeI_mem.1 hu).1)
      rw [many_last (rangeI_mem.2 (by omega)), show (111 + (t : Int)).toNat = 111 + t by omega] at this
      exact this
end Go.Proofs.YtolbnkpakjdnnaaGreatDoor
