/-
  SHA-256, the code's: the words of all rounds.
-/
import Derived.Test.YtingkbeifohihaaGreatDoorTwoSmall
import Derived.Test.YtingkbeifohihaaGreatDoorOneMix
import Derived.Test.YtingkbeifohihaaGreatDoorRegionApp
import Derived.Deep.DeepCutAuto
import Derived.Deep.RegionWith
import Derived.StillTailTactics
namespace Go.Proofs.YtingkbeifohihaaGreatDoor
open Go.RowKit
set_option maxRecDepth 100000
set_option maxHeartbeats 40000000
def aM (s : S8) : Array Value := (aF s.words).toArray
theorem Cr (s : S8) {i : Nat} (h : i < 8) : (aM s)[i]? = some (.int .u32 ((s.words.getD i 0 : Nat) : Int)) := iM (l := s.words) h
def eN (w0 w : World) (g gk : Nat) (H : Array Value) : Prop := fU w0 w g H /\ aG w gk 132 dM /\ w0.heap.size <= gk /\ gk ≠ g
theorem eN.new {w0 w w' : World} {g gk : Nat} {H : Array Value} (h : eN w0 w g gk H) (hg : w.grownBy w' none) : eN w0 w' g gk H :=
 ⟨h.1.new hg, h.2.1.grown hg (by intro e; cases e), h.2.2⟩
theorem eN.row {w0 w w' : World} {g gk : Nat} {H : Array Value} {v : Value} (h : eN w0 w g gk H) (hg : w.grownBy w' v.ownBlock) (ho : ∀ k, v.ownBlock = some k -> w0.heap.size <= k) (hne : some g ≠ v.ownBlock) (hnk : some gk ≠ v.ownBlock) : eN w0 w' g gk H :=
 ⟨h.1.row hg ho hne, h.2.1.grown hg hnk, h.2.2⟩
theorem Mx (w w2 : World) (A : Array Value) (hb : Below ((w.alloc (.cells A 132)).alloc (.cells dM 132)).heap.size ((w.alloc (.cells A 132)).alloc (.cells dM 132)) w2) : eN w w2 w.heap.size (w.heap.size + 1) A := by
 have h1 : aG ((w.alloc (.cells A 132)).alloc (.cells dM 132)) w.heap.size 132 A := (aG.new w _ A).alloc _
 have h2 : aG ((w.alloc (.cells A 132)).alloc (.cells dM 132)) (w.heap.size + 1) 132 dM := by
  have := aG.new (w.alloc (.cells A 132)) 132 dM
  simpa using this
 have h3 : Below w.heap.size w ((w.alloc (.cells A 132)).alloc (.cells dM 132)) := ((Below.refl _ _).alloc (Nat.le_refl _) _).alloc (by simp) _
 exact ⟨⟨h1.below hb h1.lt, Nat.le_refl _, h3.trans (hb.mono h3.size)⟩, h2.below hb h2.lt, by omega, by omega⟩
def gZ (s z : S8) (i : Nat) : Array Value := (aF ((s.plus z).words.take i ++ s.words.drop i)).toArray
theorem rR (s z : S8) : gZ s z 0 = aM s := rfl
theorem uH (s z : S8) : gZ s z 8 = aM (s.plus z) := rfl
theorem uI (s z : S8) {i : Nat} (h : i < 8) : (gZ s z i)[i]? = some (.int .u32 ((s.words.getD i 0 : Nat) : Int)) := by
 match i, h with
 | 0, _ => rfl
 | 1, _ => rfl
 | 2, _ => rfl
 | 3, _ => rfl
 | 4, _ => rfl
 | 5, _ => rfl
 | 6, _ => rfl
 | 7, _ => rfl
theorem uJ (s z : S8) {i : Nat} (h : i < 8) : (gZ s z i).setIfInBounds i (.int .u32 ((bB (s.words.getD i 0) (z.words.getD i 0) : Nat) : Int)) = gZ s z (i + 1) := by
 match i, h with
 | 0, _ => rfl
 | 1, _ => rfl
 | 2, _ => rfl
 | 3, _ => rfl
 | 4, _ => rfl
 | 5, _ => rfl
 | 6, _ => rfl
 | 7, _ => rfl
theorem lO {p : Nat -> UInt8} {l : List Nat} {j : Nat} (h : ¬ j < 16) : kO p l j = bB (bB (bB (l.getD (j - 16) 0) (l.getD (j - 7) 0)) (rU (l.getD (j - 15) 0))) (xM (l.getD (j - 2) 0)) := by
 unfold kO
 rw [if_neg h]
theorem AG (x : Nat) : (x : Int) / 8 = ((x >>> 3 : Nat) : Int) := by rw [Nat.shiftRight_eq_div_pow]; show (x : Int) / 8 = ((x / 8 : Nat) : Int); omega
theorem Yl (x : Nat) : (x : Int) / 1024 = ((x >>> 10 : Nat) : Int) := by rw [Nat.shiftRight_eq_div_pow]; show (x : Int) / 1024 = ((x / 1024 : Nat) : Int); omega
theorem Rw (w : World) {g b : Nat} (h : b ≠ g) (i k : Nat) (v : Value) : (w.setCell ⟨g, k, none⟩ v).cell? ⟨b, i, none⟩ = w.cell? ⟨b, i, none⟩ := by
 have hb := Below.heap_setCell w ⟨g, k, none⟩ v b h
 simp [World.cell?, hb]
theorem My {s : S8} (h : s.ok) {i : Nat} (hi : i < 8) : s.words.getD i 0 < 4294967296 := by
 match i, hi with
 | 0, _ => exact h.1.1
 | 1, _ => exact h.1.2.1
 | 2, _ => exact h.1.2.2.1
 | 3, _ => exact h.1.2.2.2
 | 4, _ => exact h.2.1
 | 5, _ => exact h.2.2.1
 | 6, _ => exact h.2.2.2.1
 | 7, _ => exact h.2.2.2.2
theorem uK (s : S8) {i : Nat} (hi : i < 8) : s.words[i]? = some (s.words.getD i 0) := by
 match i, hi with
 | 0, _ => rfl
 | 1, _ => rfl
 | 2, _ => rfl
 | 3, _ => rfl
 | 4, _ => rfl
 | 5, _ => rfl
 | 6, _ => rfl
 | 7, _ => rfl
theorem rS (s : S8) {j : Nat} (h : j < 8) : ((s.words.take j).flatMap fun x => aX x 4).length = 4 * j := by
 match j, h with
 | 0, _ => rfl
 | 1, _ => rfl
 | 2, _ => rfl
 | 3, _ => rfl
 | 4, _ => rfl
 | 5, _ => rfl
 | 6, _ => rfl
 | 7, _ => rfl
theorem eN.put {w0 w : World} {g gk : Nat} {H : Array Value} (h : eN w0 w g gk H) (i : Nat) (v : Value) : eN w0 (w.setCell ⟨g, i, none⟩ v) g gk (H.setIfInBounds i v) :=
 ⟨⟨h.1.1.put i v, h.1.2.1, h.1.2.2.setCell h.1.2.1 v⟩, h.2.1.far h.2.2.2 v, h.2.2⟩
def gE (b : Value) (g j y0 y1 x y : Nat) : Nat -> Value
 | 0 | 1 | 6 => b
 | 2 | 7 => .int .i64 (j : Int)
 | 3 => .int .i64 ((j - 16 : Nat) : Int)
 | 8 => .int .i64 ((j - 7 : Nat) : Int)
 | 4 => .pointer (some ⟨g, j - 16, none⟩)
 | 9 => .pointer (some ⟨g, j - 7, none⟩)
 | 5 => .int .u32 (y0 : Int)
 | 10 => .int .u32 (y1 : Int)
 | 11 => .int .u32 ((bB y0 y1 : Nat) : Int)
 | 12 | 14 | 17 => .int .u32 (x : Int)
 | 13 => .int .u32 ((bY x 25 : Nat) : Int)
 | 15 => .int .u32 ((bY x 14 : Nat) : Int)
 | 16 => .int .u32 ((bY x 25 ^^^ bY x 14 : Nat) : Int)
 | 18 => .int .u32 ((x >>> 3 : Nat) : Int)
 | 19 => .int .u32 ((rU x : Nat) : Int)
 | 20 => .int .u32 ((bB (bB y0 y1) (rU x) : Nat) : Int)
 | 21 | 23 | 26 => .int .u32 (y : Int)
 | 22 => .int .u32 ((bY y 15 : Nat) : Int)
 | 24 => .int .u32 ((bY y 13 : Nat) : Int)
 | 25 => .int .u32 ((bY y 15 ^^^ bY y 13 : Nat) : Int)
 | 27 => .int .u32 ((y >>> 10 : Nat) : Int)
 | 28 => .int .u32 ((xM y : Nat) : Int)
 | _ => .int .u32 ((bB (bB (bB y0 y1) (rU x)) (xM y) : Nat) : Int)
theorem Rx (s : ByteArray) (w : World) (hs : s.size <= 1000000) :
  Calls Tryz.prog 37 #[.string s] w fun e w' => e = .returned (.string ⟨(zT s.data.toList).toArray⟩) /\ Below w.heap.size w w' := by
 obtain ⟨i0, hi, hz0, hz1, hz2⟩ := info_parts Ei
 obtain ⟨PB, hPB⟩ : ∃ PB : ByteArray, PB = ⟨(gC s.size).toArray⟩ := ⟨_, rfl⟩
 have hPs : PB.size = (gC s.size).length := by rw [hPB]; show (gC s.size).toArray.size = _; simp
 have hpw := qN s.size
 have hpl : (gC s.size).length <= 72 := by have := jZ s.size; rw [jA]; omega
 rw [<- hPs] at hpw hpl
 have HP : Hid (∀ w, Calls Tryz.prog 71 #[.int .i64 (s.size : Int)] w fun e w' => e = .returned (.string PB) /\ Below w.heap.size w w') := Lib.hid (fun w => by rw [hPB]; exact xL s.size w (by omega))
 obtain ⟨M, hM⟩ : ∃ M, M = s ++ PB := ⟨_, rfl⟩
 have hMs : M.size = s.size + PB.size := by rw [hM, ByteArray.size_append]
 have HMD : Hid (M.data.toList = s.data.toList ++ gC s.size) := Lib.hid (by rw [hM, hPB, ByteArray.data_append, Array.toList_append])
 obtain ⟨Q, hQ⟩ : ∃ Q, Q = M.size / 64 := ⟨_, rfl⟩
 have hMQ : M.size = 64 * Q := by omega
 have hcat : s ++ PB = M := hM.symm
 have hl1 : s.size + PB.size <= 9223372036854775807 := by omega
 have hQ1 : Q <= 100000 := by omega
 have HQ := Lib.hid hQ
 have HMQ := Lib.hid hMQ
 clear hPB hPs hpw hM hQ hMs hMQ
 go_enter Tryz.func37, Tryz.ntmps37
 go_wp2_with (go_at_call 75; refine (Ry _).mono ?_; rintro e w1 ⟨rfl, rfl⟩)
 go_wp2_with (go_at_call 71; refine (HP.out _).mono ?_; rintro e w2 ⟨rfl, hb2⟩)
 have HK1 := Lib.hid (Mx w w2 (aM (hU M.data.toList 0)) hb2)
 clear hb2
 go_wp2_with fail
 clear hcat hl1
 obtain ⟨gk, hgk⟩ : ∃ gk, gk = w.heap.size + 1 := ⟨_, rfl⟩
 obtain ⟨g, hg⟩ : ∃ g, g = w.heap.size := ⟨_, rfl⟩
 rw [<- hgk, <- hg] at HK1
 rw [<- hgk, <- hg]
 have HGG := Lib.hid (And.intro hg hgk)
 clear hg hgk
 go_loopw [5] (fun a wr => ∃ q : Nat, q <= Q /\ (∃ A : Nat, A = 64 * q /\ a = .int .i64 (A : Int)) /\ eN w wr g gk (aM (hU M.data.toList q))) (fun a _ => 64 * Q - (intOf a).toNat)
 case atStart => exact ⟨0, by omega, ⟨0, rfl, rfl⟩, HK1.out⟩
 case round =>
  clear HK1
  obtain ⟨q, hq, ⟨A, hA, rfl⟩, hk⟩ := hrel
  have HK := Lib.hid hk
  have HA := Lib.hid hA
  have hA1 : A <= 6400000 := by omega
  clear hk
  by_cases hlt : q < Q
  ·have hAM : A + 64 <= M.size := by have := HMQ.out; omega
   have hAMI : (A : Int) < (M.size : Int) := by omega
   clear hA
   obtain ⟨H, hH⟩ : ∃ H, H = aM (hU M.data.toList q) := ⟨_, rfl⟩
   rw [<- hH] at HK
   have HH := Lib.hid hH
   clear hH
   go_wp2_with fail
   go_loopw [6, 7] (fun v i w2 => ∃ j : Nat, j <= 64 /\ i = .int .i64 (j : Int) /\ w2.ownsRow w.heap.size 132 1 v j (aF (bT (bN M.data.toList q) j)) /\ some g ≠ v.ownBlock /\ some gk ≠ v.ownBlock /\ eN w w2 g gk H) (fun _ i _ => 64 - (intOf i).toNat)
   case atStart => exact ⟨0, by omega, rfl, World.ownsRow_nil _ _ _ _, by simp [Value.ownBlock], by simp [Value.ownBlock], HK.out⟩
   case round =>
    obtain ⟨j, hj, rfl, hown, hne, hnk, hk2⟩ := hrel
    have HOWN := Lib.hid hown
    have HNE := Lib.hid (And.intro hne hnk)
    have HK2 := Lib.hid hk2
    clear hown hne hnk hk2
    by_cases hj64 : j < 64
    ·by_cases hj16 : j < 16
     ·have HL : Hid ((aF (bT (bN M.data.toList q) j)).length = j) := Lib.hid (by unfold aF; simp [cD])
      obtain ⟨c, hc⟩ : ∃ c : Nat, c = A + 4 * j := ⟨_, rfl⟩
      have hcI : (A : Int) + 4 * (j : Int) = (c : Int) := by omega
      have hc1 : c + 4 <= M.size := by omega
      obtain ⟨X, hX⟩ : ∃ X, X = M.extract c (c + 4) := ⟨_, rfl⟩
      have hex : M.extract c (c + 4) = X := hX.symm
      have hXs : X.size = 4 := by rw [hX, ByteArray.size_extract]; omega
      obtain ⟨y, hy⟩ : ∃ y, y = kO (bN M.data.toList q) (bT (bN M.data.toList q) j) j := ⟨_, rfl⟩
      have HW : Hid (∀ w3, Calls Tryz.prog 72 #[.string X] w3 fun e w' => e = .returned (.int .u32 (y : Int)) /\ ∃ d, w' = w3.drewN d) := Lib.hid (fun w3 => by
       have := Ea X w3 hXs
       rw [hX, hc, HA.out, uE M q j] at this
       rw [hy, hX, hc, HA.out]
       unfold kO
       rw [if_pos hj16]
       exact this)
      have HE : Hid (aF (bT (bN M.data.toList q) (j + 1)) = aF (bT (bN M.data.toList q) j) ++ [.int .u32 (y : Int)]) := Lib.hid (by rw [jD, <- hy]; unfold aF; simp)
      obtain ⟨WL, hWL⟩ : ∃ WL, WL = aF (bT (bN M.data.toList q) j) := ⟨_, rfl⟩
      rw [<- hWL] at HE HOWN HL
      have hsl := xJ wr M X c hc1 hex
      clear hc hX hXs hy hWL
      go_wp2_with (first | (go_at_call 72; refine (HW.out _).mono ?_; rintro e w3 ⟨rfl, d, rfl⟩) | (at_builtin; refine wpList_append_lies _ rfl (.tmp 42) (.tmp 55) 133 rfl w.heap.size 132 i0 (.int .u32 0) 1 4 Tryz.underlying133 hi hz0 hz1 hz2 rfl (by omega) _ j _ rfl ((show (wr.drewN d).ownsRow _ _ _ _ _ _ from HOWN.out).alloc _) ⟨wr.heap.size, 0, none⟩ 1 1 [.int .u32 (y : Int)] rfl rfl ?c1 ?c2 (by omega) (by unfold maxLen; omega) (by omega) (by have := HK2.out.1.2.2.size; simp; omega) _ rfl ?_))
      case c1 =>
       intro a u ha
       match a, ha with
       | 0, ha => simp at ha; subst ha; simp [Addr.add]; exact (aG.new (wr.drewN d) 132 #[.int .u32 (y : Int)]).cell 0
      case c2 => intro u hu; simp at hu; subst hu; rfl
      intro g2 cap w4 hown1 hg1 hor hlt1
      have HK4 := Lib.hid (eN.row (eN.new HK2.out ((cY (aC _ _) d : wr.grownBy (wr.drewN d) none))|>.new (bH (aC _ _) _)) hg1 (fun k hk => (HOWN.out.lt k hk).1) HNE.out.1 HNE.out.2)
      have hnew : ∀ k, k < wr.heap.size -> some k ≠ u6.ownBlock -> some k ≠ (Value.slice (some ⟨g2, 0, none⟩) (j + 1) cap).ownBlock := by
       intro k hk1 hk2 e
       have e : k = g2 := by simpa [Value.ownBlock] using e
       rcases hor with h | h
       ·exact hk2 (by rw [h, e])
       ·have h : g2 = wr.heap.size + 1 := h
        omega
      have HNE4 := Lib.hid (And.intro (hnew g HK2.out.1.1.lt HNE.out.1) (hnew gk HK2.out.2.1.lt HNE.out.2))
      rw [<- HE.out] at hown1
      have HOW4 := Lib.hid hown1
      clear hown1 hg1 hor hlt1 hnew hsl
      go_wp2_with fail
      go_roundw
      case rel => exact ⟨j + 1, by omega, by go_num, HOW4.out, HNE4.out.1, HNE4.out.2, HK4.out⟩
      case measure => simp [intOf] <;> omega
     ·obtain ⟨l, hl⟩ : ∃ l, l = bT (bN M.data.toList q) j := ⟨_, rfl⟩
      have hll : l.length = j := by rw [hl]; exact cD _ _
      have HN := Lib.hid (lO (p := bN M.data.toList q) (l := l) hj16)
      have HE : Hid (aF (bT (bN M.data.toList q) (j + 1)) = aF l ++ [.int .u32 ((kO (bN M.data.toList q) l j : Nat) : Int)]) := Lib.hid (by rw [jD, <- hl]; unfold aF; simp)
      have hlt4 := fun i => pL (Bc (bN M.data.toList q) j) (by decide) i
      rw [<- hl] at HOWN hlt4
      rw [HN.out] at HE
      obtain ⟨g', cap, hu6, hg0, hg1⟩ := HOWN.out.form (by omega)
      have hu6 : u6 = .slice (some ⟨g', 0, none⟩) j cap := hu6
      subst hu6
      have hcell : ∀ i, i < j -> wr.cell? ⟨g', i, none⟩ = some (.int .u32 ((l.getD i 0 : Nat) : Int)) := fun i hi' => by
       have := HOWN.out.cells (g := g') rfl i (.int .u32 ((l.getD i 0 : Nat) : Int)) (by have h := iM (l := l) (i := i) (by omega); simpa using h)
       rw [fY, Nat.zero_add] at this
       exact this
      obtain ⟨ia, hia⟩ : ∃ ia, ia = j - 15 := ⟨_, rfl⟩
      obtain ⟨ib, hib⟩ : ∃ ib, ib = j - 2 := ⟨_, rfl⟩
      have wa : IntKind.i64.wrap ((j : Int) - 15) = (ia : Int) := by rw [IntWalk.i64_in _ (by omega)]; omega
      have wb : IntKind.i64.wrap ((j : Int) - 2) = (ib : Int) := by rw [IntWalk.i64_in _ (by omega)]; omega
      have ja : (j : Int) - 15 = (ia : Int) := by omega
      have jb : (j : Int) - 2 = (ib : Int) := by omega
      have la : (ia : Int) < (j : Int) := by omega
      have lb : (ib : Int) < (j : Int) := by omega
      have ca := hcell ia (by omega)
      have cb := hcell ib (by omega)
      have HCy0' := Lib.hid (hcell (j - 16) (by omega))
      have HCy1' := Lib.hid (hcell (j - 7) (by omega))
      have HXL := Lib.hid (hlt4 ia)
      have HYL := Lib.hid (hlt4 ib)
      rw [<- hia, <- hib] at HE
      have HG1 := Lib.hid hg1
      have HLC := Lib.hid (show (aF l).length = j by unfold aF; simpa using hll)
      clear hlt4 hcell HN hia hib hl hll hg1
      generalize l.getD (j - 16) 0 = y0 at *
      generalize l.getD (j - 7) 0 = y1 at *
      generalize l.getD ia 0 = xx at *
      generalize l.getD ib 0 = yy at *
      go_wp2_with fail
      go_quiet (fail)
      clear wa wb ja jb la lb ca cb
      go_upto_region 14 with fail
      generalize hw5 : wr.drewN _ = w5
      have HOWN5 : Hid (w5.ownsRow w.heap.size 132 1 (.slice (some ⟨g', 0, none⟩) j cap) j (aF l)) := Lib.hid (by rw [<- hw5]; exact HOWN.out)
      have HK5 : Hid (eN w w5 g gk H) := Lib.hid (by rw [<- hw5]; exact HK2.out.new (cY (aC _ _) _))
      have hg15 : g' < w5.heap.size := by rw [<- hw5]; exact HG1.out
      have hy0 : w5.cell? ⟨g', j - 16, none⟩ = some (.int .u32 (y0 : Int)) := by rw [<- hw5]; exact HCy0'.out
      have hy1 : w5.cell? ⟨g', j - 7, none⟩ = some (.int .u32 (y1 : Int)) := by rw [<- hw5]; exact HCy1'.out
      have hgr : ∀ i v, w5.cell? ⟨g', i, none⟩ = some v -> ∀ w3 : World, w5.drew.grownBy w3 none -> w3.cell? ⟨g', i, none⟩ = some v := fun i v h w3 hw3 => (Below.cell (fH hw3) (p := ⟨g', i, none⟩) hg15).trans h
      have HCy0 := Lib.hid (hgr _ _ hy0)
      have HCy1 := Lib.hid (hgr _ _ hy1)
      clear hw5 hy0 hy1 hgr HCy0' HCy1' HOWN HK2 HG1 hg15
      refine mL 67 30 6 218 0 (gE (.slice (some ⟨g', 0, none⟩) j cap) g' j y0 y1 xx yy) w.heap.size 133 132 i0 (.int .u32 0) (.slice (some ⟨g', 0, none⟩) j cap) j (aF l) [.int .u32 ((bB (bB (bB y0 y1) (rU xx)) (xM yy) : Nat) : Int)]
       (by kernel_rfl) (by kernel_rfl) rfl (by kernel_rfl) (by kernel_rfl) rfl (by omega) (by omega) Tryz.underlying133 hi hz0 hz1 (by omega) rfl HOWN5.out HK5.out.1.2.2.size (by simp) (by simp [Value.oneCell']) (by simp; omega)
       ?hops ?hbuild _ _ rfl rfl rfl rfl (by omega) rfl rfl rfl rfl rfl ?hK
      case hops =>
       intro i hi' y w3 hf hg hw
       rcases (show i = 0 \/ i = 1 \/ i = 2 \/ i = 3 \/ i = 4 \/ i = 5 \/ i = 6 \/ i = 7 \/ i = 8 \/ i = 9 \/ i = 10 \/ i = 11 \/ i = 12 \/ i = 13 \/ i = 14 \/ i = 15 \/ i = 16 \/ i = 17 \/ i = 18 \/ i = 19 \/ i = 20 \/ i = 21 \/ i = 22 \/ i = 23 \/ i = 24 \/ i = 25 \/ i = 26 \/ i = 27 \/ i = 28 \/ i = 29 by omega) with rfl | rfl | rfl | rfl | rfl | rfl | rfl | rfl | rfl | rfl | rfl | rfl | rfl | rfl | rfl | rfl | rfl | rfl | rfl | rfl | rfl | rfl | rfl | rfl | rfl | rfl | rfl | rfl | rfl | rfl
       ·have e0 : y.tmps[6]?.getD undef = .slice (some ⟨g', 0, none⟩) j cap := by rw [hf.2.2 6 (by omega)]; rfl
        clear hf hw hg
        refine aA (v := gE (.slice (some ⟨g', 0, none⟩) j cap) g' j y0 y1 xx yy 0) (w' := w3) rfl rfl ?_ ⟨rfl, aC _ _⟩
        go_simp
        rfl
       ·have e0 : y.tmps[6]?.getD undef = .slice (some ⟨g', 0, none⟩) j cap := by rw [hf.2.2 6 (by omega)]; rfl
        clear hf hw hg
        refine aA (v := gE (.slice (some ⟨g', 0, none⟩) j cap) g' j y0 y1 xx yy 1) (w' := w3) rfl rfl ?_ ⟨rfl, aC _ _⟩
        go_simp
        rfl
       ·have e0 : y.tmps[7]?.getD undef = .int .i64 (j : Int) := by rw [hf.2.2 7 (by omega)]; rfl
        clear hf hw hg
        refine aA (v := gE (.slice (some ⟨g', 0, none⟩) j cap) g' j y0 y1 xx yy 2) (w' := w3) rfl rfl ?_ ⟨rfl, aC _ _⟩
        go_simp
        rfl
       ·have e1 : y.tmps[69]?.getD undef = .int .i64 (j : Int) := hw 2 (of_decide_eq_true (by kernel_rfl)) (by omega)
        have w0 : IntKind.i64.wrap ((j : Int) - 16) = ((j - 16 : Nat) : Int) := by rw [IntWalk.i64_in _ (by omega)]; omega
        clear hf hw hg
        refine aA (v := gE (.slice (some ⟨g', 0, none⟩) j cap) g' j y0 y1 xx yy 3) (w' := w3) rfl rfl ?_ ⟨rfl, aC _ _⟩
        go_simp
        rfl
       ·obtain ⟨ix, hix⟩ : ∃ ix, ix = j - 16 := ⟨_, rfl⟩
        have e1 : y.tmps[70]?.getD undef = .int .i64 ((j - 16 : Nat) : Int) := hw 3 (of_decide_eq_true (by kernel_rfl)) (by omega)
        have e0 : y.tmps[68]?.getD undef = .slice (some ⟨g', 0, none⟩) j cap := hw 1 (of_decide_eq_true (by kernel_rfl)) (by omega)
        have hxl : (ix : Int) < (j : Int) := by omega
        rw [<- hix] at e1
        have HV : Hid (gE (.slice (some ⟨g', 0, none⟩) j cap) g' j y0 y1 xx yy 4 = .pointer (some ⟨g', ix, none⟩)) := Lib.hid (by rw [hix]; rfl)
        rw [HV.out]
        clear hf hw hg hix
        refine aA (v := .pointer (some ⟨g', ix, none⟩)) (w' := w3) rfl rfl ?_ ⟨rfl, aC _ _⟩
        go_simp
       ·have e1 : y.tmps[71]?.getD undef = .pointer (some ⟨g', j - 16, none⟩) := hw 4 (of_decide_eq_true (by kernel_rfl)) (by omega)
        have hcx : w3.cell? ⟨g', j - 16, none⟩ = some (.int .u32 (y0 : Int)) := HCy0.out w3 hg
        clear hf hw hg
        refine aA (v := gE (.slice (some ⟨g', 0, none⟩) j cap) g' j y0 y1 xx yy 5) (w' := w3) rfl rfl ?_ ⟨rfl, aC _ _⟩
        go_simp
        rfl
       ·have e0 : y.tmps[6]?.getD undef = .slice (some ⟨g', 0, none⟩) j cap := by rw [hf.2.2 6 (by omega)]; rfl
        clear hf hw hg
        refine aA (v := gE (.slice (some ⟨g', 0, none⟩) j cap) g' j y0 y1 xx yy 6) (w' := w3) rfl rfl ?_ ⟨rfl, aC _ _⟩
        go_simp
        rfl
       ·have e0 : y.tmps[7]?.getD undef = .int .i64 (j : Int) := by rw [hf.2.2 7 (by omega)]; rfl
        clear hf hw hg
        refine aA (v := gE (.slice (some ⟨g', 0, none⟩) j cap) g' j y0 y1 xx yy 7) (w' := w3) rfl rfl ?_ ⟨rfl, aC _ _⟩
        go_simp
        rfl
       ·have e1 : y.tmps[74]?.getD undef = .int .i64 (j : Int) := hw 7 (of_decide_eq_true (by kernel_rfl)) (by omega)
        have w0 : IntKind.i64.wrap ((j : Int) - 7) = ((j - 7 : Nat) : Int) := by rw [IntWalk.i64_in _ (by omega)]; omega
        clear hf hw hg
        refine aA (v := gE (.slice (some ⟨g', 0, none⟩) j cap) g' j y0 y1 xx yy 8) (w' := w3) rfl rfl ?_ ⟨rfl, aC _ _⟩
        go_simp
        rfl
       ·obtain ⟨ix, hix⟩ : ∃ ix, ix = j - 7 := ⟨_, rfl⟩
        have e1 : y.tmps[75]?.getD undef = .int .i64 ((j - 7 : Nat) : Int) := hw 8 (of_decide_eq_true (by kernel_rfl)) (by omega)
        have e0 : y.tmps[73]?.getD undef = .slice (some ⟨g', 0, none⟩) j cap := hw 6 (of_decide_eq_true (by kernel_rfl)) (by omega)
        have hxl : (ix : Int) < (j : Int) := by omega
        rw [<- hix] at e1
        have HV : Hid (gE (.slice (some ⟨g', 0, none⟩) j cap) g' j y0 y1 xx yy 9 = .pointer (some ⟨g', ix, none⟩)) := Lib.hid (by rw [hix]; rfl)
        rw [HV.out]
        clear hf hw hg hix
        refine aA (v := .pointer (some ⟨g', ix, none⟩)) (w' := w3) rfl rfl ?_ ⟨rfl, aC _ _⟩
        go_simp
       ·have e1 : y.tmps[76]?.getD undef = .pointer (some ⟨g', j - 7, none⟩) := hw 9 (of_decide_eq_true (by kernel_rfl)) (by omega)
        have hcx : w3.cell? ⟨g', j - 7, none⟩ = some (.int .u32 (y1 : Int)) := HCy1.out w3 hg
        clear hf hw hg
        refine aA (v := gE (.slice (some ⟨g', 0, none⟩) j cap) g' j y0 y1 xx yy 10) (w' := w3) rfl rfl ?_ ⟨rfl, aC _ _⟩
        go_simp
        rfl
       ·have e1 : y.tmps[72]?.getD undef = .int .u32 (y0 : Int) := hw 5 (of_decide_eq_true (by kernel_rfl)) (by omega)
        have e2 : y.tmps[77]?.getD undef = .int .u32 (y1 : Int) := hw 10 (of_decide_eq_true (by kernel_rfl)) (by omega)
        have HX := Lib.hid (eD y0 y1)
        clear hf hw hg
        refine aA (v := gE (.slice (some ⟨g', 0, none⟩) j cap) g' j y0 y1 xx yy 11) (w' := w3) rfl rfl ?_ ⟨rfl, aC _ _⟩
        go_simp
        exact congrArg (Value.int .u32) HX.out.symm
       ·have e0 : y.tmps[8]?.getD undef = .int .u32 (xx : Int) := by rw [hf.2.2 8 (by omega)]; rfl
        clear hf hw hg
        refine aA (v := gE (.slice (some ⟨g', 0, none⟩) j cap) g' j y0 y1 xx yy 12) (w' := w3) rfl rfl ?_ ⟨rfl, aC _ _⟩
        go_simp
        rfl
       ·have e1 : y.tmps[79]?.getD undef = .int .u32 (xx : Int) := hw 12 (of_decide_eq_true (by kernel_rfl)) (by omega)
        have HT := Lib.hid ((fV xx 25 w3 HXL.out (by omega)).mono (fun e w4 ⟨he, d, hd⟩ => show ∃ v, e = Ending.returned v /\ y.put (some (67 + 13)) v = y.put (some (67 + 13)) (gE (.slice (some ⟨g', 0, none⟩) j cap) g' j y0 y1 xx yy 13) /\ w3.grownBy w4 none from ⟨_, he, rfl, by rw [hd]; exact cY (aC _ _) d⟩))
        clear hf hw hg
        refine aP rfl rfl ?_ HT.out
        go_simp
       ·have e0 : y.tmps[8]?.getD undef = .int .u32 (xx : Int) := by rw [hf.2.2 8 (by omega)]; rfl
        clear hf hw hg
        refine aA (v := gE (.slice (some ⟨g', 0, none⟩) j cap) g' j y0 y1 xx yy 14) (w' := w3) rfl rfl ?_ ⟨rfl, aC _ _⟩
        go_simp
        rfl
       ·have e1 : y.tmps[81]?.getD undef = .int .u32 (xx : Int) := hw 14 (of_decide_eq_true (by kernel_rfl)) (by omega)
        have HT := Lib.hid ((fV xx 14 w3 HXL.out (by omega)).mono (fun e w4 ⟨he, d, hd⟩ => show ∃ v, e = Ending.returned v /\ y.put (some (67 + 15)) v = y.put (some (67 + 15)) (gE (.slice (some ⟨g', 0, none⟩) j cap) g' j y0 y1 xx yy 15) /\ w3.grownBy w4 none from ⟨_, he, rfl, by rw [hd]; exact cY (aC _ _) d⟩))
        clear hf hw hg
        refine aP rfl rfl ?_ HT.out
        go_simp
       ·have e1 : y.tmps[80]?.getD undef = .int .u32 ((bY xx 25 : Nat) : Int) := hw 13 (of_decide_eq_true (by kernel_rfl)) (by omega)
        have e2 : y.tmps[82]?.getD undef = .int .u32 ((bY xx 14 : Nat) : Int) := hw 15 (of_decide_eq_true (by kernel_rfl)) (by omega)
        have HX := Lib.hid (u32_xor_nat (bY xx 25) (bY xx 14) (cB _ 25 HXL.out (by decide)) (cB _ 14 HXL.out (by decide)))
        clear hf hw hg
        refine aA (v := gE (.slice (some ⟨g', 0, none⟩) j cap) g' j y0 y1 xx yy 16) (w' := w3) rfl rfl ?_ ⟨rfl, aC _ _⟩
        go_simp
        exact congrArg (Value.int .u32) HX.out
       ·have e0 : y.tmps[8]?.getD undef = .int .u32 (xx : Int) := by rw [hf.2.2 8 (by omega)]; rfl
        clear hf hw hg
        refine aA (v := gE (.slice (some ⟨g', 0, none⟩) j cap) g' j y0 y1 xx yy 17) (w' := w3) rfl rfl ?_ ⟨rfl, aC _ _⟩
        go_simp
        rfl
       ·have e1 : y.tmps[84]?.getD undef = .int .u32 (xx : Int) := hw 17 (of_decide_eq_true (by kernel_rfl)) (by omega)
        have HX := Lib.hid (AG xx)
        clear hf hw hg
        refine aA (v := gE (.slice (some ⟨g', 0, none⟩) j cap) g' j y0 y1 xx yy 18) (w' := w3) rfl rfl ?_ ⟨rfl, aC _ _⟩
        go_simp
        exact congrArg (Value.int .u32) HX.out
       ·have e1 : y.tmps[83]?.getD undef = .int .u32 ((bY xx 25 ^^^ bY xx 14 : Nat) : Int) := hw 16 (of_decide_eq_true (by kernel_rfl)) (by omega)
        have e2 : y.tmps[85]?.getD undef = .int .u32 ((xx >>> 3 : Nat) : Int) := hw 18 (of_decide_eq_true (by kernel_rfl)) (by omega)
        have HX := Lib.hid (u32_xor_nat (bY xx 25 ^^^ bY xx 14) (xx >>> 3) (jL (cB _ 25 HXL.out (by decide)) (cB _ 14 HXL.out (by decide))) (Ct 3 HXL.out))
        clear hf hw hg
        refine aA (v := gE (.slice (some ⟨g', 0, none⟩) j cap) g' j y0 y1 xx yy 19) (w' := w3) rfl rfl ?_ ⟨rfl, aC _ _⟩
        go_simp
        exact congrArg (Value.int .u32) HX.out
       ·have e1 : y.tmps[78]?.getD undef = .int .u32 ((bB y0 y1 : Nat) : Int) := hw 11 (of_decide_eq_true (by kernel_rfl)) (by omega)
        have e2 : y.tmps[86]?.getD undef = .int .u32 ((rU xx : Nat) : Int) := hw 19 (of_decide_eq_true (by kernel_rfl)) (by omega)
        have HX := Lib.hid (eD (bB y0 y1) (rU xx))
        clear hf hw hg
        refine aA (v := gE (.slice (some ⟨g', 0, none⟩) j cap) g' j y0 y1 xx yy 20) (w' := w3) rfl rfl ?_ ⟨rfl, aC _ _⟩
        go_simp
        exact congrArg (Value.int .u32) HX.out.symm
       ·have e0 : y.tmps[9]?.getD undef = .int .u32 (yy : Int) := by rw [hf.2.2 9 (by omega)]; rfl
        clear hf hw hg
        refine aA (v := gE (.slice (some ⟨g', 0, none⟩) j cap) g' j y0 y1 xx yy 21) (w' := w3) rfl rfl ?_ ⟨rfl, aC _ _⟩
        go_simp
        rfl
       ·have e1 : y.tmps[88]?.getD undef = .int .u32 (yy : Int) := hw 21 (of_decide_eq_true (by kernel_rfl)) (by omega)
        have HT := Lib.hid ((fV yy 15 w3 HYL.out (by omega)).mono (fun e w4 ⟨he, d, hd⟩ => show ∃ v, e = Ending.returned v /\ y.put (some (67 + 22)) v = y.put (some (67 + 22)) (gE (.slice (some ⟨g', 0, none⟩) j cap) g' j y0 y1 xx yy 22) /\ w3.grownBy w4 none from ⟨_, he, rfl, by rw [hd]; exact cY (aC _ _) d⟩))
        clear hf hw hg
        refine aP rfl rfl ?_ HT.out
        go_simp
       ·have e0 : y.tmps[9]?.getD undef = .int .u32 (yy : Int) := by rw [hf.2.2 9 (by omega)]; rfl
        clear hf hw hg
        refine aA (v := gE (.slice (some ⟨g', 0, none⟩) j cap) g' j y0 y1 xx yy 23) (w' := w3) rfl rfl ?_ ⟨rfl, aC _ _⟩
        go_simp
        rfl
       ·have e1 : y.tmps[90]?.getD undef = .int .u32 (yy : Int) := hw 23 (of_decide_eq_true (by kernel_rfl)) (by omega)
        have HT := Lib.hid ((fV yy 13 w3 HYL.out (by omega)).mono (fun e w4 ⟨he, d, hd⟩ => show ∃ v, e = Ending.returned v /\ y.put (some (67 + 24)) v = y.put (some (67 + 24)) (gE (.slice (some ⟨g', 0, none⟩) j cap) g' j y0 y1 xx yy 24) /\ w3.grownBy w4 none from ⟨_, he, rfl, by rw [hd]; exact cY (aC _ _) d⟩))
        clear hf hw hg
        refine aP rfl rfl ?_ HT.out
        go_simp
       ·have e1 : y.tmps[89]?.getD undef = .int .u32 ((bY yy 15 : Nat) : Int) := hw 22 (of_decide_eq_true (by kernel_rfl)) (by omega)
        have e2 : y.tmps[91]?.getD undef = .int .u32 ((bY yy 13 : Nat) : Int) := hw 24 (of_decide_eq_true (by kernel_rfl)) (by omega)
        have HX := Lib.hid (u32_xor_nat (bY yy 15) (bY yy 13) (cB _ 15 HYL.out (by decide)) (cB _ 13 HYL.out (by decide)))
        clear hf hw hg
        refine aA (v := gE (.slice (some ⟨g', 0, none⟩) j cap) g' j y0 y1 xx yy 25) (w' := w3) rfl rfl ?_ ⟨rfl, aC _ _⟩
        go_simp
        exact congrArg (Value.int .u32) HX.out
       ·have e0 : y.tmps[9]?.getD undef = .int .u32 (yy : Int) := by rw [hf.2.2 9 (by omega)]; rfl
        clear hf hw hg
        refine aA (v := gE (.slice (some ⟨g', 0, none⟩) j cap) g' j y0 y1 xx yy 26) (w' := w3) rfl rfl ?_ ⟨rfl, aC _ _⟩
        go_simp
        rfl
       ·have e1 : y.tmps[93]?.getD undef = .int .u32 (yy : Int) := hw 26 (of_decide_eq_true (by kernel_rfl)) (by omega)
        have HX := Lib.hid (Yl yy)
        clear hf hw hg
        refine aA (v := gE (.slice (some ⟨g', 0, none⟩) j cap) g' j y0 y1 xx yy 27) (w' := w3) rfl rfl ?_ ⟨rfl, aC _ _⟩
        go_simp
        exact congrArg (Value.int .u32) HX.out
       ·have e1 : y.tmps[92]?.getD undef = .int .u32 ((bY yy 15 ^^^ bY yy 13 : Nat) : Int) := hw 25 (of_decide_eq_true (by kernel_rfl)) (by omega)
        have e2 : y.tmps[94]?.getD undef = .int .u32 ((yy >>> 10 : Nat) : Int) := hw 27 (of_decide_eq_true (by kernel_rfl)) (by omega)
        have HX := Lib.hid (u32_xor_nat (bY yy 15 ^^^ bY yy 13) (yy >>> 10) (jL (cB _ 15 HYL.out (by decide)) (cB _ 13 HYL.out (by decide))) (Ct 10 HYL.out))
        clear hf hw hg
        refine aA (v := gE (.slice (some ⟨g', 0, none⟩) j cap) g' j y0 y1 xx yy 28) (w' := w3) rfl rfl ?_ ⟨rfl, aC _ _⟩
        go_simp
        exact congrArg (Value.int .u32) HX.out
       ·have e1 : y.tmps[87]?.getD undef = .int .u32 ((bB (bB y0 y1) (rU xx) : Nat) : Int) := hw 20 (of_decide_eq_true (by kernel_rfl)) (by omega)
        have e2 : y.tmps[95]?.getD undef = .int .u32 ((xM yy : Nat) : Int) := hw 28 (of_decide_eq_true (by kernel_rfl)) (by omega)
        have HX := Lib.hid (eD (bB (bB y0 y1) (rU xx)) (xM yy))
        clear hf hw hg
        refine aA (v := gE (.slice (some ⟨g', 0, none⟩) j cap) g' j y0 y1 xx yy 29) (w' := w3) rfl rfl ?_ ⟨rfl, aC _ _⟩
        go_simp
        exact congrArg (Value.int .u32) HX.out.symm
      case hbuild =>
       intro y w3 hw
       have e1 : y.tmps[96]?.getD undef = .int .u32 ((bB (bB (bB y0 y1) (rU xx)) (xM yy) : Nat) : Int) := hw 29 (of_decide_eq_true (by kernel_rfl)) (by omega)
       refine ⟨_, rfl, rfl, rfl, ?_⟩
       clear hw
       go_simp
      case hK =>
       intro y w4 g2 cap2 h1 h2 h3 h4 h5 h6 h7
       have HO := Lib.hid h5
       have HK4 := Lib.hid (eN.row (eN.new HK5.out (pK (aC _ _))) h6 (fun k hk => (HOWN5.out.lt k hk).1) HNE.out.1 HNE.out.2)
       have hnew : ∀ k, k < w5.heap.size -> some k ≠ (Value.slice (some ⟨g', 0, none⟩) j cap).ownBlock -> some k ≠ (Value.slice (some ⟨g2, 0, none⟩) (j + 1) cap2).ownBlock := by
        intro k hk1 hk2 e
        have e : k = g2 := by simpa [Value.ownBlock] using e
        rcases h7 with h | h
        ·exact hk2 (by rw [h, e])
        ·omega
       have HNE4 := Lib.hid (And.intro (hnew g HK5.out.1.1.lt HNE.out.1) (hnew gk HK5.out.2.1.lt HNE.out.2))
       clear h5 h6 h7 hnew
       obtain ⟨ys, hys, rfl⟩ := uC 67 32 6 _ h1 (by exact h2) (fun s e k => h3 s e (by omega)) h4 (by omega) (by show 99 <= 218; omega)
       obtain ⟨k0, k1, k2, k3, k4, k5, k6, k7, k8, k9, k10, k11, k12, k13, k14, k15, k16, k17, k18, k19, k20, k21, k22, k23, k24, k25, k26, k27, k28, k29, k30, k31, rfl⟩ := Za ys hys
       clear h1 h2 h3 h4 hys
       simp only [List.take_succ_cons, List.take_zero, List.drop_succ_cons, List.drop_zero, List.cons_append, List.nil_append, List.set_cons_zero, List.set_cons_succ]
       go_wp2_with fail
       refine ⟨?_, ?measure⟩
       ·exact ⟨j + 1, by omega, by go_num, by rw [HE.out]; exact HO.out, HNE4.out.1, HNE4.out.2, HK4.out⟩
       case measure => simp [intOf] <;> omega
    ·obtain rfl : j = 64 := by omega
     obtain ⟨L, hL⟩ : ∃ L, L = bT (bN M.data.toList q) 64 := ⟨_, rfl⟩
     have HLen : Hid (L.length = 64) := Lib.hid (by rw [hL]; exact cD _ 64)
     obtain ⟨x0, hx0⟩ : ∃ x0, x0 = hU M.data.toList q := ⟨_, rfl⟩
     have HNX : Hid (hU M.data.toList (q + 1) = x0.plus (iN L 64 x0)) := Lib.hid (by rw [hL, hx0]; rfl)
     have HOK : Hid x0.ok := Lib.hid (by rw [hx0]; exact Ew _ _)
     rw [<- hx0] at HH
     rw [<- hL] at HOWN
     clear hx0 hL
     obtain ⟨g', cap, hu6, hg0, hg1⟩ := HOWN.out.form (by omega)
     have hu6 : u6 = .slice (some ⟨g', 0, none⟩) 64 cap := hu6
     subst hu6
     have HG1 := Lib.hid hg1
     clear hg1
     go_wp2_with (at_builtin; refine wpList_append_lies _ rfl (.const (.slice none 0 0)) (.tmp 99) 133 rfl w.heap.size 132 i0 (.int .u32 0) 1 4 Tryz.underlying133 hi hz0 hz1 hz2 rfl (by omega) (.slice none 0 0) 0 [] rfl (World.ownsRow_nil _ _ _ _) ⟨g, 0, none⟩ 8 8 (aF x0.words) rfl rfl ?c1 ?c2 (by omega) (by unfold maxLen; omega) (by omega) HK2.out.1.2.2.size _ rfl ?_)
     case c1 =>
      intro a u ha
      rw [fY, HK2.out.1.1.cell, HH.out, Nat.zero_add]
      unfold aM
      rw [List.getElem?_toArray]
      exact ha
     case c2 =>
      intro u hu
      obtain ⟨x, _, rfl⟩ := List.mem_map.1 hu
      rfl
     intro gv cv w4 hown1 hgr1 hor hlt1
     have hcv : ∀ k, k < 8 -> w4.cell? ⟨gv, k, none⟩ = some (.int .u32 ((x0.words.getD k 0 : Nat) : Int)) := fun k hk => by
      have := hown1.cells (g := gv) rfl k (.int .u32 ((x0.words.getD k 0 : Nat) : Int)) (by have h := Cr x0 hk; unfold aM at h; rw [List.getElem?_toArray] at h; simpa using h)
      rw [fY, Nat.zero_add] at this
      exact this
     have HCV := Lib.hid hcv
     have HLV := Lib.hid hlt1
     have HGV : Hid (gv ≠ g) := Lib.hid (by
      have := HK2.out.1.1.lt
      rcases hor with h | h
      ·simp [Value.ownBlock] at h
      ·omega)
     have HK4 := Lib.hid (eN.new HK2.out hgr1)
     have HOW4 := Lib.hid (xB HOWN.out hgr1)
     clear hown1 hgr1 hor hlt1 hcv HK2 HOWN HG1
     go_wp2_with fail
     go_loopw [10, 11] (fun v i w3 => ∃ (t : Nat) (x : S8) (gw cw : Nat), t <= 64 /\ i = .int .i64 (t : Int) /\ x = iN L t x0 /\ v = .slice (some ⟨gw, 0, none⟩) 8 cw /\ (∀ k, k < 8 -> w3.cell? ⟨gw, k, none⟩ = some (.int .u32 ((x.words.getD k 0 : Nat) : Int))) /\ gw < w3.heap.size /\ gw ≠ g /\ eN w w3 g gk H /\ w3.ownsRow w.heap.size 132 1 (.slice (some ⟨g', 0, none⟩) 64 cap) 64 (aF L)) (fun _ i _ => 64 - (intOf i).toNat)
     case atStart => exact ⟨0, x0, gv, _, by omega, rfl, rfl, rfl, HCV.out, HLV.out, HGV.out, HK4.out, HOW4.out⟩
     case round =>
      clear HCV HLV HK4 HOW4 HGV
      obtain ⟨t, x, gw, cw, ht, rfl, hx, rfl, hcv, hlv, hgw, hk3, hown3⟩ := hrel
      have HGW := Lib.hid hgw
      clear hgw
      have HK3 := Lib.hid hk3
      have HOW3 := Lib.hid hown3
      have HLV := Lib.hid hlv
      have hok : x.ok := by rw [hx]; exact Bb L t HOK.out
      clear hk3 hown3 hlv
      by_cases ht64 : t < 64
      ·have HN : Hid (iN L (t + 1) x0 = Et (oI.getD t 0) (L.getD t 0) x) := Lib.hid (by rw [hx]; rfl)
       clear hx
       have hcw : wr.cell? ⟨g', t, none⟩ = some (.int .u32 ((L.getD t 0 : Nat) : Int)) := by
        have := HOW3.out.cells (g := g') rfl t (.int .u32 ((L.getD t 0 : Nat) : Int)) (by have h := iM (l := L) (i := t) (by rw [HLen.out]; exact ht64); simpa using h)
        rw [fY, Nat.zero_add] at this
        exact this
       have hck : wr.cell? ⟨gk, t, none⟩ = some (.int .u32 ((oI.getD t 0 : Nat) : Int)) := by rw [HK3.out.2.1.cell]; exact rT ht64
       have htI : (t : Int) < 64 := by omega
       obtain ⟨yw, hyw⟩ : ∃ y, y = L.getD t 0 := ⟨_, rfl⟩
       obtain ⟨yk, hyk⟩ : ∃ y, y = oI.getD t 0 := ⟨_, rfl⟩
       rw [<- hyw] at hcw HN
       rw [<- hyk] at hck HN
       clear hyw hyk
       obtain ⟨xa, xb, xc, xd, xe, xf, xg, xh⟩ := x
       have c0 : wr.cell? ⟨gw, 0, none⟩ = some (.int .u32 (xa : Int)) := hcv 0 (by omega)
       have c1 : wr.cell? ⟨gw, 1, none⟩ = some (.int .u32 (xb : Int)) := hcv 1 (by omega)
       have c2 : wr.cell? ⟨gw, 2, none⟩ = some (.int .u32 (xc : Int)) := hcv 2 (by omega)
       have c3 : wr.cell? ⟨gw, 3, none⟩ = some (.int .u32 (xd : Int)) := hcv 3 (by omega)
       have c4 : wr.cell? ⟨gw, 4, none⟩ = some (.int .u32 (xe : Int)) := hcv 4 (by omega)
       have c5 : wr.cell? ⟨gw, 5, none⟩ = some (.int .u32 (xf : Int)) := hcv 5 (by omega)
       have c6 : wr.cell? ⟨gw, 6, none⟩ = some (.int .u32 (xg : Int)) := hcv 6 (by omega)
       have c7 : wr.cell? ⟨gw, 7, none⟩ = some (.int .u32 (xh : Int)) := hcv 7 (by omega)
       clear hcv
       have HOKx := Lib.hid hok
       obtain ⟨⟨ha, hb, hc, hd⟩, ⟨he, hf, hg, hh⟩⟩ := hok
       simp only at ha hb hc hd he hf hg hh
       obtain ⟨r26, hr26⟩ : ∃ r, r = bY xe 26 := ⟨_, rfl⟩
       have H26 : Hid (∀ w, Calls Tryz.prog 73 #[.int .u32 (xe : Int), .int .i64 26] w fun e w' => e = .returned (.int .u32 (r26 : Int)) /\ ∃ d, w' = w.drewN d) := Lib.hid (fun w => by rw [hr26]; exact fV xe 26 w he (by omega))
       obtain ⟨r21, hr21⟩ : ∃ r, r = bY xe 21 := ⟨_, rfl⟩
       have H21 : Hid (∀ w, Calls Tryz.prog 73 #[.int .u32 (xe : Int), .int .i64 21] w fun e w' => e = .returned (.int .u32 (r21 : Int)) /\ ∃ d, w' = w.drewN d) := Lib.hid (fun w => by rw [hr21]; exact fV xe 21 w he (by omega))
       obtain ⟨r7, hr7⟩ : ∃ r, r = bY xe 7 := ⟨_, rfl⟩
       have H7 : Hid (∀ w, Calls Tryz.prog 73 #[.int .u32 (xe : Int), .int .i64 7] w fun e w' => e = .returned (.int .u32 (r7 : Int)) /\ ∃ d, w' = w.drewN d) := Lib.hid (fun w => by rw [hr7]; exact fV xe 7 w he (by omega))
       obtain ⟨r30, hr30⟩ : ∃ r, r = bY xa 30 := ⟨_, rfl⟩
       have H30 : Hid (∀ w, Calls Tryz.prog 73 #[.int .u32 (xa : Int), .int .i64 30] w fun e w' => e = .returned (.int .u32 (r30 : Int)) /\ ∃ d, w' = w.drewN d) := Lib.hid (fun w => by rw [hr30]; exact fV xa 30 w ha (by omega))
       obtain ⟨r19, hr19⟩ : ∃ r, r = bY xa 19 := ⟨_, rfl⟩
       have H19 : Hid (∀ w, Calls Tryz.prog 73 #[.int .u32 (xa : Int), .int .i64 19] w fun e w' => e = .returned (.int .u32 (r19 : Int)) /\ ∃ d, w' = w.drewN d) := Lib.hid (fun w => by rw [hr19]; exact fV xa 19 w ha (by omega))
       obtain ⟨r10, hr10⟩ : ∃ r, r = bY xa 10 := ⟨_, rfl⟩
       have H10 : Hid (∀ w, Calls Tryz.prog 73 #[.int .u32 (xa : Int), .int .i64 10] w fun e w' => e = .returned (.int .u32 (r10 : Int)) /\ ∃ d, w' = w.drewN d) := Lib.hid (fun w => by rw [hr10]; exact fV xa 10 w ha (by omega))
       have HRS := Lib.hid (And.intro hr26 (And.intro hr21 (And.intro hr7 (And.intro hr30 (And.intro hr19 hr10)))))
       have HRL := Lib.hid (And.intro (hr26 ▸ cB xe 26 he (by decide) : r26 < 4294967296) (And.intro (hr21 ▸ cB xe 21 he (by decide) : r21 < 4294967296) (And.intro (hr7 ▸ cB xe 7 he (by decide) : r7 < 4294967296) (And.intro (hr30 ▸ cB xa 30 ha (by decide) : r30 < 4294967296) (And.intro (hr19 ▸ cB xa 19 ha (by decide) : r19 < 4294967296) (hr10 ▸ cB xa 10 ha (by decide) : r10 < 4294967296))))))
       clear hr26 hr21 hr7 hr30 hr19 hr10
       clear ha hb hc hd he hf hg hh
       go_wp2_with fail
       go_quiet (fail)
       go_upto_region 20 with fail
       generalize hw5 : wr.drewN _ = w5
       have d7 : w5.cell? ⟨gw, 7, none⟩ = some (.int .u32 (xh : Int)) := by rw [<- hw5]; exact c7
       have d3 : w5.cell? ⟨gw, 3, none⟩ = some (.int .u32 (xd : Int)) := by rw [<- hw5]; exact c3
       have dw : w5.cell? ⟨g', t, none⟩ = some (.int .u32 (yw : Int)) := by rw [<- hw5]; exact hcw
       have dk : w5.cell? ⟨gk, t, none⟩ = some (.int .u32 (yk : Int)) := by rw [<- hw5]; exact hck
       have HK5 : Hid (eN w w5 g gk H) := Lib.hid (by rw [<- hw5]; exact HK3.out.new (cY (aC _ _) _))
       have HOW5 : Hid (w5.ownsRow w.heap.size 132 1 (.slice (some ⟨g', 0, none⟩) 64 cap) 64 (aF L)) := Lib.hid (by rw [<- hw5]; exact HOW3.out)
       clear c0 c1 c2 c3 c4 c5 c6 c7 hcw hck hw5 HK3 HOW3 HLV
       go_quiet (first | (go_at_call 73; with_reducible refine Calls.quiet_of (H26.out _)) | (go_at_call 73; with_reducible refine Calls.quiet_of (H21.out _)) | (go_at_call 73; with_reducible refine Calls.quiet_of (H7.out _)))
       go_upto_region 21 with fail
       have hif : (if IntKind.u32.signed = true then (-1 : Int) else IntKind.u32.max) = IntKind.u32.max := rfl
       rw [hif]
       clear hif
       have hok := HOKx.out
       obtain ⟨⟨ha, hb, hc, hd⟩, ⟨he, hf, hg, hh⟩⟩ := hok
       simp only at ha hb hc hd he hf hg hh
       have hs1 : bits .xor .u32 (bits .xor .u32 (r26 : Int) (r21 : Int)) (r7 : Int) = ((zS xe : Nat) : Int) := by
        rw [u32_xor_nat r26 r21 HRL.out.1 HRL.out.2.1, u32_xor_nat _ r7 (jL HRL.out.1 HRL.out.2.1) HRL.out.2.2.1, HRS.out.1, HRS.out.2.1, HRS.out.2.2.1]
        rfl
       have hch : bits .xor .u32 (bits .and .u32 (xe : Int) (xf : Int)) (bits .and .u32 (bits .xor .u32 IntKind.u32.max (xe : Int)) (xg : Int)) = ((Wk xe xf xg : Nat) : Int) := by
        rw [u32_and_nat xe xf he hf, rM xe he, u32_and_nat _ xg (jL (by decide) he) hg, u32_xor_nat _ _ (iA _ hf) (iA _ hg)]
        rfl
       have hs0 : bits .xor .u32 (bits .xor .u32 (r30 : Int) (r19 : Int)) (r10 : Int) = ((Cs xa : Nat) : Int) := by
        rw [u32_xor_nat r30 r19 HRL.out.2.2.2.1 HRL.out.2.2.2.2.1, u32_xor_nat _ r10 (jL HRL.out.2.2.2.1 HRL.out.2.2.2.2.1) HRL.out.2.2.2.2.2, HRS.out.2.2.2.1, HRS.out.2.2.2.2.1, HRS.out.2.2.2.2.2]
        rfl
       have hmj : bits .xor .u32 (bits .xor .u32 (bits .and .u32 (xa : Int) (xb : Int)) (bits .and .u32 (xa : Int) (xc : Int))) (bits .and .u32 (xb : Int) (xc : Int)) = ((Ib xa xb xc : Nat) : Int) := by
        rw [u32_and_nat xa xb ha hb, u32_and_nat xa xc ha hc, u32_and_nat xb xc hb hc, u32_xor_nat _ _ (iA _ hb) (iA _ hc), u32_xor_nat _ _ (jL (iA _ hb) (iA _ hc)) (iA _ hc)]
        rfl
       obtain ⟨tx, htx⟩ : ∃ tx, tx = Mz yk yw ⟨xa, xb, xc, xd, xe, xf, xg, xh⟩ := ⟨_, rfl⟩
       obtain ⟨ty, hty⟩ : ∃ ty, ty = Na ⟨xa, xb, xc, xd, xe, xf, xg, xh⟩ := ⟨_, rfl⟩
       have hex : (((xh : Int) + ((zS xe : Nat) : Int) + ((Wk xe xf xg : Nat) : Int) + (yk : Int)) % 4294967296 + (yw : Int)) % 4294967296 = (tx : Int) := by
        rw [htx]
        unfold Mz
        simp only [eD]
        omega
       have hey : (((Cs xa : Nat) : Int) + ((Ib xa xb xc : Nat) : Int)) % 4294967296 = (ty : Int) := by
        rw [hty]
        unfold Na
        simp only [eD]
       rw [hs1, hch, hex]
       have HS0 := Lib.hid hs0
       have HMJ := Lib.hid hmj
       have HEY := Lib.hid hey
       have HTX := Lib.hid htx
       have HTY := Lib.hid hty
       clear hs1 hch hex hs0 hmj hey htx hty ha hb hc hd he hf hg hh HRL HRS
       go_wp2_with (first | (go_at_call 73; with_reducible refine (H30.out _).mono ?_; rintro e4 w6 ⟨rfl, d4, rfl⟩) | (go_at_call 73; with_reducible refine (H19.out _).mono ?_; rintro e4 w6 ⟨rfl, d4, rfl⟩) | (go_at_call 73; with_reducible refine (H10.out _).mono ?_; rintro e4 w6 ⟨rfl, d4, rfl⟩))
       refine ⟨?_, ?measure⟩
       ·have he1 : ((tx : Int) + (((Cs xa : Nat) : Int) + ((Ib xa xb xc : Nat) : Int))) % 4294967296 = ((bB tx ty : Nat) : Int) := by rw [eD, <- HEY.out]; omega
        have he2 : ((xd : Int) + (tx : Int)) % 4294967296 = ((bB xd tx : Nat) : Int) := (eD xd tx).symm
        rw [HS0.out, HMJ.out, he1, he2]
        generalize hw7 : w5.drewN _ = w7
        have hs7 : w7.heap.size = w5.heap.size := by rw [<- hw7]; rfl
        have hk7 : eN w w7 g gk H := by rw [<- hw7]; exact HK5.out.new (cY (aC _ _) _)
        have ho7 : w7.ownsRow w.heap.size 132 1 (.slice (some ⟨g', 0, none⟩) 64 cap) 64 (aF L) := by rw [<- hw7]; exact HOW5.out
        have hw8 : (iN L (t + 1) x0).words = [bB tx ty, xa, xb, xc, bB xd tx, xe, xf, xg] := by rw [HN.out, HTX.out, HTY.out]; rfl
        refine ⟨t + 1, iN L (t + 1) x0, w5.heap.size, 8, by omega, by go_num, rfl, rfl, fun k hk => ?_, by simp; omega, by have := HK5.out.1.1.lt; omega, hk7.new (bH (aC _ _) _), xB ho7 (bH (aC _ _) _)⟩
        rw [<- hs7, (aG.new w7 132 _).cell k, hw8]
        match k, hk with
        | 0, _ => rfl
        | 1, _ => rfl
        | 2, _ => rfl
        | 3, _ => rfl
        | 4, _ => rfl
        | 5, _ => rfl
        | 6, _ => rfl
        | 7, _ => rfl
       case measure => simp [intOf] <;> omega
      ·obtain rfl : t = 64 := by omega
       have HXX := Lib.hid hx
       have HCV := Lib.hid hcv
       have HKU := Lib.hid (show eN w wr g gk (gZ x0 x 0) by rw [rR, <- HH.out]; exact HK3.out)
       clear hx hok hcv HK3
       go_wp2_with fail
       go_loopw [20] (fun i w4 => ∃ k : Nat, k <= 8 /\ i = .int .i64 (k : Int) /\ eN w w4 g gk (gZ x0 x k) /\ (∀ k, k < 8 -> w4.cell? ⟨gw, k, none⟩ = some (.int .u32 ((x.words.getD k 0 : Nat) : Int)))) (fun i _ => 8 - (intOf i).toNat)
       case atStart => exact ⟨0, by omega, rfl, HKU.out, HCV.out⟩
       case round =>
        clear HKU HCV HOW3 HLV
        obtain ⟨k, hk, rfl, hku, hcv⟩ := hrel
        have HKU := Lib.hid hku
        clear hku
        by_cases hk8 : k < 8
        ·have r1 : wr.cell? ⟨g, k, none⟩ = some (.int .u32 ((x0.words.getD k 0 : Nat) : Int)) := by rw [HKU.out.1.1.cell]; exact uI x0 x hk8
         have r2 := hcv k hk8
         have fz := HKU.out.1.1.frozen k
         have hkI : (k : Int) < 8 := by omega
         have HCV := Lib.hid hcv
         have HUS := Lib.hid (uJ x0 x hk8)
         clear hcv
         obtain ⟨y0, hy0⟩ : ∃ y, y = x0.words.getD k 0 := ⟨_, rfl⟩
         obtain ⟨y1, hy1⟩ : ∃ y, y = x.words.getD k 0 := ⟨_, rfl⟩
         rw [<- hy0] at r1 HUS
         rw [<- hy1] at r2 HUS
         clear hy0 hy1
         go_wp2_with fail
         go_still_tail 12, (by kernel_rfl)
         change wpList _ _ _ _ _ wr.drew
         go_wp2_with fail
         clear r1 r2 fz
         refine ⟨?_, ?measure⟩
         ·have he : ((y0 : Int) + (y1 : Int)) % 4294967296 = ((bB y0 y1 : Nat) : Int) := (eD y0 y1).symm
          have hkp : eN w (wr.drew.setCell ⟨g, k, none⟩ (.int .u32 ((bB y0 y1 : Nat) : Int))) g gk (gZ x0 x (k + 1)) := by
           rw [<- HUS.out]
           exact eN.put (HKU.out.new (pK (aC _ _))) k _
          have hcc : ∀ i, i < 8 -> (wr.drew.setCell ⟨g, k, none⟩ (.int .u32 ((bB y0 y1 : Nat) : Int))).cell? ⟨gw, i, none⟩ = some (.int .u32 ((x.words.getD i 0 : Nat) : Int)) := fun i hi => by
           rw [<- HCV.out i hi]
           exact Rw wr.drew HGW.out i k _
          rw [he]
          repeat (apply Exists.intro)
          refine ⟨?_, rfl⟩
          exact ⟨k + 1, by omega, by go_num, hkp, hcc⟩
         case measure => simp [intOf] <;> omega
        ·obtain rfl : k = 8 := by omega
         rw [uH, HXX.out, <- HNX.out] at HKU
         go_wp2_with fail
         refine ⟨?_, ?measure⟩
         ·refine ⟨q + 1, by omega, ⟨A + 64, by have := HA.out; omega, by go_num⟩, HKU.out⟩
         case measure => have := HA.out; simp [intOf] <;> omega
  ·obtain rfl : q = Q := by omega
   have hAMI : ¬ (A : Int) < (M.size : Int) := by have := HMQ.out; omega
   obtain ⟨st, hst⟩ : ∃ st, st = hU M.data.toList q := ⟨_, rfl⟩
   rw [<- hst] at HK
   have HST := Lib.hid hst
   have hok : st.ok := by rw [hst]; exact Ew _ _
   have HOK := Lib.hid hok
   clear hst hA hok
   go_wp2_with fail
   go_loopw [21, 22] (fun o i w2 => ∃ j : Nat, j <= 8 /\ i = .int .i64 (j : Int) /\ o = .string ⟨((st.words.take j).flatMap fun x => aX x 4).toArray⟩ /\ eN w w2 g gk (aM st)) (fun _ i _ => 8 - (intOf i).toNat)
   case atStart => exact ⟨0, by omega, rfl, rfl, HK.out⟩
   case round =>
    obtain ⟨j, hj, rfl, rfl, hk2⟩ := hrel
    have HK2 := Lib.hid hk2
    clear hk2
    by_cases hj8 : j < 8
    ·obtain ⟨y, hy⟩ : ∃ y, y = st.words.getD j 0 := ⟨_, rfl⟩
     have hyl : y < 4294967296 := by rw [hy]; exact My HOK.out hj8
     have hcj : wr.cell? ⟨g, j, none⟩ = some (.int .u32 (y : Int)) := by rw [HK2.out.1.1.cell, hy]; exact Cr st hj8
     have hw5 : st.words[j]? = some y := by rw [hy]; exact uK st hj8
     have HT : Hid ((st.words.take (j + 1)).flatMap (fun x => aX x 4) = (st.words.take j).flatMap (fun x => aX x 4) ++ aX y 4) := Lib.hid (by rw [List.take_add_one, hw5]; simp)
     have hll := rS st hj8
     obtain ⟨l, hl⟩ : ∃ l, l = (st.words.take j).flatMap fun x => aX x 4 := ⟨_, rfl⟩
     rw [<- hl] at HT hll
     rw [<- hl]
     obtain ⟨O, hO⟩ : ∃ O : ByteArray, O = ⟨l.toArray⟩ := ⟨_, rfl⟩
     obtain ⟨Y, hY⟩ : ∃ Y : ByteArray, Y = ⟨(aX y 4).toArray⟩ := ⟨_, rfl⟩
     have hOs : O.size = 4 * j := by rw [hO]; show l.toArray.size = _; simpa using hll
     have hYs : Y.size = 4 := by rw [hY]; show (aX y 4).toArray.size = 4; simp [cF]
     have HOY : Hid (O ++ Y = ⟨(l ++ aX y 4).toArray⟩) := Lib.hid (by rw [hO, hY]; apply ByteArray.ext; rw [ByteArray.data_append]; simp)
     have HHi : Hid (∀ w3, Calls Tryz.prog 74 #[.int .u64 (y : Int), .int .i64 4] w3 fun e w' => e = .returned (.string Y) /\ Below w3.heap.size w3 w') := Lib.hid (fun w3 => by rw [hY]; exact wT y 4 w3 (by omega) (by omega) (by omega))
     have hsum : O.size + Y.size <= 9223372036854775807 := by omega
     rw [<- hO]
     have hjI : (j : Int) < 8 := by omega
     clear hy hw5 hl hO hY hOs hYs hll
     go_wp2_with (go_at_call 74; refine (HHi.out _).mono ?_; rintro e3 w3 ⟨rfl, hb3⟩)
     go_wp2_with fail
     go_roundw
     case rel => exact ⟨j + 1, by omega, by go_num, by rw [HT.out, HOY.out], HK2.out.new (cT hb3 (Nat.le_refl _))⟩
     case measure => simp [intOf] <;> omega
    ·obtain rfl : j = 8 := by omega
     go_wp2_with fail
     go_ret
     refine ⟨?_, HK2.out.1.2.2⟩
     have e : (st.words.take 8).flatMap (fun x => aX x 4) = zT s.data.toList := by
      rw [show st.words.take 8 = st.words from rfl, HST.out]
      unfold zT
      rw [<- Lib.size_eq, <- HMD.out, <- Lib.size_eq, HQ.out]
      rfl
     exact congrArg (fun l : List UInt8 => Ending.returned (.string ⟨l.toArray⟩)) e
set_option maxHeartbeats 1000000
theorem fB (x k : Nat) (m : Int) (w : World) (hx : x < 4294967296) (h : m = -2 /\ k = 30 \/ m = -6 /\ k = 26 \/ m = -7 /\ k = 25 \/ m = -11 /\ k = 21 \/ m = -13 /\ k = 19 \/ m = -17 /\ k = 15 \/ m = -18 /\ k = 14 \/ m = -19 /\ k = 13 \/ m = -22 /\ k = 10 \/ m = -25 /\ k = 7) :
  Calls Tryz.prog 207 #[.int .u32 x, .int .i64 m] w fun e w' => e = .returned (.int .u32 (bY x k)) /\ w' = w := by
 rcases h with ⟨rfl, rfl⟩ | ⟨rfl, rfl⟩ | ⟨rfl, rfl⟩ | ⟨rfl, rfl⟩ | ⟨rfl, rfl⟩ | ⟨rfl, rfl⟩ | ⟨rfl, rfl⟩ | ⟨rfl, rfl⟩ | ⟨rfl, rfl⟩ | ⟨rfl, rfl⟩
 ·have hb : bits .and .u64 (IntKind.u64.wrap (-2)) 31 = 30 := by decide +kernel
  go_enter Tryz.func207, Tryz.ntmps207
  go_wp2
  go_ret
  exact ⟨bG (bK x 30 1073741824 4 1073741824 4 rfl rfl hx rfl rfl), rfl⟩
 ·have hb : bits .and .u64 (IntKind.u64.wrap (-6)) 31 = 26 := by decide +kernel
  go_enter Tryz.func207, Tryz.ntmps207
  go_wp2
  go_ret
  exact ⟨bG (bK x 26 67108864 64 67108864 64 rfl rfl hx rfl rfl), rfl⟩
 ·have hb : bits .and .u64 (IntKind.u64.wrap (-7)) 31 = 25 := by decide +kernel
  go_enter Tryz.func207, Tryz.ntmps207
  go_wp2
  go_ret
  exact ⟨bG (bK x 25 33554432 128 33554432 128 rfl rfl hx rfl rfl), rfl⟩
 ·have hb : bits .and .u64 (IntKind.u64.wrap (-11)) 31 = 21 := by decide +kernel
  go_enter Tryz.func207, Tryz.ntmps207
  go_wp2
  go_ret
  exact ⟨bG (bK x 21 2097152 2048 2097152 2048 rfl rfl hx rfl rfl), rfl⟩
 ·have hb : bits .and .u64 (IntKind.u64.wrap (-13)) 31 = 19 := by decide +kernel
  go_enter Tryz.func207, Tryz.ntmps207
  go_wp2
  go_ret
  exact ⟨bG (bK x 19 524288 8192 524288 8192 rfl rfl hx rfl rfl), rfl⟩
 ·have hb : bits .and .u64 (IntKind.u64.wrap (-17)) 31 = 15 := by decide +kernel
  go_enter Tryz.func207, Tryz.ntmps207
  go_wp2
  go_ret
  exact ⟨bG (bK x 15 32768 131072 32768 131072 rfl rfl hx rfl rfl), rfl⟩
 ·have hb : bits .and .u64 (IntKind.u64.wrap (-18)) 31 = 14 := by decide +kernel
  go_enter Tryz.func207, Tryz.ntmps207
  go_wp2
  go_ret
  exact ⟨bG (bK x 14 16384 262144 16384 262144 rfl rfl hx rfl rfl), rfl⟩
 ·have hb : bits .and .u64 (IntKind.u64.wrap (-19)) 31 = 13 := by decide +kernel
  go_enter Tryz.func207, Tryz.ntmps207
  go_wp2
  go_ret
  exact ⟨bG (bK x 13 8192 524288 8192 524288 rfl rfl hx rfl rfl), rfl⟩
 ·have hb : bits .and .u64 (IntKind.u64.wrap (-22)) 31 = 10 := by decide +kernel
  go_enter Tryz.func207, Tryz.ntmps207
  go_wp2
  go_ret
  exact ⟨bG (bK x 10 1024 4194304 1024 4194304 rfl rfl hx rfl rfl), rfl⟩
 ·have hb : bits .and .u64 (IntKind.u64.wrap (-25)) 31 = 7 := by decide +kernel
  go_enter Tryz.func207, Tryz.ntmps207
  go_wp2
  go_ret
  exact ⟨bG (bK x 7 128 33554432 128 33554432 rfl rfl hx rfl rfl), rfl⟩
theorem Zd (e : Nat) (w : World) (h : e < 4294967296) :
  Calls Tryz.prog 208 #[.int .u32 e, .int .i64 6, .int .i64 11, .int .i64 25] w fun r w' => r = .returned (.int .u32 (zS e)) /\ w' = w := by
 obtain ⟨r0, hr0⟩ : ∃ r, r = bY e 26 := ⟨_, rfl⟩
 obtain ⟨r1, hr1⟩ : ∃ r, r = bY e 21 := ⟨_, rfl⟩
 obtain ⟨r2, hr2⟩ : ∃ r, r = bY e 7 := ⟨_, rfl⟩
 have H0 : Hid (∀ w, Calls Tryz.prog 207 #[.int .u32 e, .int .i64 (-6)] w fun e w' => e = .returned (.int .u32 r0) /\ w' = w) := Lib.hid (fun w => by rw [hr0]; exact fB e 26 (-6) w h (by omega))
 have H1 : Hid (∀ w, Calls Tryz.prog 207 #[.int .u32 e, .int .i64 (-11)] w fun e w' => e = .returned (.int .u32 r1) /\ w' = w) := Lib.hid (fun w => by rw [hr1]; exact fB e 21 (-11) w h (by omega))
 have H2 : Hid (∀ w, Calls Tryz.prog 207 #[.int .u32 e, .int .i64 (-25)] w fun e w' => e = .returned (.int .u32 r2) /\ w' = w) := Lib.hid (fun w => by rw [hr2]; exact fB e 7 (-25) w h (by omega))
 have HX : Hid (bits .xor .u32 (bits .xor .u32 (r0 : Int) (r1 : Int)) (r2 : Int) = ((zS e : Nat) : Int)) := Lib.hid (by
  have l0 : r0 < 4294967296 := hr0 ▸ cB e 26 h (by decide)
  have l1 : r1 < 4294967296 := hr1 ▸ cB e 21 h (by decide)
  have l2 : r2 < 4294967296 := hr2 ▸ cB e 7 h (by decide)
  rw [u32_xor_nat r0 r1 l0 l1, u32_xor_nat _ r2 (jL l0 l1) l2, hr0, hr1, hr2]
  rfl)
 clear hr0 hr1 hr2
 go_enter Tryz.func208, Tryz.ntmps208
 go_wp2_with (first | (go_at_call 207; with_reducible refine (H0.out _).mono ?_; rintro e w1 ⟨rfl, rfl⟩) | (go_at_call 207; with_reducible refine (H1.out _).mono ?_; rintro e w1 ⟨rfl, rfl⟩) | (go_at_call 207; with_reducible refine (H2.out _).mono ?_; rintro e w1 ⟨rfl, rfl⟩))
 go_ret
 exact ⟨bG HX.out, rfl⟩
theorem Ze (e : Nat) (w : World) (h : e < 4294967296) :
  Calls Tryz.prog 208 #[.int .u32 e, .int .i64 2, .int .i64 13, .int .i64 22] w fun r w' => r = .returned (.int .u32 (Cs e)) /\ w' = w := by
 obtain ⟨r0, hr0⟩ : ∃ r, r = bY e 30 := ⟨_, rfl⟩
 obtain ⟨r1, hr1⟩ : ∃ r, r = bY e 19 := ⟨_, rfl⟩
 obtain ⟨r2, hr2⟩ : ∃ r, r = bY e 10 := ⟨_, rfl⟩
 have H0 : Hid (∀ w, Calls Tryz.prog 207 #[.int .u32 e, .int .i64 (-2)] w fun e w' => e = .returned (.int .u32 r0) /\ w' = w) := Lib.hid (fun w => by rw [hr0]; exact fB e 30 (-2) w h (by omega))
 have H1 : Hid (∀ w, Calls Tryz.prog 207 #[.int .u32 e, .int .i64 (-13)] w fun e w' => e = .returned (.int .u32 r1) /\ w' = w) := Lib.hid (fun w => by rw [hr1]; exact fB e 19 (-13) w h (by omega))
 have H2 : Hid (∀ w, Calls Tryz.prog 207 #[.int .u32 e, .int .i64 (-22)] w fun e w' => e = .returned (.int .u32 r2) /\ w' = w) := Lib.hid (fun w => by rw [hr2]; exact fB e 10 (-22) w h (by omega))
 have HX : Hid (bits .xor .u32 (bits .xor .u32 (r0 : Int) (r1 : Int)) (r2 : Int) = ((Cs e : Nat) : Int)) := Lib.hid (by
  have l0 : r0 < 4294967296 := hr0 ▸ cB e 30 h (by decide)
  have l1 : r1 < 4294967296 := hr1 ▸ cB e 19 h (by decide)
  have l2 : r2 < 4294967296 := hr2 ▸ cB e 10 h (by decide)
  rw [u32_xor_nat r0 r1 l0 l1, u32_xor_nat _ r2 (jL l0 l1) l2, hr0, hr1, hr2]
  rfl)
 clear hr0 hr1 hr2
 go_enter Tryz.func208, Tryz.ntmps208
 go_wp2_with (first | (go_at_call 207; with_reducible refine (H0.out _).mono ?_; rintro e w1 ⟨rfl, rfl⟩) | (go_at_call 207; with_reducible refine (H1.out _).mono ?_; rintro e w1 ⟨rfl, rfl⟩) | (go_at_call 207; with_reducible refine (H2.out _).mono ?_; rintro e w1 ⟨rfl, rfl⟩))
 go_ret
 exact ⟨bG HX.out, rfl⟩
set_option maxRecDepth 100000
set_option maxHeartbeats 4000000
def uG (n : Nat) (s : S8) : Nat := bB (bB (bB s.h (zS s.e)) (Wk s.e s.f s.g)) n
def Ba (n : Nat) (s : S8) : S8 := ⟨bB (uG n s) (Na s), s.a, s.b, s.c, bB s.d (uG n s), s.e, s.f, s.g⟩
theorem Hz (k x : Nat) (s : S8) : Ba (bB k x) s = Et k x s := by
 have e : uG (bB k x) s = Mz k x s := by unfold uG Mz bB; omega
 unfold Ba Et
 rw [e]
theorem Ll (w : World) (A B : Array Value) (t1 t2 : TypeId) : ∃ W, W = (w.alloc (.cells A t1)).alloc (.cells B t2) /\ aG W w.heap.size t1 A /\ aG W (w.heap.size + 1) t2 B /\ Below w.heap.size w W /\ W.heap.size = w.heap.size + 2 := by
 refine ⟨_, rfl, (aG.new w t1 A).alloc _, ?_, ((Below.refl _ _).alloc (Nat.le_refl _) _).alloc (by simp) _, by simp⟩
 have := aG.new (w.alloc (.cells A t1)) t2 B
 simpa using this
theorem Cq (a b c d e f g h n s1 s0 F : Nat) (hs1 : s1 = zS e) (hs0 : s0 = Cs a) (hF : F = Wk e f g) :
  #[Value.int .u32 (((h : Int) + (s1 : Int) + (F : Int) + (n : Int) + ((s0 : Int) + ((Ib a b c : Nat) : Int))) % 4294967296), .int .u32 (a : Int), .int .u32 (b : Int), .int .u32 (c : Int), .int .u32 (((d : Int) + ((h : Int) + (s1 : Int) + (F : Int) + (n : Int))) % 4294967296), .int .u32 (e : Int), .int .u32 (f : Int), .int .u32 (g : Int)] = aM (Ba n ⟨a, b, c, d, e, f, g, h⟩) := by
 subst hs1 hs0 hF
 have e1 : ((bB (uG n ⟨a, b, c, d, e, f, g, h⟩) (Na ⟨a, b, c, d, e, f, g, h⟩) : Nat) : Int) = ((h : Int) + ((zS e : Nat) : Int) + ((Wk e f g : Nat) : Int) + (n : Int) + (((Cs a : Nat) : Int) + ((Ib a b c : Nat) : Int))) % 4294967296 := by unfold uG Na bB; simp only; omega
 have e2 : ((bB d (uG n ⟨a, b, c, d, e, f, g, h⟩) : Nat) : Int) = ((d : Int) + ((h : Int) + ((zS e : Nat) : Int) + ((Wk e f g : Nat) : Int) + (n : Int))) % 4294967296 := by unfold uG bB; simp only; omega
 rw [<- e1, <- e2]
 rfl
theorem Ia (s : S8) (n : Nat) (w : World) (hs : s.ok) :
  Calls Tryz.prog 183 #[.agg (aM s), .int .u32 (n : Int)] w fun e w' => e = .returned (.agg (aM (Ba n s))) /\ Below w.heap.size w w' := by
 obtain ⟨xa, xb, xc, xd, xe, xf, xg, xh⟩ := s
 obtain ⟨⟨ha, hb, hc, hd⟩, ⟨he, hf, hg, hh⟩⟩ := hs
 simp only at ha hb hc hd he hf hg hh
 have HE := Lib.hid (fun w => Zd xe w he)
 have HA := Lib.hid (fun w => Ze xa w ha)
 have hch : Hid (bits .xor .u32 (bits .and .u32 (xe : Int) (xf : Int)) (bits .and .u32 (bits .xor .u32 IntKind.u32.max (xe : Int)) (xg : Int)) = ((Wk xe xf xg : Nat) : Int)) := Lib.hid (by
  rw [u32_and_nat xe xf he hf, rM xe he, u32_and_nat _ xg (jL (by decide) he) hg, u32_xor_nat _ _ (iA _ hf) (iA _ hg)]
  rfl)
 have hmj : Hid (bits .xor .u32 (bits .xor .u32 (bits .and .u32 (xa : Int) (xb : Int)) (bits .and .u32 (xa : Int) (xc : Int))) (bits .and .u32 (xb : Int) (xc : Int)) = ((Ib xa xb xc : Nat) : Int)) := Lib.hid (by
  rw [u32_and_nat xa xb ha hb, u32_and_nat xa xc ha hc, u32_and_nat xb xc hb hc, u32_xor_nat _ _ (iA _ hb) (iA _ hc), u32_xor_nat _ _ (jL (iA _ hb) (iA _ hc)) (iA _ hc)]
  rfl)
 clear ha hb hc hd he hf hg hh
 obtain ⟨s1, hs1⟩ : ∃ r, r = zS xe := ⟨_, rfl⟩
 obtain ⟨s0, hs0⟩ : ∃ r, r = Cs xa := ⟨_, rfl⟩
 rw [<- hs1] at HE
 rw [<- hs0] at HA
 have HS := Lib.hid (And.intro hs1 hs0)
 clear hs1 hs0
 obtain ⟨IC, hIC⟩ : ∃ IC, IC = aM ⟨xa, xb, xc, xd, xe, xf, xg, xh⟩ := ⟨_, rfl⟩
 rw [<- hIC]
 have hIC' : IC = #[Value.int .u32 (xa : Int), .int .u32 (xb : Int), .int .u32 (xc : Int), .int .u32 (xd : Int), .int .u32 (xe : Int), .int .u32 (xf : Int), .int .u32 (xg : Int), .int .u32 (xh : Int)] := hIC
 clear hIC
 subst hIC'
 go_enter Tryz.func183, Tryz.ntmps183
 go_upto_region 1 with fail
 obtain ⟨W, hW, b1, b2, hb, hWs⟩ := Ll w #[Value.int .u32 (xa : Int), .int .u32 (xb : Int), .int .u32 (xc : Int), .int .u32 (xd : Int), .int .u32 (xe : Int), .int .u32 (xf : Int), .int .u32 (xg : Int), .int .u32 (xh : Int)] #[Value.int .u32 0, .int .u32 0, .int .u32 0, .int .u32 0, .int .u32 0, .int .u32 0, .int .u32 0, .int .u32 0] 209 209
 rw [<- hW]
 clear hW
 have c0 : W.cell? ⟨w.heap.size, 0, none⟩ = some (.int .u32 (xa : Int)) := by rw [b1.cell]; rfl
 have c1 : W.cell? ⟨w.heap.size, 1, none⟩ = some (.int .u32 (xb : Int)) := by rw [b1.cell]; rfl
 have c2 : W.cell? ⟨w.heap.size, 2, none⟩ = some (.int .u32 (xc : Int)) := by rw [b1.cell]; rfl
 have c3 : W.cell? ⟨w.heap.size, 3, none⟩ = some (.int .u32 (xd : Int)) := by rw [b1.cell]; rfl
 have c4 : W.cell? ⟨w.heap.size, 4, none⟩ = some (.int .u32 (xe : Int)) := by rw [b1.cell]; rfl
 have c5 : W.cell? ⟨w.heap.size, 5, none⟩ = some (.int .u32 (xf : Int)) := by rw [b1.cell]; rfl
 have c6 : W.cell? ⟨w.heap.size, 6, none⟩ = some (.int .u32 (xg : Int)) := by rw [b1.cell]; rfl
 have c7 : W.cell? ⟨w.heap.size, 7, none⟩ = some (.int .u32 (xh : Int)) := by rw [b1.cell]; rfl
 have HB2 := Lib.hid b2
 have HB := Lib.hid hb
 clear b1 b2 hb hWs
 go_wp2_with fail
 go_quiet (fail)
 go_upto_region 2 with fail
 generalize hw5 : W.drewN _ = w5
 have d6 : w5.cell? ⟨w.heap.size, 6, none⟩ = some (.int .u32 (xg : Int)) := by rw [<- hw5]; exact c6
 have d7 : w5.cell? ⟨w.heap.size, 7, none⟩ = some (.int .u32 (xh : Int)) := by rw [<- hw5]; exact c7
 have HB5 : Hid (Below w.heap.size w w5) := Lib.hid (by rw [<- hw5]; exact ⟨HB.out.os, HB.out.tape, HB.out.output, HB.out.size, HB.out.block⟩)
 have HC5 : Hid (aG w5 (w.heap.size + 1) 209 #[Value.int .u32 0, .int .u32 0, .int .u32 0, .int .u32 0, .int .u32 0, .int .u32 0, .int .u32 0, .int .u32 0]) := Lib.hid (by rw [<- hw5]; exact HB2.out)
 clear c0 c1 c2 c3 c4 c5 c6 c7 hw5 HB HB2
 go_quiet (first | (go_at_call 208; refine Calls.quiet_of_same (HE.out _)))
 go_upto_region 3 with fail
 have hif : (if IntKind.u32.signed = true then (-1 : Int) else IntKind.u32.max) = IntKind.u32.max := rfl
 try rw [hif]
 clear hif
 rw [hch.out]
 generalize hw6 : w5.drewN _ = w6
 have e6 : w6.cell? ⟨w.heap.size, 6, none⟩ = some (.int .u32 (xg : Int)) := by rw [<- hw6]; exact d6
 have HB6 : Hid (Below w.heap.size w w6) := Lib.hid (by rw [<- hw6]; exact ⟨HB5.out.os, HB5.out.tape, HB5.out.output, HB5.out.size, HB5.out.block⟩)
 have HC6 : Hid (aG w6 (w.heap.size + 1) 209 #[Value.int .u32 0, .int .u32 0, .int .u32 0, .int .u32 0, .int .u32 0, .int .u32 0, .int .u32 0, .int .u32 0]) := Lib.hid (by rw [<- hw6]; exact HC5.out)
 clear d6 d7 hw6 HB5 HC5
 obtain ⟨F, hF⟩ : ∃ F, F = Wk xe xf xg := ⟨_, rfl⟩
 rw [<- hF]
 have HF := Lib.hid hF
 clear hF
 have q0 : w6.cell? ⟨w.heap.size + 1, 0, none⟩ = some (.int .u32 0) := by rw [HC6.out.cell]; rfl
 have f0 := HC6.out.frozen 0
 have q1 : w6.cell? ⟨w.heap.size + 1, 1, none⟩ = some (.int .u32 0) := by rw [HC6.out.cell]; rfl
 have f1 := HC6.out.frozen 1
 have q2 : w6.cell? ⟨w.heap.size + 1, 2, none⟩ = some (.int .u32 0) := by rw [HC6.out.cell]; rfl
 have f2 := HC6.out.frozen 2
 have q3 : w6.cell? ⟨w.heap.size + 1, 3, none⟩ = some (.int .u32 0) := by rw [HC6.out.cell]; rfl
 have f3 := HC6.out.frozen 3
 have q4 : w6.cell? ⟨w.heap.size + 1, 4, none⟩ = some (.int .u32 0) := by rw [HC6.out.cell]; rfl
 have f4 := HC6.out.frozen 4
 have q5 : w6.cell? ⟨w.heap.size + 1, 5, none⟩ = some (.int .u32 0) := by rw [HC6.out.cell]; rfl
 have f5 := HC6.out.frozen 5
 have q6 : w6.cell? ⟨w.heap.size + 1, 6, none⟩ = some (.int .u32 0) := by rw [HC6.out.cell]; rfl
 have f6 := HC6.out.frozen 6
 have q7 : w6.cell? ⟨w.heap.size + 1, 7, none⟩ = some (.int .u32 0) := by rw [HC6.out.cell]; rfl
 have f7 := HC6.out.frozen 7
 go_wp2_with (go_at_call 208; refine (HA.out _).mono ?_; rintro e1 w1 ⟨rfl, rfl⟩)
 clear q0 f0 q1 f1 q2 f2 q3 f3 q4 f4 q5 f5 q6 f6 q7 f7
 rw [hmj.out]
 refine dV rfl rfl (aT ((((((((HC6.out.put 0 _).put 1 _).put 2 _).put 3 _).put 4 _).put 5 _).put 6 _).put 7 _) (fun j v h => by rw [Nat.zero_add]; exact h) (fun w => by kernel_rfl) (fun w => by kernel_rfl)) rfl ⟨?_, ?_⟩
 ·exact congrArg (fun t => Ending.returned (Value.agg t)) (Cq xa xb xc xd xe xf xg xh n s1 s0 F HS.out.1 HS.out.2 HF.out)
 ·exact ((((((((HB6.out.setCell (by simp) _).setCell (by simp) _).setCell (by simp) _).setCell (by simp) _).setCell (by simp) _).setCell (by simp) _).setCell (by simp) _).setCell (by simp) _)
set_option maxRecDepth 100000
set_option maxHeartbeats 2000000
def mN (l : List Nat) : Array Value := (aF (l ++ List.replicate (64 - l.length) 0)).toArray
theorem Az {l : List Nat} (h : l.length <= 64) : (mN l).size = 64 := by unfold mN aF; simp; omega
theorem mO {l : List Nat} (h : l.length <= 64) {i : Nat} (hi : i < 64) : (mN l)[i]? = some (.int .u32 ((l.getD i 0 : Nat) : Int)) := by
 unfold mN aF
 rw [List.getElem?_toArray, List.getElem?_map]
 by_cases hl : i < l.length
 ·rw [List.getElem?_append_left hl, List.getD_eq_getElem?_getD, List.getElem?_eq_getElem hl]; rfl
 ·rw [List.getElem?_append_right (by omega), List.getElem?_replicate, if_pos (by omega), List.getD_eq_getElem?_getD, List.getElem?_eq_none (by omega)]; rfl
theorem Rv {l : List Nat} (h : l.length < 64) (x : Nat) : (mN l).setIfInBounds l.length (.int .u32 (x : Int)) = mN (l ++ [x]) := by
 have e : List.replicate (64 - l.length) 0 = 0 :: List.replicate (64 - (l ++ [x]).length) 0 := by
  rw [List.length_append, List.length_singleton, show 64 - l.length = (64 - (l.length + 1)) + 1 by omega]; rfl
 unfold mN aF
 rw [e, List.setIfInBounds_toArray]
 simp
theorem Mw {l : List Nat} (h : l.length = 64) : mN l = (aF l).toArray := by unfold mN; rw [h]; simp
theorem Ep : mN [] = (List.replicate 64 (Value.int .u32 0)).toArray := by unfold mN aF; simp
theorem uF {w : World} {g j : Nat} {t : TypeId} {l : List Nat} {x : Nat} {V : Int} (h : aG w g t (mN l)) (hl : l.length = j) (hj : j < 64) (hV : V = ((x : Nat) : Int)) :
  aG (w.drew.setCell ⟨g, j, none⟩ (.int .u32 V)) g t (mN (l ++ [x])) := by
 subst hl
 rw [hV, <- Rv hj x]
 exact h.drew.put _ _
theorem Er {X : ByteArray} {j i0 i1 i2 i3 : Nat} {l : List Nat} (h : j < 16) (h0 : i0 = 4 * j) (h1 : i1 = i0 + 1) (h2 : i2 = i0 + 2) (h3 : i3 = i0 + 3) (l0 : i0 < X.size) (l1 : i1 < X.size) (l2 : i2 < X.size) (l3 : i3 < X.size) :
  ((((((X[i0]).toNat <<< 24 ||| (X[i1]).toNat <<< 16) ||| (X[i2]).toNat <<< 8) ||| (X[i3]).toNat : Nat)) : Int) = ((kO (fun t => X.data.toList.getD t 0) l j : Nat) : Int) := by
 rw [<- gL X i0 l0, <- gL X i1 l1, <- gL X i2 l2, <- gL X i3 l3]
 subst h1; subst h2; subst h3; subst h0
 unfold kO
 rw [if_pos h]
 rfl
theorem Es {p : Nat -> UInt8} {j ia ib ic id : Nat} {l : List Nat} (h : ¬ j < 16) (ha : ia = j - 15) (hb : ib = j - 2) (hc : ic = j - 16) (hd : id = j - 7) :
  kO p l j = bB (bB (bB (l.getD ic 0) (l.getD id 0)) (rU (l.getD ia 0))) (xM (l.getD ib 0)) := by
 subst ha; subst hb; subst hc; subst hd
 exact lO h
theorem Hy (X : ByteArray) (w : World) (hX : X.size = 64) :
  Calls Tryz.prog 182 #[.string X] w fun e w' => e = .returned (.agg (aF (bT (fun t => X.data.toList.getD t 0) 64)).toArray) /\ Below w.heap.size w w' := by
 obtain ⟨p, hp⟩ : ∃ p, p = fun t => X.data.toList.getD t 0 := ⟨_, rfl⟩
 rw [<- hp]
 have HP := Lib.hid hp
 clear hp
 have HXS := Lib.hid hX
 clear hX
 have hz : ∀ w, (zeroValue 236).run Tryz.prog w = .ok (.agg (mN [])) w := fun w => by rw [Ep]; kernel_rfl
 obtain ⟨Z, hZ⟩ : ∃ Z, Z = mN [] := ⟨_, rfl⟩
 rw [<- hZ] at hz
 have HZ := Lib.hid hZ
 clear hZ
 go_enter Tryz.func182, Tryz.ntmps182
 go_wp2_with fail
 have b1 : aG ((w.alloc (.cells Z 236)).alloc (.cells Z 236)) w.heap.size 236 Z := (aG.new w _ Z).alloc _
 have b2 : aG ((w.alloc (.cells Z 236)).alloc (.cells Z 236)) (w.heap.size + 1) 236 Z := by
  have := aG.new (w.alloc (.cells Z 236)) 236 Z
  simpa using this
 have hb : Below w.heap.size w ((w.alloc (.cells Z 236)).alloc (.cells Z 236)) := ((Below.refl _ _).alloc (Nat.le_refl _) _).alloc (by simp) _
 clear hz
 go_loopw [9] (fun i wr => ∃ j : Nat, j <= 64 /\ i = .int .i64 j /\ aG wr w.heap.size 236 Z /\ aG wr (w.heap.size + 1) 236 (mN (bT p j)) /\ Below w.heap.size w wr) (fun i _ => 64 - (intOf i).toNat)
 case atStart => exact ⟨0, by omega, rfl, b1, (congrArg (aG _ _ _) HZ.out).mp b2, hb⟩
 case round =>
  clear b1 b2 hb
  obtain ⟨j, hj, rfl, b1, b2, hb⟩ := hrel
  have HB1 := Lib.hid b1
  have HB2 := Lib.hid b2
  have HB := Lib.hid hb
  clear b1 b2 hb
  by_cases hlt : j < 64
  ·by_cases h16 : j < 16
   ·obtain ⟨i0, hi0⟩ : ∃ i : Nat, i = 4 * j := ⟨_, rfl⟩
    have w0 : IntKind.i64.wrap (4 * (j : Int)) = (i0 : Int) := by rw [hi0, IntWalk.i64_in _ (by omega)]; omega
    obtain ⟨i1, hi1⟩ : ∃ i : Nat, i = i0 + 1 := ⟨_, rfl⟩
    have w1 : IntKind.i64.wrap ((i0 : Int) + 1) = (i1 : Int) := by rw [IntWalk.i64_in _ (by omega)]; omega
    obtain ⟨i2, hi2⟩ : ∃ i : Nat, i = i0 + 2 := ⟨_, rfl⟩
    have w2 : IntKind.i64.wrap ((i0 : Int) + 2) = (i2 : Int) := by rw [IntWalk.i64_in _ (by omega)]; omega
    obtain ⟨i3, hi3⟩ : ∃ i : Nat, i = i0 + 3 := ⟨_, rfl⟩
    have w3 : IntKind.i64.wrap ((i0 : Int) + 3) = (i3 : Int) := by rw [IntWalk.i64_in _ (by omega)]; omega
    have l0 : i0 < X.size := by rw [HXS.out]; omega
    have l1 : i1 < X.size := by rw [HXS.out]; omega
    have l2 : i2 < X.size := by rw [HXS.out]; omega
    have l3 : i3 < X.size := by rw [HXS.out]; omega
    have HI := Lib.hid (And.intro hi0 (And.intro hi1 (And.intro hi2 hi3)))
    clear hi0 hi1 hi2 hi3
    go_wp2_with fail
    have c4 : wr.cell? ⟨w.heap.size + 1, j, none⟩ = some (.int .u32 (((bT p j).getD j 0 : Nat) : Int)) := by rw [HB2.out.cell]; exact mO (by rw [cD]; omega) (by omega)
    have f4 := HB2.out.frozen j
    have l4 : (j : Int) < 64 := by omega
    go_still_tail 31, (by kernel_rfl)
    change wpList _ _ _ _ _ wr.drew
    go_wp2_with fail
    go_roundw
    case rel =>
     have H3 := uF HB2.out (cD p j) hlt ((tH X[i0] X[i1] X[i2] X[i3]).trans ((Er (l := bT p j) h16 HI.out.1 HI.out.2.1 HI.out.2.2.1 HI.out.2.2.2 l0 l1 l2 l3).trans (by rw [<- HP.out])))
     exact ⟨j + 1, by omega, by go_num, HB1.out.drew.far (by simp) _, H3, HB.out.drew.setCell (by simp) _⟩
    case measure => simp [intOf]; omega
   ·obtain ⟨ia, hia⟩ : ∃ i : Nat, i = j - 15 := ⟨_, rfl⟩
    have wa : IntKind.i64.wrap ((j : Int) - 15) = (ia : Int) := by rw [IntWalk.i64_in _ (by omega)]; omega
    obtain ⟨ib, hib⟩ : ∃ i : Nat, i = j - 2 := ⟨_, rfl⟩
    have wb : IntKind.i64.wrap ((j : Int) - 2) = (ib : Int) := by rw [IntWalk.i64_in _ (by omega)]; omega
    obtain ⟨ic, hic⟩ : ∃ i : Nat, i = j - 16 := ⟨_, rfl⟩
    have wc : IntKind.i64.wrap ((j : Int) - 16) = (ic : Int) := by rw [IntWalk.i64_in _ (by omega)]; omega
    obtain ⟨id, hid⟩ : ∃ i : Nat, i = j - 7 := ⟨_, rfl⟩
    have wd : IntKind.i64.wrap ((j : Int) - 7) = (id : Int) := by rw [IntWalk.i64_in _ (by omega)]; omega
    have la : (ia : Int) < 64 := by omega
    have lb : (ib : Int) < 64 := by omega
    have lc : (ic : Int) < 64 := by omega
    have ld : (id : Int) < 64 := by omega
    have lj : (j : Int) < 64 := by omega
    have hlen : (bT p j).length <= 64 := by rw [cD]; omega
    have HN := Lib.hid (Es (p := p) (l := bT p j) h16 hia hib hic hid)
    have HE := Lib.hid (jD p j)
    have HL := Lib.hid (cD p j)
    have g := fun i => pL (Bc p j) (by decide) i
    obtain ⟨l, hl⟩ : ∃ l, l = bT p j := ⟨_, rfl⟩
    rw [<- hl] at HN HE HB2 hlen g HL
    clear hl
    have ca : wr.cell? ⟨w.heap.size + 1, ia, none⟩ = some (.int .u32 ((l.getD ia 0 : Nat) : Int)) := by rw [HB2.out.cell]; exact mO hlen (by omega)
    have cb : wr.cell? ⟨w.heap.size + 1, ib, none⟩ = some (.int .u32 ((l.getD ib 0 : Nat) : Int)) := by rw [HB2.out.cell]; exact mO hlen (by omega)
    have cc : wr.cell? ⟨w.heap.size + 1, ic, none⟩ = some (.int .u32 ((l.getD ic 0 : Nat) : Int)) := by rw [HB2.out.cell]; exact mO hlen (by omega)
    have cd : wr.cell? ⟨w.heap.size + 1, id, none⟩ = some (.int .u32 ((l.getD id 0 : Nat) : Int)) := by rw [HB2.out.cell]; exact mO hlen (by omega)
    have cj : wr.cell? ⟨w.heap.size + 1, j, none⟩ = some (.int .u32 ((l.getD j 0 : Nat) : Int)) := by rw [HB2.out.cell]; exact mO hlen (by omega)
    have fj := HB2.out.frozen j
    have ga := g ia
    have gb := g ib
    clear hia hib hic hid hlen g
    generalize l.getD ia 0 = ya at *
    generalize l.getD ib 0 = yb at *
    generalize l.getD ic 0 = yc at *
    generalize l.getD id 0 = yd at *
    generalize l.getD j 0 = yj at *
    obtain ⟨r1, hr1⟩ : ∃ r, r = bY ya 25 := ⟨_, rfl⟩
    obtain ⟨r2, hr2⟩ : ∃ r, r = bY ya 14 := ⟨_, rfl⟩
    obtain ⟨r3, hr3⟩ : ∃ r, r = bY yb 15 := ⟨_, rfl⟩
    obtain ⟨r4, hr4⟩ : ∃ r, r = bY yb 13 := ⟨_, rfl⟩
    have H1 : Hid (∀ w, Calls Tryz.prog 207 #[.int .u32 ya, .int .i64 (-7)] w fun e w' => e = .returned (.int .u32 r1) /\ w' = w) := Lib.hid (fun w => by rw [hr1]; exact fB ya 25 (-7) w ga (by omega))
    have H2 : Hid (∀ w, Calls Tryz.prog 207 #[.int .u32 ya, .int .i64 (-18)] w fun e w' => e = .returned (.int .u32 r2) /\ w' = w) := Lib.hid (fun w => by rw [hr2]; exact fB ya 14 (-18) w ga (by omega))
    have H3 : Hid (∀ w, Calls Tryz.prog 207 #[.int .u32 yb, .int .i64 (-17)] w fun e w' => e = .returned (.int .u32 r3) /\ w' = w) := Lib.hid (fun w => by rw [hr3]; exact fB yb 15 (-17) w gb (by omega))
    have H4 : Hid (∀ w, Calls Tryz.prog 207 #[.int .u32 yb, .int .i64 (-19)] w fun e w' => e = .returned (.int .u32 r4) /\ w' = w) := Lib.hid (fun w => by rw [hr4]; exact fB yb 13 (-19) w gb (by omega))
    have HLA : Hid (bits .xor .u32 (bits .xor .u32 (r1 : Int) (r2 : Int)) ((ya : Int) / 8) = ((rU ya : Nat) : Int)) := Lib.hid (by
     have l1 : r1 < 4294967296 := hr1 ▸ cB ya 25 ga (by decide)
     have l2 : r2 < 4294967296 := hr2 ▸ cB ya 14 ga (by decide)
     have e : ∀ q : Nat, q = ya >>> 3 -> (ya : Int) / 8 = (q : Int) := fun q hq => hq ▸ AG ya
     rw [e _ rfl, u32_xor_nat r1 r2 l1 l2, u32_xor_nat _ _ (jL l1 l2) (Ct 3 ga), hr1, hr2]
     rfl)
    have HLB : Hid (bits .xor .u32 (bits .xor .u32 (r3 : Int) (r4 : Int)) ((yb : Int) / 1024) = ((xM yb : Nat) : Int)) := Lib.hid (by
     have l1 : r3 < 4294967296 := hr3 ▸ cB yb 15 gb (by decide)
     have l2 : r4 < 4294967296 := hr4 ▸ cB yb 13 gb (by decide)
     have e : ∀ q : Nat, q = yb >>> 10 -> (yb : Int) / 1024 = (q : Int) := fun q hq => hq ▸ Yl yb
     rw [e _ rfl, u32_xor_nat r3 r4 l1 l2, u32_xor_nat _ _ (jL l1 l2) (Ct 10 gb), hr3, hr4]
     rfl)
    clear hr1 hr2 hr3 hr4 ga gb
    obtain ⟨za, hza⟩ : ∃ z, z = rU ya := ⟨_, rfl⟩
    obtain ⟨zb, hzb⟩ : ∃ z, z = xM yb := ⟨_, rfl⟩
    rw [<- hza] at HLA HN
    rw [<- hzb] at HLB HN
    clear hza hzb
    go_wp2_with fail
    go_quiet (fail)
    go_wp2_with (first | (go_at_call 207; with_reducible refine (H1.out _).mono ?_; rintro e w1 ⟨rfl, rfl⟩) | (go_at_call 207; with_reducible refine (H2.out _).mono ?_; rintro e w1 ⟨rfl, rfl⟩) | (go_at_call 207; with_reducible refine (H3.out _).mono ?_; rintro e w1 ⟨rfl, rfl⟩) | (go_at_call 207; with_reducible refine (H4.out _).mono ?_; rintro e w1 ⟨rfl, rfl⟩))
    rw [HLA.out, HLB.out]
    generalize hw5 : wr.drewN _ = w5
    have cc5 : w5.cell? ⟨w.heap.size + 1, ic, none⟩ = some (.int .u32 (yc : Int)) := by rw [<- hw5]; exact cc
    have cd5 : w5.cell? ⟨w.heap.size + 1, id, none⟩ = some (.int .u32 (yd : Int)) := by rw [<- hw5]; exact cd
    have cj5 : w5.cell? ⟨w.heap.size + 1, j, none⟩ = some (.int .u32 (yj : Int)) := by rw [<- hw5]; exact cj
    have B15 : Hid (aG w5 w.heap.size 236 Z) := Lib.hid (by rw [<- hw5]; exact HB1.out)
    have B25 : Hid (aG w5 (w.heap.size + 1) 236 (mN l)) := Lib.hid (by rw [<- hw5]; exact HB2.out)
    have B35 : Hid (Below w.heap.size w w5) := Lib.hid (by rw [<- hw5]; exact ⟨HB.out.os, HB.out.tape, HB.out.output, HB.out.size, HB.out.block⟩)
    have fj5 := B25.out.frozen j
    clear ca cb cc cd cj fj hw5 HB1 HB2 HB
    go_still_tail 15, (by kernel_rfl)
    change wpList _ _ _ _ _ w5.drew
    go_wp2_with fail
    go_roundw
    case rel =>
     have H3 : aG (w5.drew.setCell ⟨w.heap.size + 1, j, none⟩ (.int .u32 (((yc : Int) + (za : Int) + (yd : Int) + (zb : Int)) % 4294967296))) (w.heap.size + 1) 236 (mN (bT p (j + 1))) := by
      rw [HE.out, HN.out]
      exact uF B25.out HL.out hlt (by unfold bB; omega)
     exact ⟨j + 1, by omega, by go_num, B15.out.drew.far (by simp) _, H3, B35.out.drew.setCell (by simp) _⟩
    case measure => simp [intOf]; omega
  ·obtain rfl : j = 64 := by omega
   have hs : ∀ w, (sizeOf 236).run Tryz.prog w = .ok (aF (bT p 64)).toArray.size w := fun w => by
    rw [show (aF (bT p 64)).toArray.size = 64 by unfold aF; simp [cD]]
    kernel_rfl
   have ha : ∀ w, (isAgg 236).run Tryz.prog w = .ok true w := fun w => by kernel_rfl
   have hW : aG wr (w.heap.size + 1) 236 (aF (bT p 64)).toArray := by rw [<- Mw (cD p 64)]; exact HB2.out
   have hz : Z.size = 64 := by rw [HZ.out]; exact Az (by simp)
   have hc : (aF (bT p 64)).toArray.size = 64 := by unfold aF; simp [cD]
   have h1 : (aF (bT p 64)).toArray.all (·.oneCell') = true := by unfold aF; simp [Value.oneCell']
   obtain ⟨RC, hRC⟩ : ∃ RC, RC = (aF (bT p 64)).toArray := ⟨_, rfl⟩
   rw [<- hRC] at hs hW hc h1
   have HRC := Lib.hid hRC
   clear hRC
   have HL := Lib.hid (eR hW ha hs)
   have HS := Lib.hid (cN HB1.out (hc.trans hz.symm) h1 hs)
   have HR := Lib.hid (aT (P := Tryz.prog) (off := 0) (bQ HB1.out RC) (fun j v h => by rw [Nat.zero_add]; exact h) ha hs)
   clear hs ha hW hz hc h1
   go_upto_region 12 with fail
   refine wp_region_lit ?_
   refine cZ rfl rfl rfl HL.out ?_
   refine cL rfl rfl rfl rfl HS.out ?_
   clear HL HS
   go_wp2_with fail
   refine dV rfl rfl HR.out rfl ⟨by rw [HRC.out], ?_⟩
   exact below_setRow HB.out (Nat.le_refl _) _
end Go.Proofs.YtingkbeifohihaaGreatDoor
