/-
  masonrybook's Spans: one more list of spans is kept. No statement is proved here.
-/
import Derived.Test.YtkcjiogackkecaaSpanApart
namespace Go.Proofs.Ytkcjiogackkecaa
open Go.RowKit

/-- On the way through the second half of Book.Spans. -/
structure AJS (W : World) (g : Nat) (P : Value) (q : Option Addr) (k cq : Nat) (A : Option Addr) (n c B : Nat) (us : List Value) (xs : List (Int × Int)) (L : Nat → Bool) (f : Nat → Value) (w' : World) : Prop where
  f0 : L 0 = true → f 0 = .pointer (some ⟨g, 0, none⟩)
  f1 : L 1 = true → f 1 = .pointer (some ⟨g, 0, none⟩)
  f2 : L 2 = true → f 2 = .pointer (some ⟨g, 0, none⟩)
  f3 : L 3 = true → f 3 = .pointer (some ⟨g, 5, none⟩)
  f4 : L 4 = true → f 4 = .slice q k cq
  f5 : L 5 = true → f 5 = .slice A n c
  f6 : L 6 = true → ∃ mp mc, f 6 = .slice mp n mc ∧ w'.ownsRow W.heap.size 36 2 (.slice mp n mc) n (flatS xs) ∧ (L 7 = true → ∃ b, f 7 = .slice (some ⟨b, 0, none⟩) 1 1 ∧ W.heap.size ≤ b ∧ Blk w' b 33 #[.slice mp n mc] ∧ (Value.slice q k cq).ownBlock ≠ some b) ∧ (L 8 = true → ∃ gd cap, f 8 = .slice (some ⟨gd, 0, none⟩) (k + 1) cap ∧ w'.ownsRow B 33 1 (.slice (some ⟨gd, 0, none⟩) (k + 1) cap) (k + 1) (us ++ [.slice mp n mc]) ∧ ((Value.slice q k cq).ownBlock = some gd ∨ W.heap.size ≤ gd))
  f9 : L 9 = true → f 9 = .pointer (some ⟨g, 0, none⟩)
  f10 : L 10 = true → f 10 = .pointer (some ⟨g, 5, none⟩)
  c7 : L 7 = true → L 6 = true
  c8 : L 8 = true → L 7 = true
  blk : Blk w' g 61 (bookS P (.slice q k cq))
  qrow : L 8 = false → w'.ownsRow B 33 1 (.slice q k cq) k us
  below : Below B W w'
  block : ∀ b, b < W.heap.size → (Value.slice q k cq).ownBlock ≠ some b → w'.heap[b]? = W.heap[b]?

theorem blk_rowS {w : World} {g base n : Nat} {cs : Array Value} {v : Value} {xs : List Value} (hb : Blk w g 61 cs) (h : w.ownsRow base 33 1 v n xs) : v.ownBlock ≠ some g := fun e => by
  rcases h.2 with ⟨rfl, _⟩ | ⟨g2, c2, u2, rfl, _, k2, _⟩
  · cases e
  · injection e with e
    have e : g2 = g := e
    subst e
    have hb : w.heap[g2]? = _ := hb
    rw [k2] at hb
    injection hb with hb
    injection hb with _ hb _
    revert hb
    decide

set_option maxRecDepth 100000 in
set_option maxHeartbeats 8000000 in
theorem sadd_any (g B k cp cq : Nat) (p q : Option Addr) (ls us : List LS) (l : LS) (w : World) (hbk : Blk w g 61 (bookS (.slice p k cp) (.slice q k cq))) (hB : B ≤ g)
    (hpr : w.ownsRow B 33 1 (.slice p k cp) k (ls.map LS.val)) (hqr : w.ownsRow B 33 1 (.slice q k cq) k (us.map LS.val)) (hpq : ∀ b, (Value.slice p k cp).ownBlock = some b → (Value.slice q k cq).ownBlock ≠ some b)
    (hk : k < 250) (hl : Spans w w.heap.size l.A l.xs) (h0 : l.A = none → l.c = 0) (hll : l.xs.length ≤ 900000) (hlp : ∀ b off, l.A = some ⟨b, off, none⟩ → (Value.slice p k cp).ownBlock ≠ some b ∧ (Value.slice q k cq).ownBlock ≠ some b ∧ b ≠ g) :
    Calls Try.prog 26 #[.pointer (some ⟨g, 0, none⟩), l.val] w fun e w' => e = .returned (.tuple #[]) ∧ ∃ p' cp' q' cq' u, Blk w' g 61 (bookS (.slice p' (k + 1) cp') (.slice q' (k + 1) cq')) ∧
      w'.ownsRow B 33 1 (.slice p' (k + 1) cp') (k + 1) ((ls ++ [l]).map LS.val) ∧ w'.ownsRow B 33 1 (.slice q' (k + 1) cq') (k + 1) ((us ++ [u]).map LS.val) ∧ (∀ b, (Value.slice p' (k + 1) cp').ownBlock = some b → (Value.slice q' (k + 1) cq').ownBlock ≠ some b) ∧
      u.xs = l.xs ∧ w'.ownsRow w.heap.size 36 2 u.val u.xs.length (flatS u.xs) ∧ Below B w w' ∧ (∀ b, b < w.heap.size → b ≠ g → (Value.slice p k cp).ownBlock ≠ some b → (Value.slice q k cq).ownBlock ≠ some b → w'.heap[b]? = w.heap[b]?) := by
  obtain ⟨i1, hi1, hy0, hy1, hy2⟩ := info_parts hspanrows_info
  have hBw : B ≤ w.heap.size := Nat.le_trans hB (Nat.le_of_lt hbk.lt)
  obtain ⟨A, c, xs⟩ := l
  simp only at hl h0 hll hlp
  unfold LS.val
  simp only
  obtain ⟨n, hn⟩ : ∃ n, n = xs.length := ⟨_, rfl⟩
  rw [← hn] at hll ⊢
  have hgp := blk_rowS hbk hpr
  have hgq := blk_rowS hbk hqr
  have c2 := hbk.cell 4
  have d2 := hbk.frozen 4
  simp [bookS] at c2
  have hkI : (k : Int) < 250 := by omega
  have HBK := Lib.hid hbk
  have HPR := Lib.hid hpr
  have HQR := Lib.hid hqr
  have HPQ := Lib.hid hpq
  have HL := Lib.hid hl
  have HLP := Lib.hid hlp
  have HH0 := Lib.hid h0
  have HGP := Lib.hid hgp
  have HGQ0 := Lib.hid hgq
  have HN := Lib.hid hn
  have HGL := Lib.hid hbk.lt
  clear hbk hpr hqr hpq hl h0 hgp hgq hn hlp
  go_enter Try.func26, Try.ntmps26
  go_wp2_with (at_builtin; refine wpList_append_lies _ rfl (.tmp 14) (.tmp 16) 54 rfl B 33 i1 (.slice none 0 0) 1 24 Try.underlying54 hi1 hy0 hy1 hy2 rfl (by omega) _ k _ rfl (HPR.out.alloc _) ⟨w.heap.size, 0, none⟩ 1 1 [.slice A n c] rfl rfl ?c1 ?c2 (by omega) (by unfold maxLen; omega) (by omega) (by simp; omega) _ rfl ?_)
  case c1 =>
    intro a u ha
    match a, ha with
    | 0, ha => simp at ha; subst ha; simp [Addr.add]
  case c2 => intro u hu; simp at hu; subst hu; rfl
  intro g2 cap2 w1 hown1 hg1 hor1 hlt1
  have HOWN1 := Lib.hid hown1
  have hb1 : Blk w1 g 61 (bookS (.slice p k cp) (.slice q k cq)) := blk_other (HBK.out.below (Below.alloc (Below.refl w.heap.size w) (Nat.le_refl _) _) HGL.out) hg1 HGP.out
  have c2' := hb1.cell 4
  have d2' := hb1.frozen 4
  simp [bookS] at c2'
  have hba : ∀ b, b < w.heap.size → (Value.slice p k cp).ownBlock ≠ some b → w1.heap[b]? = w.heap[b]? := fun b h1 h2 => (hg1.block b (by simp; omega) (fun e => h2 e.symm)).trans (Below.heap_alloc _ _ _ h1)
  have hbel : Below B w w1 := ((Below.refl _ _).alloc hBw _).grown hg1 (by simp; omega) (fun r e => (HPR.out.lt r e).1)
  have hgp1 : (Value.slice (some ⟨g2, 0, none⟩) (k + 1) cap2).ownBlock ≠ some g := blk_rowS hb1 hown1
  go_upto_region 2 with fail
  obtain ⟨W, hW⟩ : ∃ W, W = w1.setCell ⟨g, 4, none⟩ (.slice (some ⟨g2, 0, none⟩) (k + 1) cap2) := ⟨_, rfl⟩
  rw [← hW]
  have hse : ∀ b, b ≠ g → W.heap[b]? = w1.heap[b]? := fun b hb => by rw [hW]; exact Below.heap_setCell _ _ _ _ (fun e => hb e)
  have HSZ : Hid (W.heap.size = w1.heap.size) := Lib.hid (by rw [hW]; simp [World.setCell])
  have HWB : Hid (Blk W g 61 (bookS (.slice (some ⟨g2, 0, none⟩) (k + 1) cap2) (.slice q k cq))) := Lib.hid (by rw [hW]; exact hb1.put 4 _)
  have HQW : Hid (W.ownsRow B 33 1 (.slice q k cq) k (us.map LS.val)) := Lib.hid (row_kept' HQR.out fun r hr => by
    have hrg : r ≠ g := fun e => HGQ0.out (by rw [← e]; exact hr)
    exact (hse r hrg).trans (hba r (HQR.out.lt r hr).2 (fun e => HPQ.out r e hr)))
  have HPW : Hid (W.ownsRow B 33 1 (.slice (some ⟨g2, 0, none⟩) (k + 1) cap2) (k + 1) ((ls ++ [LS.mk A c xs]).map LS.val)) := Lib.hid (by
    have e : (ls ++ [LS.mk A c xs]).map LS.val = ls.map LS.val ++ [.slice A n c] := by rw [List.map_append, HN.out]; rfl
    rw [e]
    exact row_kept' HOWN1.out fun r hr => hse r fun e => hgp1 (by rw [← e]; exact hr))
  have HPQ' : Hid (∀ r, (Value.slice (some ⟨g2, 0, none⟩) (k + 1) cap2).ownBlock = some r → r < W.heap.size ∧ (Value.slice q k cq).ownBlock ≠ some r) := Lib.hid (fun r hr => ⟨(HPW.out.lt r hr).2, fun e => by
    injection hr with hr
    have hr : g2 = r := hr
    subst hr
    rcases hor1 with h | h
    · exact HPQ.out g2 h e
    · have := (HQR.out.lt g2 e).2
      omega⟩)
  have HBF : Hid (Below B w W) := Lib.hid (by rw [hW]; exact hbel.setCell hB _)
  have HFR : Hid (∀ b, b < w.heap.size → b ≠ g → (Value.slice p k cp).ownBlock ≠ some b → W.heap[b]? = w.heap[b]?) := Lib.hid (fun b h1 h2 h3 => (hse b h2).trans (hba b h1 h3))
  have HBW : Hid (B ≤ W.heap.size) := Lib.hid (Nat.le_trans hBw HBF.out.size)
  have HCP : Hid (∀ w', W.heap.size ≤ w'.heap.size → (∀ b, b < W.heap.size → (Value.slice q k cq).ownBlock ≠ some b → w'.heap[b]? = W.heap[b]?) → Calls Try.prog 38 #[.slice A n c] w' fun e w'' => ∃ v, e = .returned v ∧ w''.ownsRow w'.heap.size 36 2 v n (flatS xs) ∧ Below w'.heap.size w' w'') := Lib.hid (fun w' hs hb => scopy_any A n c xs w' HN.out.symm (spans_blocks (w := w) HL.out (Nat.le_trans HBF.out.size hs) (fun b off e hbl => by
    obtain ⟨l1, l2, l3⟩ := HLP.out b off e
    exact (hb b (Nat.lt_of_lt_of_le hbl HBF.out.size) l2).trans (HFR.out b hbl l3 l1))) (by omega) HH0.out)
  have h0J : AJS W g (.slice (some ⟨g2, 0, none⟩) (k + 1) cap2) q k cq A n c B (us.map LS.val) xs (fun _ => false) (fun _ => undef) W.drew := ⟨(fun h => by cases h), (fun h => by cases h), (fun h => by cases h), (fun h => by cases h), (fun h => by cases h), (fun h => by cases h), (fun h => by cases h), (fun h => by cases h), (fun h => by cases h), (fun h => by cases h), (fun h => by cases h), HWB.out, fun _ => row_kept' HQW.out (fun _ _ => rfl), (Below.refl _ _).drew, fun _ _ _ => rfl⟩
  clear hown1 hg1 hor1 hlt1 hb1 hba hbel hgp1 hW hse c2' d2' c2 d2
  refine wp_region_phase 20 11 30 1 (AJS W g (.slice (some ⟨g2, 0, none⟩) (k + 1) cap2) q k cq A n c B (us.map LS.val) xs) (by kernel_rfl) (by kernel_rfl) rfl (by omega) (by kernel_rfl) rfl (by simp) h0J ?hops ?hrest
  case hops =>
    intro o ho L f y w' hF hLo hJ hw hy
    have HJ := Lib.hid hJ
    clear hJ h0J
    rcases (show o = 0 ∨ o = 1 ∨ o = 2 ∨ o = 3 ∨ o = 4 ∨ o = 5 ∨ o = 6 ∨ o = 7 ∨ o = 8 ∨ o = 9 ∨ o = 10 by omega) with rfl | rfl | rfl | rfl | rfl | rfl | rfl | rfl | rfl | rfl | rfl
    · have t0 : y.tmps[0]?.getD undef = .pointer (some ⟨g, 0, none⟩) := by rw [hF.2.2 0 (by omega)]; rfl
      clear hw hy hF
      refine wpOp_value (v := .pointer (some ⟨g, 0, none⟩)) (w' := w') rfl rfl ?_ ⟨_, rfl, ?_⟩
      · go_simp
      · have kk := HJ.out
        exact ⟨fun _ => rfl, kk.f1, kk.f2, kk.f3, kk.f4, kk.f5, kk.f6, kk.f9, kk.f10, kk.c7, kk.c8, kk.blk, kk.qrow, kk.below, kk.block⟩
    · have t0 : y.tmps[0]?.getD undef = .pointer (some ⟨g, 0, none⟩) := by rw [hF.2.2 0 (by omega)]; rfl
      clear hw hy hF
      refine wpOp_value (v := .pointer (some ⟨g, 0, none⟩)) (w' := w') rfl rfl ?_ ⟨_, rfl, ?_⟩
      · go_simp
      · have kk := HJ.out
        exact ⟨kk.f0, fun _ => rfl, kk.f2, kk.f3, kk.f4, kk.f5, kk.f6, kk.f9, kk.f10, kk.c7, kk.c8, kk.blk, kk.qrow, kk.below, kk.block⟩
    · have l1 : L 1 = true := hw 1 (of_decide_eq_true (by kernel_rfl))
      have t1 : y.tmps[21]?.getD undef = .pointer (some ⟨g, 0, none⟩) := (hy 1 (by omega) l1).trans (HJ.out.f1 l1)
      clear hw hy hF
      refine wpOp_value (v := .pointer (some ⟨g, 0, none⟩)) (w' := w') rfl rfl ?_ ⟨_, rfl, ?_⟩
      · go_simp
      · have kk := HJ.out
        exact ⟨kk.f0, kk.f1, fun _ => rfl, kk.f3, kk.f4, kk.f5, kk.f6, kk.f9, kk.f10, kk.c7, kk.c8, kk.blk, kk.qrow, kk.below, kk.block⟩
    · have l2 : L 2 = true := hw 2 (of_decide_eq_true (by kernel_rfl))
      have t1 : y.tmps[22]?.getD undef = .pointer (some ⟨g, 0, none⟩) := (hy 2 (by omega) l2).trans (HJ.out.f2 l2)
      clear hw hy hF
      refine wpOp_value (v := .pointer (some ⟨g, 5, none⟩)) (w' := w') rfl rfl ?_ ⟨_, rfl, ?_⟩
      · go_simp
      · have kk := HJ.out
        exact ⟨kk.f0, kk.f1, kk.f2, fun _ => rfl, kk.f4, kk.f5, kk.f6, kk.f9, kk.f10, kk.c7, kk.c8, kk.blk, kk.qrow, kk.below, kk.block⟩
    · have l3 : L 3 = true := hw 3 (of_decide_eq_true (by kernel_rfl))
      have t1 : y.tmps[23]?.getD undef = .pointer (some ⟨g, 5, none⟩) := (hy 3 (by omega) l3).trans (HJ.out.f3 l3)
      have c3 := HJ.out.blk.cell 5
      simp [bookS] at c3
      clear hw hy hF
      refine wpOp_value (v := .slice q k cq) (w' := w') rfl rfl ?_ ⟨_, rfl, ?_⟩
      · go_simp
      · have kk := HJ.out
        exact ⟨kk.f0, kk.f1, kk.f2, kk.f3, fun _ => rfl, kk.f5, kk.f6, kk.f9, kk.f10, kk.c7, kk.c8, kk.blk, kk.qrow, kk.below, kk.block⟩
    · have t0 : y.tmps[1]?.getD undef = .slice A n c := by rw [hF.2.2 1 (by omega)]; rfl
      clear hw hy hF
      refine wpOp_value (v := .slice A n c) (w' := w') rfl rfl ?_ ⟨_, rfl, ?_⟩
      · go_simp
      · have kk := HJ.out
        exact ⟨kk.f0, kk.f1, kk.f2, kk.f3, kk.f4, fun _ => rfl, kk.f6, kk.f9, kk.f10, kk.c7, kk.c8, kk.blk, kk.qrow, kk.below, kk.block⟩
    · have l5 : L 5 = true := hw 5 (of_decide_eq_true (by kernel_rfl))
      have t1 : y.tmps[25]?.getD undef = .slice A n c := (hy 5 (by omega) l5).trans (HJ.out.f5 l5)
      have l7 : L 7 = false := by
        cases hl : L 7 with
        | false => rfl
        | true => rw [HJ.out.c7 hl] at hLo; cases hLo
      have l8 : L 8 = false := by
        cases hl : L 8 with
        | false => rfl
        | true => rw [HJ.out.c8 hl] at l7; cases l7
      clear hw hy hF
      refine wpOp_call (f := 38) (args := #[.slice A n c]) rfl rfl (by go_simp) ((HCP.out w' HJ.out.below.size (fun b hb hn => HJ.out.block b hb hn)).mono ?_)
      rintro e w'' ⟨v, rfl, hrow, hb2⟩
      obtain ⟨mp, mc, rfl, -⟩ := row_slice' hrow
      refine ⟨_, rfl, _, rfl, ?_⟩
      have kk := HJ.out
      exact ⟨kk.f0, kk.f1, kk.f2, kk.f3, kk.f4, kk.f5, fun _ => ⟨mp, mc, rfl, row_lower hrow kk.below.size, (fun h => by rw [show L 7 = true from h] at l7; cases l7), (fun h => by rw [show L 8 = true from h] at l8; cases l8)⟩, kk.f9, kk.f10, (fun _ => rfl), kk.c8, Blk.below kk.blk hb2 kk.blk.lt, (fun h => row_kept' (kk.qrow h) fun q hq => hb2.block q ((kk.qrow h).lt q hq).2), kk.below.trans (hb2.mono (Nat.le_trans HBW.out kk.below.size)), fun b h1 h2 => (hb2.block b (Nat.lt_of_lt_of_le h1 kk.below.size)).trans (kk.block b h1 h2)⟩
    · have l6 : L 6 = true := hw 6 (of_decide_eq_true (by kernel_rfl))
      obtain ⟨mp, mc, h6, hmr, -, -⟩ := HJ.out.f6 l6
      have t1 : y.tmps[26]?.getD undef = .slice mp n mc := (hy 6 (by omega) l6).trans h6
      have l8 : L 8 = false := by
        cases hl : L 8 with
        | false => rfl
        | true => rw [HJ.out.c8 hl] at hLo; cases hLo
      have HH6 := Lib.hid h6
      have HMR := Lib.hid hmr
      clear hw hy hF h6 hmr
      refine wpOp_value (v := .slice (some ⟨w'.heap.size, 0, none⟩) 1 1) (w' := w'.alloc (.cells #[.slice mp n mc] 33)) rfl rfl ?_ ⟨_, rfl, ?_⟩
      · go_simp
      · have kk := HJ.out
        have hq8 := kk.qrow l8
        have hba : ∀ b, b < w'.heap.size → (w'.alloc (.cells #[.slice mp n mc] 33)).heap[b]? = w'.heap[b]? := fun b hb => Below.heap_alloc _ _ _ hb
        exact ⟨kk.f0, kk.f1, kk.f2, kk.f3, kk.f4, kk.f5, fun _ => ⟨mp, mc, HH6.out, row_kept' HMR.out (fun q hq => hba q (HMR.out.lt q hq).2), (fun _ => ⟨_, rfl, kk.below.size, Blk.new _ _ _, fun e => by have := (hq8.lt _ e).2; omega⟩), (fun h => by rw [show L 8 = true from h] at l8; cases l8)⟩, kk.f9, kk.f10, (fun _ => l6), (fun _ => rfl), (hba g kk.blk.lt).trans kk.blk, (fun h => row_kept' hq8 fun q hq => hba q (hq8.lt q hq).2), kk.below.alloc (Nat.le_trans HBW.out kk.below.size) _, fun b h1 h2 => (hba b (Nat.lt_of_lt_of_le h1 kk.below.size)).trans (kk.block b h1 h2)⟩
    · have l7 : L 7 = true := hw 7 (of_decide_eq_true (by kernel_rfl))
      have l4 : L 4 = true := hw 4 (of_decide_eq_true (by kernel_rfl))
      have kk := HJ.out
      have l6 := kk.c7 l7
      obtain ⟨mp, mc, h6, hmr, h7, -⟩ := kk.f6 l6
      obtain ⟨b, hb7, hbs, hbk, hbq⟩ := h7 l7
      have t1 : y.tmps[24]?.getD undef = .slice q k cq := (hy 4 (by omega) l4).trans (HJ.out.f4 l4)
      have t2 : y.tmps[27]?.getD undef = .slice (some ⟨b, 0, none⟩) 1 1 := (hy 7 (by omega) l7).trans hb7
      have hq8 := kk.qrow hLo
      obtain ⟨gd, cap, Wf, hrun, hown, hgrow, hor, hlt'⟩ := run_append_lies (P := Try.prog) w' 54 54 B 33 i1 (.slice none 0 0) 1 24 Try.underlying54 hi1 hy0 hy1 hy2 rfl (by omega)
        (.slice q k cq) k (us.map LS.val) hq8 ⟨b, 0, none⟩ 1 1 [.slice mp n mc] rfl (fun i u hu => by
          match i, hu with
          | 0, hu =>
            injection hu with hu
            subst hu
            rw [Go.WideShapes.add_plain]
            exact hbk.cell 0) (by intro u hu; have := List.mem_singleton.1 hu; subst this; rfl) (by omega) (by unfold maxLen; omega) (by omega) (Nat.le_trans HBW.out kk.below.size) _ rfl
      refine wpOp_value (v := .slice (some ⟨gd, 0, none⟩) (k + 1) cap) (w' := Wf) rfl rfl (exec_append rfl (by simpa [Act.eval] using t1) (by simpa [Act.eval] using t2) hrun) ⟨_, rfl, ?_⟩
      have hgq : (Value.slice q k cq).ownBlock ≠ some g := fun e => blk_rowS kk.blk hq8 e
      have hmq : ∀ r, (Value.slice mp n mc).ownBlock = some r → (Value.slice q k cq).ownBlock ≠ some r := fun r e1 e2 => rows_kindsS hmr hq8 r e1 e2
      exact ⟨kk.f0, kk.f1, kk.f2, kk.f3, kk.f4, kk.f5, fun _ => ⟨mp, mc, h6, row_other hmr hgrow (fun r er e => hmq r e er), (fun _ => ⟨b, hb7, hbs, blk_other hbk hgrow hbq, hbq⟩), (fun _ => ⟨gd, cap, rfl, hown, hor.imp id (fun h => by rw [h]; exact kk.below.size)⟩)⟩, kk.f9, kk.f10, (fun _ => l6), (fun _ => l7), blk_other kk.blk hgrow hgq, (fun h => by cases h), kk.below.grown hgrow (Nat.le_trans HBW.out kk.below.size) (fun r e => (hq8.lt r e).1), fun r h1 h2 => (hgrow.block r (Nat.lt_of_lt_of_le h1 kk.below.size) (fun e => h2 e.symm)).trans (kk.block r h1 h2)⟩
    · have l0 : L 0 = true := hw 0 (of_decide_eq_true (by kernel_rfl))
      have t1 : y.tmps[20]?.getD undef = .pointer (some ⟨g, 0, none⟩) := (hy 0 (by omega) l0).trans (HJ.out.f0 l0)
      clear hw hy hF
      refine wpOp_value (v := .pointer (some ⟨g, 0, none⟩)) (w' := w') rfl rfl ?_ ⟨_, rfl, ?_⟩
      · go_simp
      · have kk := HJ.out
        exact ⟨kk.f0, kk.f1, kk.f2, kk.f3, kk.f4, kk.f5, kk.f6, fun _ => rfl, kk.f10, kk.c7, kk.c8, kk.blk, kk.qrow, kk.below, kk.block⟩
    · have l9 : L 9 = true := hw 9 (of_decide_eq_true (by kernel_rfl))
      have t1 : y.tmps[29]?.getD undef = .pointer (some ⟨g, 0, none⟩) := (hy 9 (by omega) l9).trans (HJ.out.f9 l9)
      clear hw hy hF
      refine wpOp_value (v := .pointer (some ⟨g, 5, none⟩)) (w' := w') rfl rfl ?_ ⟨_, rfl, ?_⟩
      · go_simp
      · have kk := HJ.out
        exact ⟨kk.f0, kk.f1, kk.f2, kk.f3, kk.f4, kk.f5, kk.f6, kk.f9, fun _ => rfl, kk.c7, kk.c8, kk.blk, kk.qrow, kk.below, kk.block⟩
  case hrest =>
    intro L f w' hL hJ
    obtain ⟨mp, mc, h6, hmr, -, h8⟩ := hJ.f6 (hL 6 (by omega))
    obtain ⟨gd, cap, hf8, hown, hgd⟩ := h8 (hL 8 (by omega))
    have hf10 := hJ.f10 (hL 10 (by omega))
    have HK := Lib.hid hJ
    have HMR := Lib.hid hmr
    have HOWN := Lib.hid hown
    have HGD := Lib.hid hgd
    have c3 := hJ.blk.cell 5
    have d3 := hJ.blk.frozen 5
    simp [bookS] at c3
    clear hJ hL h6 hmr h8 hown hgd h0J
    rw [show List.range' 11 1 = [11] from rfl]
    simp only [putAll, List.range, List.range.loop, List.foldl, Nat.reduceAdd, List.setIfInBounds_toArray, List.set_cons_succ, List.set_cons_zero, hf8, hf10]
    clear hf8 hf10
    rw [wpOps_cons]
    refine wpOp_skip (w' := w'.setCell ⟨g, 5, none⟩ (.slice (some ⟨gd, 0, none⟩) (k + 1) cap)) rfl rfl (by go_simp) ?_
    simp only [wpOps, Act.put, List.setIfInBounds_toArray]
    clear c3 d3
    have hse : ∀ b, b ≠ g → (w'.setCell ⟨g, 5, none⟩ (.slice (some ⟨gd, 0, none⟩) (k + 1) cap)).heap[b]? = w'.heap[b]? := fun b hb => Below.heap_setCell _ _ _ _ (fun e => hb e)
    have HPOST : Hid (∃ p' cp' q' cq' u, Blk (w'.setCell ⟨g, 5, none⟩ (.slice (some ⟨gd, 0, none⟩) (k + 1) cap)) g 61 (bookS (.slice p' (k + 1) cp') (.slice q' (k + 1) cq')) ∧
      (w'.setCell ⟨g, 5, none⟩ (.slice (some ⟨gd, 0, none⟩) (k + 1) cap)).ownsRow B 33 1 (.slice p' (k + 1) cp') (k + 1) ((ls ++ [LS.mk A c xs]).map LS.val) ∧ (w'.setCell ⟨g, 5, none⟩ (.slice (some ⟨gd, 0, none⟩) (k + 1) cap)).ownsRow B 33 1 (.slice q' (k + 1) cq') (k + 1) ((us ++ [u]).map LS.val) ∧ (∀ b, (Value.slice p' (k + 1) cp').ownBlock = some b → (Value.slice q' (k + 1) cq').ownBlock ≠ some b) ∧
      u.xs = xs ∧ (w'.setCell ⟨g, 5, none⟩ (.slice (some ⟨gd, 0, none⟩) (k + 1) cap)).ownsRow w.heap.size 36 2 u.val u.xs.length (flatS u.xs) ∧ Below B w (w'.setCell ⟨g, 5, none⟩ (.slice (some ⟨gd, 0, none⟩) (k + 1) cap)) ∧ (∀ b, b < w.heap.size → b ≠ g → (Value.slice p k cp).ownBlock ≠ some b → (Value.slice q k cq).ownBlock ≠ some b → (w'.setCell ⟨g, 5, none⟩ (.slice (some ⟨gd, 0, none⟩) (k + 1) cap)).heap[b]? = w.heap[b]?)) := Lib.hid (by
      have kk := HK.out
      refine ⟨some ⟨g2, 0, none⟩, cap2, some ⟨gd, 0, none⟩, cap, ⟨mp, mc, xs⟩, kk.blk.put 5 _, ?_, ?_, ?_, rfl, ?_, (HBF.out.trans kk.below).setCell hB _, ?_⟩
      · refine row_kept' HPW.out fun r hr => ?_
        obtain ⟨h1, h2⟩ := HPQ'.out r hr
        have hrg : r ≠ g := fun e => blk_rowS HWB.out HPW.out (by rw [← e]; exact hr)
        exact (hse r hrg).trans (kk.block r h1 h2)
      · have e : (us ++ [LS.mk mp mc xs]).map LS.val = us.map LS.val ++ [.slice mp n mc] := by rw [List.map_append, HN.out]; rfl
        rw [e]
        exact row_kept' HOWN.out fun r hr => hse r fun e => blk_rowS kk.blk HOWN.out (by rw [← e]; exact hr)
      · intro r hr e
        obtain ⟨h1, h2⟩ := HPQ'.out r hr
        injection e with e
        have e : gd = r := e
        subst e
        rcases HGD.out with h | h
        · exact h2 h
        · omega
      · have e : (LS.mk mp mc xs).val = .slice mp n mc := by unfold LS.val; rw [HN.out]
        rw [e]
        simp only
        rw [← HN.out]
        refine row_lower (row_kept' HMR.out fun r hr => hse r fun e => ?_) HBF.out.size
        have h1 := (HMR.out.lt r hr).1
        have h2 := HWB.out.lt
        omega
      · intro b h1 h2 h3 h4
        exact (hse b h2).trans ((kk.block b (Nat.lt_of_lt_of_le h1 HBF.out.size) h4).trans (HFR.out b h1 h2 h3)))
    go_wp2_with fail
    go_end0
    exact ⟨rfl, HPOST.out⟩
end Go.Proofs.Ytkcjiogackkecaa
