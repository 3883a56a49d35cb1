/-
  CdcTells, walked. No statement is proved here.
-/
import Derived.Test.YtnmdpbnddbccmaaCdcTellsMid
import Derived.Test.YtnmdpbnddbccmaaCdcAloneWalk
import Derived.Test.YtnmdpbnddbccmaaLoose
import Derived.Deep.CutBlock
namespace Go.Proofs.Ytnmdpbnddbccmaa
open Go.RowKit

/-- What the operations of the law's last line do to memory: one of them, the last call, writes into the book's lists; the others make memory. -/
def GoTells (gb k o : Nat) (w w' : World) : Prop := (o = k → Below gb w w') ∧ (o ≠ k → Below w.heap.size w w')
theorem GoTells.refl {gb k o : Nat} {w : World} (h : o ≠ k) : GoTells gb k o w w := ⟨fun e => absurd e h, fun _ => Below.refl _ _⟩
theorem GoTells.make {gb k o : Nat} {w w' : World} (h : o ≠ k) (hb : Below w.heap.size w w') : GoTells gb k o w w' := ⟨fun e => absurd e h, fun _ => hb⟩
theorem GoTells.last {gb k : Nat} {w w' : World} (hb : Below gb w w') : GoTells gb k k w w' := ⟨fun _ => hb, fun e => absurd rfl e⟩
theorem GoTells.low {gb k o B : Nat} {w w' : World} (h : GoTells gb k o w w') (h1 : B ≤ gb) (h2 : B ≤ w.heap.size) : Below B w w' := by
  by_cases e : o = k
  · exact (h.1 e).mono h1
  · exact (h.2 e).mono h2
theorem GoTells.high {gb k o : Nat} {w w' : World} (h : GoTells gb k o w w') (e : o ≠ k) : Below w.heap.size w w' := h.2 e
theorem not_yet {ops : Array Oper} {L : Nat → Bool} (i : Nat) {o : Nat} (hs : sinkL ops i = true) (hcl : ∀ n, L n = true → ∀ j ∈ waitsFor .any ops n, L j = true) (ho : o < i) (hLo : L o = false) : L i = false := by
  cases hh : L i with
  | false => rfl
  | true =>
    have := sink_done hs hcl hh o ho
    rw [hLo] at this
    cases this

set_option maxRecDepth 100000 in
set_option maxHeartbeats 16000000 in
theorem ctells_any (R : RuleN) (own : Bool) (A : Option Addr) (m c : Nat) (xs : List ByteArray) (w : World) (hin : TextsIn w A m c xs) :
    Calls Try.prog 3 #[R.val, .bool own, .slice A m c] w fun e w' => e = .returned (.bool true) ∧ Below w.heap.size w w' := by
  have HAL := Lib.hid alive14_any
  have HBK : Hid (RuleAt (w.alloc (.cells #[.int .i64 R.mn, .int .i64 R.md, .int .i64 R.mx, .int .i64 R.hd, .int .i64 R.sf] 23)) w.heap.size R) := Lib.hid (Blk.new w _ _)
  obtain ⟨a, b, c5, d, e5⟩ := R
  simp only at HBK
  obtain ⟨w1, hw1⟩ : ∃ w1, w1 = w.alloc (.cells #[.int .i64 a, .int .i64 b, .int .i64 c5, .int .i64 d, .int .i64 e5] 23) := ⟨_, rfl⟩
  have HB1 : Hid (Below w.heap.size w w1) := Lib.hid (by rw [hw1]; exact (Below.refl _ _).alloc (Nat.le_refl _) _)
  rw [← hw1] at HBK
  have HW1 := Lib.hid hw1
  have HIN := Lib.hid hin
  clear hw1 hin
  unfold RuleN.val
  simp only
  obtain ⟨gr, hgr⟩ : ∃ gr, gr = w.heap.size := ⟨_, rfl⟩
  rw [← hgr] at HBK
  have HGR := Lib.hid hgr
  have HSH := Lib.hid (short_any 12 1500 A m c xs w1 HIN.out.len ((HIN.out.lie.below HB1.out).more HB1.out.size) HIN.out.short HIN.out.few (by omega) (by omega) (by omega) (by omega))
  clear hgr
  go_enter Try.func3, Try.ntmps3
  go_wp2_with fail
  rw [← HW1.out]
  refine HSH.out.mono ?_
  rintro e w2 ⟨⟨r, rfl, hr⟩, hb2⟩
  have HB2 := Lib.hid (HB1.out.trans (hb2.mono HB1.out.size))
  have HBK2 := Lib.hid (HBK.out.below hb2 HBK.out.lt)
  clear hb2 HSH
  cases r with
  | false =>
    clear hr
    go_wp2_with fail
    refine (HAL.out _).mono ?_
    rintro e w3 ⟨rfl, hb3⟩
    have HB3 := Lib.hid (HB2.out.trans (hb3.mono HB2.out.size))
    clear hb3
    go_wp2_with fail
    go_ret
    exact ⟨rfl, HB3.out⟩
  | true =>
  have HR := Lib.hid (hr rfl)
  clear hr
  go_wp2_with fail
  refine (HAL.out _).mono ?_
  rintro e w3 ⟨rfl, hb3⟩
  have HB3 := Lib.hid (HB2.out.trans (hb3.mono HB2.out.size))
  have HBK3 := Lib.hid (HBK2.out.below hb3 HBK2.out.lt)
  clear hb3
  go_upto_if 22 with fail
  rw [← HGR.out]
  go_cut [] from 23 to 23 (fun wx => ∃ R', RuleAt wx gr R' ∧ Below w.heap.size w wx)
  case first =>
    cases own with
    | false =>
      go_wp2_with fail
      go_meet
      exact ⟨⟨a, b, c5, d, e5⟩, HBK3.out, HB3.out⟩
    | true =>
      go_wp2_with fail
      refine (default_any _).mono ?_
      rintro e w4 ⟨rfl, hb4⟩
      have hbk := HBK3.out.below hb4 HBK3.out.lt
      have hb34 := HB3.out.trans (hb4.mono HB3.out.size)
      have c0 : w4.cell? ⟨gr, 0, none⟩ = some (.int .i64 a) := hbk.cell 0
      have c1 : w4.cell? ⟨gr, 1, none⟩ = some (.int .i64 b) := hbk.cell 1
      have c2 : w4.cell? ⟨gr, 2, none⟩ = some (.int .i64 c5) := hbk.cell 2
      have c3 : w4.cell? ⟨gr, 3, none⟩ = some (.int .i64 d) := hbk.cell 3
      have c4 : w4.cell? ⟨gr, 4, none⟩ = some (.int .i64 e5) := hbk.cell 4
      have f0 : w4.frozen? ⟨gr, 0, none⟩ = false := hbk.frozen 0
      have f1 : w4.frozen? ⟨gr, 1, none⟩ = false := hbk.frozen 1
      have f2 : w4.frozen? ⟨gr, 2, none⟩ = false := hbk.frozen 2
      have f3 : w4.frozen? ⟨gr, 3, none⟩ = false := hbk.frozen 3
      have f4 : w4.frozen? ⟨gr, 4, none⟩ = false := hbk.frozen 4
      have HK := Lib.hid hbk
      have HB4 := Lib.hid hb34
      have hle : w.heap.size ≤ gr := by rw [HGR.out]; exact Nat.le_refl _
      have HLE := Lib.hid hle
      clear hbk hb34 hb4 hle
      go_wp2_with fail
      go_meet
      exact ⟨dfl, ((((HK.out.put 0 _).put 1 _).put 2 _).put 3 _).put 4 _, ((((HB4.out.setCell HLE.out _).setCell HLE.out _).setCell HLE.out _).setCell HLE.out _).setCell HLE.out _⟩
  case rest =>
  obtain ⟨⟨a', b', c', d', e'⟩, hbk, hbc⟩ := hcut
  have HK := Lib.hid hbk
  have HBC := Lib.hid hbc
  have c0 : wc.cell? ⟨gr, 0, none⟩ = some (.int .i64 a') := hbk.cell 0
  have c1 : wc.cell? ⟨gr, 1, none⟩ = some (.int .i64 b') := hbk.cell 1
  have c2 : wc.cell? ⟨gr, 2, none⟩ = some (.int .i64 c') := hbk.cell 2
  have c3 : wc.cell? ⟨gr, 3, none⟩ = some (.int .i64 d') := hbk.cell 3
  have c4 : wc.cell? ⟨gr, 4, none⟩ = some (.int .i64 e') := hbk.cell 4
  obtain ⟨gx, hgx⟩ : ∃ gx, gx = wc.heap.size := ⟨_, rfl⟩
  obtain ⟨w4, hw4⟩ : ∃ w', w' = wc.alloc (.cells #[.int .i64 a', .int .i64 b', .int .i64 c', .int .i64 d', .int .i64 e'] 28) := ⟨_, rfl⟩
  have HKX : Hid (Blk w4 gx 28 #[.int .i64 a', .int .i64 b', .int .i64 c', .int .i64 d', .int .i64 e']) := Lib.hid (by rw [hw4, hgx]; exact Blk.new wc _ _)
  have HB4 : Hid (Below w.heap.size w w4) := Lib.hid (by rw [hw4]; exact hbc.alloc hbc.size _)
  have HK4 : Hid (RuleAt w4 gr ⟨a', b', c', d', e'⟩) := Lib.hid (by rw [hw4]; exact hbk.alloc _)
  clear hbk hbc
  go_upto_region 6 with fail
  rw [← hw4, ← hgx]
  have hm12 : m ≤ 12 := by have := HR.out.1; rw [HIN.out.len] at this; omega
  obtain ⟨S, hS⟩ : ∃ S, S = (cats xs).length := ⟨_, rfl⟩
  have HSS := Lib.hid hS
  have hS2 : S ≤ 1500 := by have := HR.out.2; rw [← HSS.out] at this; omega
  obtain ⟨cs, hcs⟩ : ∃ cs, cs = cutL ⟨a', b', c', d', e'⟩ 0 (cats xs) := ⟨_, rfl⟩
  obtain ⟨M, hM⟩ : ∃ M, M = cs.length := ⟨_, rfl⟩
  have hM2 : M ≤ 1500 := by rw [hM, hcs]; have := cutL_few ⟨a', b', c', d', e'⟩ 0 (cats xs); omega
  have HCS := Lib.hid hcs
  have HM := Lib.hid hM
  have HLT := Lib.hid (lent_any A m c xs w4 HIN.out.len ((HIN.out.lie.below HB4.out).more HB4.out.size) (by omega) HIN.out.nil_)
  clear hS hcs hM hgx hw4 c0 c1 c2 c3 c4
  go_wp2_with fail
  refine HLT.out.mono ?_
  rintro e w5 ⟨g1, cap1, rfl, hl1, hb5⟩
  have HB45 := Lib.hid hb5
  have HB5 := Lib.hid (HB4.out.trans (hb5.mono HB4.out.size))
  have HL1 := Lib.hid hl1
  have HK5 := Lib.hid (HK4.out.below hb5 HK4.out.lt)
  have HKX5 := Lib.hid (HKX.out.below hb5 HKX.out.lt)
  have HJOIN := Lib.hid (join_any A m c xs w5 HIN.out.len ((HIN.out.lie.below HB5.out).more HB5.out.size) (by omega) (by rw [← HSS.out]; omega))
  clear hl1 hb5 HLT HK4 HKX
  go_wp2_with fail
  refine HJOIN.out.mono ?_
  rintro e w5' ⟨rfl, rfl⟩
  have HCA := Lib.hid (al_list xs)
  have HALD : Hid ((joined xs).data.toList = cats xs) := Lib.hid rfl
  have HJS : Hid ((joined xs).size = S) := Lib.hid (by rw [joined_size, HSS.out])
  obtain ⟨al, hal⟩ : ∃ al, al = joined xs := ⟨_, rfl⟩
  rw [← hal] at HJS HCA HALD
  rw [← hal]
  clear hal HJOIN
  obtain ⟨gb, hgb⟩ : ∃ gb, gb = w5.heap.size := ⟨_, rfl⟩
  obtain ⟨w6, hw6⟩ : ∃ w', w' = w5.alloc (.cells (bookS (.slice none 0 0) (.slice none 0 0)) 41) := ⟨_, rfl⟩
  have HBOOK : Hid (Blk w6 gb 41 (bookS (.slice none 0 0) (.slice none 0 0))) := Lib.hid (by rw [hw6, hgb]; exact Blk.new w5 _ _)
  have hb56 : Below w5.heap.size w5 w6 := by rw [hw6]; exact (Below.refl _ _).alloc (Nat.le_refl _) _
  have HB6 := Lib.hid (HB5.out.trans (hb56.mono HB5.out.size))
  have HK6 := Lib.hid (HK5.out.below hb56 HK5.out.lt)
  have HKX6 := Lib.hid (HKX5.out.below hb56 HKX5.out.lt)
  have HL6 := Lib.hid (HL1.out.below hb56)
  have HGB : Hid (w.heap.size ≤ gb ∧ gr < gb ∧ gx < gb ∧ g1 < gb ∧ w4.heap.size ≤ gb) := Lib.hid (by rw [hgb]; exact ⟨HB5.out.size, HK5.out.lt, HKX5.out.lt, HL1.out.2.1, HB45.out.size⟩)
  go_upto_region 9 with fail
  rw [show w5.alloc (.cells #[.slice none 0 0, .slice none 0 0, .slice none 0 0, .slice none 0 0, .slice none 0 0, .slice none 0 0, .slice none 0 0, .slice none 0 0, .slice none 0 0, .slice none 0 0, .slice none 0 0, .slice none 0 0, .slice none 0 0, .slice none 0 0, .slice none 0 0, .slice none 0 0] 41) = w6 from hw6.symm, ← hgb]
  clear hb56 hw6 hgb HK5 HKX5 HL1
  have HCUTA : Hid (∀ w', Below w6.heap.size w6 w' → Calls Try.prog 13 #[.agg #[.int .i64 a', .int .i64 b', .int .i64 c', .int .i64 d', .int .i64 e'], .slice (some ⟨g1, 0, none⟩) m cap1] w' fun e w'' => ∃ p cap, e = .returned (.slice p M cap) ∧ w''.ownsRow w'.heap.size 52 2 (.slice p M cap) M (flatS cs) ∧ Below w'.heap.size w' w'') := Lib.hid (fun w' hw => by
    have hl := HL6.out.below hw
    have h := ccut_any ⟨a', b', c', d', e'⟩ (some ⟨g1, 0, none⟩) m cap1 xs w' HIN.out.len hl.txts (by omega) (by have := hl.2.2.1; rw [HIN.out.len] at this; omega) (by rw [← HSS.out]; omega)
    rw [← HCS.out, ← HM.out] at h
    exact h)
  have HCUTB : Hid (∀ w' v, Below w6.heap.size w6 w' → w'.ownsRow w6.heap.size 9 1 v 1 [.string al] → ∃ p c, v = .slice p 1 c ∧ Calls Try.prog 13 #[.agg #[.int .i64 a', .int .i64 b', .int .i64 c', .int .i64 d', .int .i64 e'], .slice p 1 c] w' fun e w'' => ∃ p cap, e = .returned (.slice p M cap) ∧ w''.ownsRow w'.heap.size 52 2 (.slice p M cap) M (flatS cs) ∧ Below w'.heap.size w' w'') := Lib.hid (fun w' v hw hv => by
    obtain ⟨p, cc, rfl, hcc, -, -, -⟩ := krow_form hv
    obtain ⟨bb, rfl, hbb⟩ := row_some hv (by omega)
    refine ⟨_, cc, rfl, ?_⟩
    have h := ccut_any ⟨a', b', c', d', e'⟩ (some ⟨bb, 0, none⟩) 1 cc [al] w' rfl (fun _ => ⟨bb, 0, rfl, hbb, fun j x hx => by
      cases j with
      | zero => simp at hx; subst hx; exact krow_cell hv rfl
      | succ j => simp at hx⟩) (by omega) hcc (by rw [HCA.out, ← HSS.out]; omega)
    rw [HCA.out, ← HCS.out, ← HM.out] at h
    exact h)
  have HC6 : Hid (∀ w', Below w6.heap.size w6 w' → w'.cell? ⟨gr, 0, none⟩ = some (.int .i64 a') ∧ w'.cell? ⟨gr, 1, none⟩ = some (.int .i64 b') ∧ w'.cell? ⟨gr, 2, none⟩ = some (.int .i64 c') ∧ w'.cell? ⟨gr, 3, none⟩ = some (.int .i64 d') ∧ w'.cell? ⟨gr, 4, none⟩ = some (.int .i64 e')) := Lib.hid (fun w' hw => by
    have hk := HK6.out.below hw HK6.out.lt
    exact ⟨hk.cell 0, hk.cell 1, hk.cell 2, hk.cell 3, hk.cell 4⟩)
  go_cut [11, 12] from 41 to 47 (fun u v wx => ∃ p cp q cq, u = .slice p M cp ∧ v = .slice q M cq ∧ wx.ownsRow w6.heap.size 52 2 (.slice p M cp) M (flatS cs) ∧ wx.ownsRow w6.heap.size 52 2 (.slice q M cq) M (flatS cs) ∧ (∀ b, (Value.slice p M cp).ownBlock = some b → (Value.slice q M cq).ownBlock ≠ some b) ∧ Below w6.heap.size w6 wx)
  case first =>
    refine wp_region_fresher (W := w6) 41 7 47 2 (fun | 0 => .agg #[.int .i64 a', .int .i64 b', .int .i64 c', .int .i64 d', .int .i64 e'] | 1 => .slice (some ⟨g1, 0, none⟩) m cap1 | 3 => .agg #[.int .i64 a', .int .i64 b', .int .i64 c', .int .i64 d', .int .i64 e'] | 4 => .string al | _ => undef) (fun | 2 => some ⟨52, 2, M, flatS cs⟩ | 5 => some ⟨9, 1, 1, [.string al]⟩ | 6 => some ⟨52, 2, M, flatS cs⟩ | _ => none) (by kernel_rfl) (by kernel_rfl) rfl (by omega) (by kernel_rfl) rfl (Nat.le_of_ble_eq_true (by kernel_rfl)) ?hval ?hrow ?hrest
    case hval =>
      intro i hi hr z w' hB hF hv
      rcases (show i = 0 ∨ i = 1 ∨ i = 2 ∨ i = 3 ∨ i = 4 ∨ i = 5 ∨ i = 6 by omega) with rfl | rfl | rfl | rfl | rfl | rfl | rfl
      · have t0 : z.tmps[3]?.getD undef = .pointer (some ⟨gr, 0, none⟩) := (congrArg (fun z => z.getD undef) (hF.2.2 3 (by omega))).trans (by kernel_rfl)
        obtain ⟨z0, z1, z2, z3, z4⟩ := HC6.out w' hB
        clear hv hF
        refine wpOp_value (v := .agg #[.int .i64 a', .int .i64 b', .int .i64 c', .int .i64 d', .int .i64 e']) (w' := w') rfl rfl ?_ ⟨rfl, rfl⟩
        go_simp
      · have t0 : z.tmps[8]?.getD undef = .slice (some ⟨g1, 0, none⟩) m cap1 := (congrArg (fun z => z.getD undef) (hF.2.2 8 (by omega))).trans (by kernel_rfl)
        clear hv hF
        refine wpOp_value (v := .slice (some ⟨g1, 0, none⟩) m cap1) (w' := w') rfl rfl ?_ ⟨rfl, rfl⟩
        go_simp
      · cases hr
      · have t0 : z.tmps[3]?.getD undef = .pointer (some ⟨gr, 0, none⟩) := (congrArg (fun z => z.getD undef) (hF.2.2 3 (by omega))).trans (by kernel_rfl)
        obtain ⟨z0, z1, z2, z3, z4⟩ := HC6.out w' hB
        clear hv hF
        refine wpOp_value (v := .agg #[.int .i64 a', .int .i64 b', .int .i64 c', .int .i64 d', .int .i64 e']) (w' := w') rfl rfl ?_ ⟨rfl, rfl⟩
        go_simp
      · have t0 : z.tmps[9]?.getD undef = .string al := (congrArg (fun z => z.getD undef) (hF.2.2 9 (by omega))).trans (by kernel_rfl)
        clear hv hF
        refine wpOp_value (v := .string al) (w' := w') rfl rfl ?_ ⟨rfl, rfl⟩
        go_simp
      · cases hr
      · cases hr
    case hrow =>
      intro i r hi hr z w' hB hF hv hrs
      rcases (show i = 0 ∨ i = 1 ∨ i = 2 ∨ i = 3 ∨ i = 4 ∨ i = 5 ∨ i = 6 by omega) with rfl | rfl | rfl | rfl | rfl | rfl | rfl
      · cases hr
      · cases hr
      · have t0 : z.tmps[41]?.getD undef = .agg #[.int .i64 a', .int .i64 b', .int .i64 c', .int .i64 d', .int .i64 e'] := hv 0 (of_decide_eq_true (by kernel_rfl)) (by omega) rfl
        have t1 : z.tmps[42]?.getD undef = .slice (some ⟨g1, 0, none⟩) m cap1 := hv 1 (of_decide_eq_true (by kernel_rfl)) (by omega) rfl
        injection hr with hr
        subst hr
        clear hv hF hrs
        refine wpOp_call (f := 13) (args := #[.agg #[.int .i64 a', .int .i64 b', .int .i64 c', .int .i64 d', .int .i64 e'], .slice (some ⟨g1, 0, none⟩) m cap1]) rfl rfl (by go_simp) ((HCUTA.out w' hB).mono ?_)
        rintro e w'' ⟨p, cap, rfl, hown, hb⟩
        exact ⟨_, rfl, _, rfl, hown, hb⟩
      · cases hr
      · cases hr
      · have t0 : z.tmps[45]?.getD undef = .string al := hv 4 (of_decide_eq_true (by kernel_rfl)) (by omega) rfl
        injection hr with hr
        subst hr
        clear hv hF hrs
        refine wpOp_value (v := .slice (some ⟨w'.heap.size, 0, none⟩) 1 1) (w' := w'.alloc (.cells #[.string al] 9)) rfl rfl ?_ ⟨_, rfl, own_one w' al, (Below.refl _ _).alloc (Nat.le_refl _) _⟩
        go_simp
      · have t0 : z.tmps[44]?.getD undef = .agg #[.int .i64 a', .int .i64 b', .int .i64 c', .int .i64 d', .int .i64 e'] := hv 3 (of_decide_eq_true (by kernel_rfl)) (by omega) rfl
        obtain ⟨v, hv5, hrow⟩ := hrs 5 (of_decide_eq_true (by kernel_rfl)) (by omega) _ rfl
        obtain ⟨p5, c5', rfl, hcall⟩ := HCUTB.out w' v hB hrow
        have t1 : z.tmps[46]?.getD undef = .slice p5 1 c5' := hv5
        injection hr with hr
        subst hr
        clear hv hF hrs hv5 hrow
        refine wpOp_call (f := 13) (args := #[.agg #[.int .i64 a', .int .i64 b', .int .i64 c', .int .i64 d', .int .i64 e'], .slice p5 1 c5']) rfl rfl (by go_simp) (hcall.mono ?_)
        rintro e w'' ⟨p, cap, rfl, hown, hb⟩
        exact ⟨_, rfl, _, rfl, hown, hb⟩
    case hrest =>
      intro L f w' hL hJ
      obtain ⟨hB, -, hRR, hA⟩ := hJ
      have r2 := hRR 2 _ (by omega) (hL 2 (by omega)) rfl
      have r6 := hRR 6 _ (by omega) (hL 6 (by omega)) rfl
      have a1 := hA 2 6 _ _ (by omega) (by omega) (by omega) (hL 2 (by omega)) (hL 6 (by omega)) rfl rfl
      simp only at r2 r6
      obtain ⟨p2, d2, e2, -⟩ := row_slice' r2
      obtain ⟨p6, d6, e6, -⟩ := row_slice' r6
      rw [e2] at r2 a1
      rw [e6] at r6 a1
      refine wpOps_last2 (j1 := 2) (j2 := 6) rfl rfl (Nat.le_of_ble_eq_true (by kernel_rfl)) (by omega) (by omega) (by omega) e2 e6 ?_
      clear hL hRR hA e2 e6
      simp only [putAll, List.range, List.range.loop, List.foldl, Nat.reduceAdd, List.setIfInBounds_toArray, List.set_cons_succ, List.set_cons_zero]
      go_wp2_with fail
      go_meet
      exact ⟨p2, d2, p6, d6, rfl, rfl, r2, r6, a1, hB⟩
  case rest =>
  obtain ⟨pa, ca, pb, cb, rfl, rfl, hra, hrb, hapart, hb7⟩ := hcut
  obtain ⟨w7, rfl⟩ : ∃ w7, w7 = wc := ⟨_, rfl⟩
  have HB7 := Lib.hid (HB6.out.trans (hb7.mono HB6.out.size))
  have HBOOK7 := Lib.hid (HBOOK.out.below hb7 HBOOK.out.lt)
  have HK7 := Lib.hid (HK6.out.below hb7 HK6.out.lt)
  have HKX7 := Lib.hid (HKX6.out.below hb7 HKX6.out.lt)
  have HL7 := Lib.hid (HL6.out.below hb7)
  have HG6 : Hid (gb ≤ w6.heap.size) := Lib.hid (Nat.le_of_lt HBOOK.out.lt)
  have HRA := Lib.hid hra
  have HRB := Lib.hid hrb
  have HAPT := Lib.hid hapart
  have HADD : Hid (Calls Try.prog 14 #[.pointer (some ⟨gb, 0, none⟩), .slice pa M ca] w7 fun e w' => e = .returned (.tuple #[]) ∧ SpansAt gb gb 1 [⟨pa, ca, cs⟩] w' ∧ Below gb w7 w' ∧ ∀ b, b < w7.heap.size → b ≠ gb → w'.heap[b]? = w7.heap[b]?) := Lib.hid (by
    have hv : (LS.mk pa ca cs).val = .slice pa M ca := by unfold LS.val; rw [← HM.out]
    have h := spans_first HBOOK7.out (Nat.le_refl _) ⟨pa, ca, cs⟩ w6.heap.size HG6.out (by rw [hv]; simp only; rw [← HM.out]; exact HRA.out) (by simp only; rw [← HM.out]; omega)
    rw [hv] at h
    exact h)
  clear hra hrb hapart hb7 HBOOK HK6 HKX6 HL6 HCUTA HCUTB HC6
  go_wp2_with fail
  refine HADD.out.mono ?_
  rintro e w8 ⟨rfl, hat8, hb8, hsame8⟩
  have HB8 := Lib.hid (HB7.out.trans (hb8.mono HGB.out.1))
  have HAT8 := Lib.hid hat8
  have HK8 := Lib.hid (HK7.out.below hb8 HGB.out.2.1)
  have HKX8 := Lib.hid (HKX7.out.below hb8 HGB.out.2.2.1)
  have HL8 := Lib.hid (HL7.out.same hb8.size (hb8.block g1 HGB.out.2.2.2.1))
  have HRA8 : Hid (w8.ownsRow w6.heap.size 52 2 (.slice pa M ca) M (flatS cs)) := Lib.hid (row_kept' HRA.out fun k hk => hsame8 k (HRA.out.lt k hk).2 (fun e => row_off HRA.out HBOOK7.out (by decide) (by rw [← e]; exact hk)))
  have HRB8 : Hid (w8.ownsRow w6.heap.size 52 2 (.slice pb M cb) M (flatS cs)) := Lib.hid (row_kept' HRB.out fun k hk => hsame8 k (HRB.out.lt k hk).2 (fun e => row_off HRB.out HBOOK7.out (by decide) (by rw [← e]; exact hk)))
  have HADD2 : Hid (Calls Try.prog 14 #[.pointer (some ⟨gb, 0, none⟩), .slice pb M cb] w8 fun e w' => e = .returned (.tuple #[]) ∧ SpansAt gb gb 2 [⟨pa, ca, cs⟩, ⟨pb, cb, cs⟩] w' ∧ Below gb w8 w' ∧ BookLeavesS w8 w') := Lib.hid (by
    have hva : (LS.mk pa ca cs).val = .slice pa M ca := by unfold LS.val; rw [← HM.out]
    have hv : (LS.mk pb cb cs).val = .slice pb M cb := by unfold LS.val; rw [← HM.out]
    have h := HAT8.out.addOff ⟨pb, cb, cs⟩ w6.heap.size HG6.out (by rw [hv]; simp only; rw [← HM.out]; exact HRB8.out) (fun l' hl' b hb => by
      rw [List.mem_singleton.1 hl', hva] at hb
      rw [hv]
      exact HAPT.out b hb) (by omega) (by simp only; rw [← HM.out]; omega)
    rw [hv] at h
    exact h)
  clear hat8 hb8 hsame8 HADD HRA HRB HK7 HKX7 HL7 HBOOK7
  go_wp2_with fail
  refine HADD2.out.mono ?_
  rintro e w9 ⟨rfl, hat9, hb9, hlv9⟩
  have HB9 := Lib.hid (HB8.out.trans (hb9.mono HGB.out.1))
  have HAT9 := Lib.hid hat9
  have HK9 := Lib.hid (HK8.out.below hb9 HGB.out.2.1)
  have HKX9 := Lib.hid (HKX8.out.below hb9 HGB.out.2.2.1)
  have HL9 := Lib.hid (HL8.out.same hb9.size (hb9.block g1 HGB.out.2.2.2.1))
  have HRA9 := Lib.hid (hlv9.row HRA8.out (by decide) (by decide))
  have HRB9 := Lib.hid (hlv9.row HRB8.out (by decide) (by decide))
  have hrc := rcut_any ⟨a', b', c', d', e'⟩ al w9 (by have := HJS.out; omega)
  rw [HALD.out, ← HCS.out, ← HM.out] at hrc
  have HRC := Lib.hid hrc
  unfold RuleN.val at HRC
  simp only at HRC
  have c0 : w9.cell? ⟨gx, 0, none⟩ = some (.int .i64 a') := HKX9.out.cell 0
  have c1 : w9.cell? ⟨gx, 1, none⟩ = some (.int .i64 b') := HKX9.out.cell 1
  have c2 : w9.cell? ⟨gx, 2, none⟩ = some (.int .i64 c') := HKX9.out.cell 2
  have c3 : w9.cell? ⟨gx, 3, none⟩ = some (.int .i64 d') := HKX9.out.cell 3
  have c4 : w9.cell? ⟨gx, 4, none⟩ = some (.int .i64 e') := HKX9.out.cell 4
  clear hat9 hb9 hlv9 HADD2 HRA8 HRB8 HK8 HKX8 HL8 hrc
  go_wp2_with fail
  refine HRC.out.mono ?_
  rintro e w10 ⟨pw, cw, rfl, hrw, hb10⟩
  have HB10 := Lib.hid (HB9.out.trans (hb10.mono HB9.out.size))
  have HRW := Lib.hid hrw
  have HK10 := Lib.hid (HK9.out.below hb10 HK9.out.lt)
  have HKX10 := Lib.hid (HKX9.out.below hb10 HKX9.out.lt)
  have HL10 := Lib.hid (HL9.out.below hb10)
  have HAT10 := Lib.hid (HAT9.out.below hb10)
  have HSA : Hid (Spans w10 w10.heap.size pa cs) := Lib.hid (row_spans (by rw [← HM.out]; exact row_below HRA9.out hb10))
  have HSB : Hid (Spans w10 w10.heap.size pb cs) := Lib.hid (row_spans (by rw [← HM.out]; exact row_below HRB9.out hb10))
  have HSW : Hid (Spans w10 w10.heap.size pw cs) := Lib.hid (row_spans (by rw [← HM.out]; exact HRW.out))
  obtain ⟨V, hV⟩ : ∃ V, V = (RuleN.mk a' b' c' d' e').ok := ⟨_, rfl⟩
  obtain ⟨n1, hn1⟩ : ∃ n, n = firstL ⟨a', b', c', d', e'⟩ al.data.toList := ⟨_, rfl⟩
  have halz : al.size ≤ 140737488351232 := by have := HJS.out; omega
  have HV1 : Hid (∀ w', Below w10.heap.size w10 w' → Calls Try.prog 16 #[.agg #[.int .i64 a', .int .i64 b', .int .i64 c', .int .i64 d', .int .i64 e']] w' fun e w'' => e = .returned (.bool V) ∧ GoTells gb 31 1 w' w'') := Lib.hid (fun w' _ => by
    have h := cvalid_any ⟨a', b', c', d', e'⟩ w'
    rw [← hV] at h
    exact h.mono fun e w'' ⟨he, hb⟩ => ⟨he, .make (by omega) hb⟩)
  have HV2 : Hid (∀ w', Below w10.heap.size w10 w' → Calls Try.prog 17 #[.agg #[.int .i64 a', .int .i64 b', .int .i64 c', .int .i64 d', .int .i64 e']] w' fun e w'' => e = .returned (.bool V) ∧ GoTells gb 31 3 w' w'') := Lib.hid (fun w' _ => by
    have h := rvalid_any ⟨a', b', c', d', e'⟩ w'
    rw [← hV] at h
    exact h.mono fun e w'' ⟨he, hb⟩ => ⟨he, .make (by omega) hb⟩)
  have HF1 : Hid (∀ w', Below w10.heap.size w10 w' → Calls Try.prog 18 #[.agg #[.int .i64 a', .int .i64 b', .int .i64 c', .int .i64 d', .int .i64 e'], .string al] w' fun e w'' => e = .returned (.int .i64 (n1 : Int)) ∧ GoTells gb 31 8 w' w'') := Lib.hid (fun w' _ => by
    have h := cfirst_any ⟨a', b', c', d', e'⟩ al w' halz
    rw [← hn1] at h
    exact h.mono fun e w'' ⟨he, hb⟩ => ⟨he, .make (by omega) hb⟩)
  have HF2 : Hid (∀ w', Below w10.heap.size w10 w' → Calls Try.prog 19 #[.agg #[.int .i64 a', .int .i64 b', .int .i64 c', .int .i64 d', .int .i64 e'], .string al] w' fun e w'' => e = .returned (.int .i64 (n1 : Int)) ∧ GoTells gb 31 11 w' w'') := Lib.hid (fun w' _ => by
    have h := rfirst_any ⟨a', b', c', d', e'⟩ al w' halz
    rw [← hn1] at h
    exact h.mono fun e w'' ⟨he, hb⟩ => ⟨he, .make (by omega) hb⟩)
  have HS1 : Hid (∀ w', Below w10.heap.size w10 w' → Calls Try.prog 20 #[.slice pa M ca, .slice pw M cw] w' fun e w'' => e = .returned (.bool true) ∧ GoTells gb 31 17 w' w'') := Lib.hid (fun w' hw =>
    (ssame_any pa pw M ca cw cs w' HM.out.symm ((HSA.out.below hw).more hw.size) ((HSW.out.below hw).more hw.size) (by omega)).mono fun e w'' ⟨he, q, hq⟩ => ⟨he, .make (by omega) (by rw [hq]; exact below_dn _ _)⟩)
  have HS2 : Hid (∀ w', Below w10.heap.size w10 w' → Calls Try.prog 20 #[.slice pb M cb, .slice pw M cw] w' fun e w'' => e = .returned (.bool true) ∧ GoTells gb 31 22 w' w'') := Lib.hid (fun w' hw =>
    (ssame_any pb pw M cb cw cs w' HM.out.symm ((HSB.out.below hw).more hw.size) ((HSW.out.below hw).more hw.size) (by omega)).mono fun e w'' ⟨he, q, hq⟩ => ⟨he, .make (by omega) (by rw [hq]; exact below_dn _ _)⟩)
  have HST : Hid (∀ w', Below w10.heap.size w10 w' → Calls Try.prog 21 #[.slice (some ⟨g1, 0, none⟩) m cap1, .slice A m c] w' fun e w'' => e = .returned (.bool true) ∧ GoTells gb 31 27 w' w'') := Lib.hid (fun w' hw => by
    have hbw := HB10.out.trans (hw.mono HB10.out.size)
    exact (stays_any g1 cap1 A m c xs w4.heap.size w' HIN.out.len (HL10.out.below hw) ((HIN.out.lie.below hbw).more hbw.size) (by omega)).mono fun e w'' ⟨he, q, hq⟩ => ⟨he, .make (by omega) (by rw [hq]; exact below_dn _ _)⟩)
  have HAP : Hid (∀ w', Below w10.heap.size w10 w' → Calls Try.prog 22 #[.pointer (some ⟨gb, 0, none⟩)] w' fun e w'' => e = .returned (.bool true) ∧ GoTells gb 31 31 w' w'') := Lib.hid (fun w' hw =>
    ((HAT10.out.below hw).apart (by omega)).mono fun e w'' ⟨he, hb⟩ => ⟨he, .last hb⟩)
  have HC : Hid (∀ w', Below w10.heap.size w10 w' → w'.cell? ⟨gr, 0, none⟩ = some (.int .i64 a') ∧ w'.cell? ⟨gr, 1, none⟩ = some (.int .i64 b') ∧ w'.cell? ⟨gr, 2, none⟩ = some (.int .i64 c') ∧ w'.cell? ⟨gr, 3, none⟩ = some (.int .i64 d') ∧ w'.cell? ⟨gr, 4, none⟩ = some (.int .i64 e') ∧ w'.cell? ⟨gx, 0, none⟩ = some (.int .i64 a') ∧ w'.cell? ⟨gx, 1, none⟩ = some (.int .i64 b') ∧ w'.cell? ⟨gx, 2, none⟩ = some (.int .i64 c') ∧ w'.cell? ⟨gx, 3, none⟩ = some (.int .i64 d') ∧ w'.cell? ⟨gx, 4, none⟩ = some (.int .i64 e')) := Lib.hid (fun w' hw => by
    have hk := HK10.out.below hw HK10.out.lt
    have hx := HKX10.out.below hw HKX10.out.lt
    exact ⟨hk.cell 0, hk.cell 1, hk.cell 2, hk.cell 3, hk.cell 4, hx.cell 0, hx.cell 1, hx.cell 2, hx.cell 3, hx.cell 4⟩)
  have HVV : Hid ((V == V) = true) := Lib.hid (by simp)
  clear hrw hb10 c0 c1 c2 c3 c4 hV hn1 halz HRC HRA9 HRB9 HK9 HKX9 HL9 HAT9
  go_upto_region 13 with fail
  refine wp_region_loosely 34 [some 57, some 58, some 59, some 60, some 61, some 62, some 63, some 64, some 65, some 66, some 67, some 68, some 69, some 70, some 71, some 72, some 73, some 74, some 75, some 76, some 77, some 78, some 79, some 80, some 81, some 82, some 83, some 84, some 85, some 86, some 87, some 88, some 89, some 6] [some (.agg #[.int .i64 a', .int .i64 b', .int .i64 c', .int .i64 d', .int .i64 e']), some (.bool V), some (.agg #[.int .i64 a', .int .i64 b', .int .i64 c', .int .i64 d', .int .i64 e']), some (.bool V), some (.bool true), some (.bool true), some (.agg #[.int .i64 a', .int .i64 b', .int .i64 c', .int .i64 d', .int .i64 e']), some (.string al), some (.int .i64 (n1 : Int)), some (.agg #[.int .i64 a', .int .i64 b', .int .i64 c', .int .i64 d', .int .i64 e']), some (.string al), some (.int .i64 (n1 : Int)), some (.bool true), some (.bool true), some (.bool true), some (.slice pa M ca), some (.slice pw M cw), some (.bool true), some (.bool true), some (.bool true), some (.slice pb M cb), some (.slice pw M cw), some (.bool true), some (.bool true), some (.bool true), some (.slice (some ⟨g1, 0, none⟩) m cap1), some (.slice A m c), some (.bool true), some (.bool true), some (.bool true), some (.pointer (some ⟨gb, 0, none⟩)), some (.bool true), some (.bool true), some (.bool true)] (fun L w' => (L 31 = false → Below w10.heap.size w10 w') ∧ Below w.heap.size w w') (fun o w w' => GoTells gb 31 o w w') (fun _ _ _ _ => True) (by kernel_rfl) (by kernel_rfl) rfl (by kernel_rfl) (by kernel_rfl) ?hM ?hJ ⟨fun _ => below_dn _ 1, HB10.out.trans (below_dn _ 1)⟩ ?hops ?hrest
  case hM =>
    exact fun _ _ _ _ _ _ _ _ _ _ _ _ _ => trivial
  case hJ =>
    intro L o v v' hLo hj hg
    refine ⟨fun hL => ?_, hj.2.trans (hg.low (HGB.out.1) (by have := hj.2.size; omega))⟩
    have hL' : (if o = 31 then true else L 31) = false := hL
    by_cases e : o = 31
    · rw [if_pos e] at hL'; cases hL'
    · rw [if_neg e] at hL'
      have h1 := hj.1 hL'
      exact h1.trans ((hg.high e).mono h1.size)
  case hops =>
    intro o ho L f x' w2 hcl hfr hLo hj hw
    rcases (show o = 0 ∨ o = 1 ∨ o = 2 ∨ o = 3 ∨ o = 4 ∨ o = 5 ∨ o = 6 ∨ o = 7 ∨ o = 8 ∨ o = 9 ∨ o = 10 ∨ o = 11 ∨ o = 12 ∨ o = 13 ∨ o = 14 ∨ o = 15 ∨ o = 16 ∨ o = 17 ∨ o = 18 ∨ o = 19 ∨ o = 20 ∨ o = 21 ∨ o = 22 ∨ o = 23 ∨ o = 24 ∨ o = 25 ∨ o = 26 ∨ o = 27 ∨ o = 28 ∨ o = 29 ∨ o = 30 ∨ o = 31 ∨ o = 32 ∨ o = 33 by omega) with rfl | rfl | rfl | rfl | rfl | rfl | rfl | rfl | rfl | rfl | rfl | rfl | rfl | rfl | rfl | rfl | rfl | rfl | rfl | rfl | rfl | rfl | rfl | rfl | rfl | rfl | rfl | rfl | rfl | rfl | rfl | rfl | rfl | rfl
    · have e1 : x'.tmps[3]?.getD undef = .pointer (some ⟨gr, 0, none⟩) := by rw [hfr 3 (slL_far (by kernel_rfl))]; rfl
      have hap : L 31 = false := not_yet 31 (by kernel_rfl) hcl (by omega : 0 < 31) hLo
      have hjb := hj.1 hap
      obtain ⟨z0, z1, z2, z3, z4, -, -, -, -, -⟩ := HC.out w2 hjb
      clear hw hfr hcl hLo
      refine wpOp_on (v := .agg #[.int .i64 a', .int .i64 b', .int .i64 c', .int .i64 d', .int .i64 e']) (w' := w2) rfl (wanted_none rfl) ?_ ⟨_, rfl, (GoTells.refl (by omega)), .known rfl trivial⟩
      go_simp
    · have e1 : x'.tmps[57]?.getD undef = .agg #[.int .i64 a', .int .i64 b', .int .i64 c', .int .i64 d', .int .i64 e'] := (hw 0 (of_decide_eq_true (by kernel_rfl))).is rfl rfl
      have hap : L 31 = false := not_yet 31 (by kernel_rfl) hcl (by omega : 1 < 31) hLo
      have hjb := hj.1 hap
      clear hw hfr hcl hLo
      refine wpOp_enter (f := 16) (args := #[.agg #[.int .i64 a', .int .i64 b', .int .i64 c', .int .i64 d', .int .i64 e']]) rfl (wanted_none rfl) (by go_simp) ((HV1.out w2 hjb).mono ?_)
      rintro e wy ⟨rfl, hb⟩
      exact ⟨_, rfl, _, rfl, hb, .known rfl trivial⟩
    · have e1 : x'.tmps[7]?.getD undef = .pointer (some ⟨gx, 0, none⟩) := by rw [hfr 7 (slL_far (by kernel_rfl))]; rfl
      have hap : L 31 = false := not_yet 31 (by kernel_rfl) hcl (by omega : 2 < 31) hLo
      have hjb := hj.1 hap
      obtain ⟨-, -, -, -, -, z0, z1, z2, z3, z4⟩ := HC.out w2 hjb
      clear hw hfr hcl hLo
      refine wpOp_on (v := .agg #[.int .i64 a', .int .i64 b', .int .i64 c', .int .i64 d', .int .i64 e']) (w' := w2) rfl (wanted_none rfl) ?_ ⟨_, rfl, (GoTells.refl (by omega)), .known rfl trivial⟩
      go_simp
    · have e1 : x'.tmps[59]?.getD undef = .agg #[.int .i64 a', .int .i64 b', .int .i64 c', .int .i64 d', .int .i64 e'] := (hw 2 (of_decide_eq_true (by kernel_rfl))).is rfl rfl
      have hap : L 31 = false := not_yet 31 (by kernel_rfl) hcl (by omega : 3 < 31) hLo
      have hjb := hj.1 hap
      clear hw hfr hcl hLo
      refine wpOp_enter (f := 17) (args := #[.agg #[.int .i64 a', .int .i64 b', .int .i64 c', .int .i64 d', .int .i64 e']]) rfl (wanted_none rfl) (by go_simp) ((HV2.out w2 hjb).mono ?_)
      rintro e wy ⟨rfl, hb⟩
      exact ⟨_, rfl, _, rfl, hb, .known rfl trivial⟩
    · have e1 : x'.tmps[58]?.getD undef = .bool V := (hw 1 (of_decide_eq_true (by kernel_rfl))).is rfl rfl
      have e2 : x'.tmps[60]?.getD undef = .bool V := (hw 3 (of_decide_eq_true (by kernel_rfl))).is rfl rfl
      have hVV := HVV.out
      clear hw hfr hcl hLo
      refine wpOp_on (v := .bool true) (w' := w2) rfl (wanted_none rfl) ?_ ⟨_, rfl, (GoTells.refl (by omega)), .known rfl trivial⟩
      go_simp
    · have e1 : x'.tmps[61]?.getD undef = .bool true := (hw 4 (of_decide_eq_true (by kernel_rfl))).is rfl rfl
      clear hw hfr hcl hLo
      refine wpOp_on (v := .bool true) (w' := w2) rfl (wanted_none rfl) ?_ ⟨_, rfl, (GoTells.refl (by omega)), .known rfl trivial⟩
      go_simp
    · have eg : x'.tmps[62]?.getD undef = .bool true := (hw 5 (of_decide_eq_true (by kernel_rfl))).is rfl rfl
      have e1 : x'.tmps[3]?.getD undef = .pointer (some ⟨gr, 0, none⟩) := by rw [hfr 3 (slL_far (by kernel_rfl))]; rfl
      have hap : L 31 = false := not_yet 31 (by kernel_rfl) hcl (by omega : 6 < 31) hLo
      have hjb := hj.1 hap
      obtain ⟨z0, z1, z2, z3, z4, -, -, -, -, -⟩ := HC.out w2 hjb
      clear hw hfr hcl hLo
      refine wpOp_on (v := .agg #[.int .i64 a', .int .i64 b', .int .i64 c', .int .i64 d', .int .i64 e']) (w' := w2) rfl (guard_is (b := true) rfl rfl eg) ?_ ⟨_, rfl, (GoTells.refl (by omega)), .known rfl trivial⟩
      go_simp
    · have eg : x'.tmps[62]?.getD undef = .bool true := (hw 5 (of_decide_eq_true (by kernel_rfl))).is rfl rfl
      have e1 : x'.tmps[9]?.getD undef = .string al := by rw [hfr 9 (slL_far (by kernel_rfl))]; rfl
      clear hw hfr hcl hLo
      refine wpOp_on (v := .string al) (w' := w2) rfl (guard_is (b := true) rfl rfl eg) ?_ ⟨_, rfl, (GoTells.refl (by omega)), .known rfl trivial⟩
      go_simp
    · have eg : x'.tmps[62]?.getD undef = .bool true := (hw 5 (of_decide_eq_true (by kernel_rfl))).is rfl rfl
      have e1 : x'.tmps[63]?.getD undef = .agg #[.int .i64 a', .int .i64 b', .int .i64 c', .int .i64 d', .int .i64 e'] := (hw 6 (of_decide_eq_true (by kernel_rfl))).is rfl rfl
      have e2 : x'.tmps[64]?.getD undef = .string al := (hw 7 (of_decide_eq_true (by kernel_rfl))).is rfl rfl
      have hap : L 31 = false := not_yet 31 (by kernel_rfl) hcl (by omega : 8 < 31) hLo
      have hjb := hj.1 hap
      clear hw hfr hcl hLo
      refine wpOp_enter (f := 18) (args := #[.agg #[.int .i64 a', .int .i64 b', .int .i64 c', .int .i64 d', .int .i64 e'], .string al]) rfl (guard_is (b := true) rfl rfl eg) (by go_simp) ((HF1.out w2 hjb).mono ?_)
      rintro e wy ⟨rfl, hb⟩
      exact ⟨_, rfl, _, rfl, hb, .known rfl trivial⟩
    · have eg : x'.tmps[62]?.getD undef = .bool true := (hw 5 (of_decide_eq_true (by kernel_rfl))).is rfl rfl
      have e1 : x'.tmps[7]?.getD undef = .pointer (some ⟨gx, 0, none⟩) := by rw [hfr 7 (slL_far (by kernel_rfl))]; rfl
      have hap : L 31 = false := not_yet 31 (by kernel_rfl) hcl (by omega : 9 < 31) hLo
      have hjb := hj.1 hap
      obtain ⟨-, -, -, -, -, z0, z1, z2, z3, z4⟩ := HC.out w2 hjb
      clear hw hfr hcl hLo
      refine wpOp_on (v := .agg #[.int .i64 a', .int .i64 b', .int .i64 c', .int .i64 d', .int .i64 e']) (w' := w2) rfl (guard_is (b := true) rfl rfl eg) ?_ ⟨_, rfl, (GoTells.refl (by omega)), .known rfl trivial⟩
      go_simp
    · have eg : x'.tmps[62]?.getD undef = .bool true := (hw 5 (of_decide_eq_true (by kernel_rfl))).is rfl rfl
      have e1 : x'.tmps[9]?.getD undef = .string al := by rw [hfr 9 (slL_far (by kernel_rfl))]; rfl
      clear hw hfr hcl hLo
      refine wpOp_on (v := .string al) (w' := w2) rfl (guard_is (b := true) rfl rfl eg) ?_ ⟨_, rfl, (GoTells.refl (by omega)), .known rfl trivial⟩
      go_simp
    · have eg : x'.tmps[62]?.getD undef = .bool true := (hw 5 (of_decide_eq_true (by kernel_rfl))).is rfl rfl
      have e1 : x'.tmps[66]?.getD undef = .agg #[.int .i64 a', .int .i64 b', .int .i64 c', .int .i64 d', .int .i64 e'] := (hw 9 (of_decide_eq_true (by kernel_rfl))).is rfl rfl
      have e2 : x'.tmps[67]?.getD undef = .string al := (hw 10 (of_decide_eq_true (by kernel_rfl))).is rfl rfl
      have hap : L 31 = false := not_yet 31 (by kernel_rfl) hcl (by omega : 11 < 31) hLo
      have hjb := hj.1 hap
      clear hw hfr hcl hLo
      refine wpOp_enter (f := 19) (args := #[.agg #[.int .i64 a', .int .i64 b', .int .i64 c', .int .i64 d', .int .i64 e'], .string al]) rfl (guard_is (b := true) rfl rfl eg) (by go_simp) ((HF2.out w2 hjb).mono ?_)
      rintro e wy ⟨rfl, hb⟩
      exact ⟨_, rfl, _, rfl, hb, .known rfl trivial⟩
    · have eg : x'.tmps[62]?.getD undef = .bool true := (hw 5 (of_decide_eq_true (by kernel_rfl))).is rfl rfl
      have e1 : x'.tmps[65]?.getD undef = .int .i64 (n1 : Int) := (hw 8 (of_decide_eq_true (by kernel_rfl))).is rfl rfl
      have e2 : x'.tmps[68]?.getD undef = .int .i64 (n1 : Int) := (hw 11 (of_decide_eq_true (by kernel_rfl))).is rfl rfl
      clear hw hfr hcl hLo
      refine wpOp_on (v := .bool true) (w' := w2) rfl (guard_is (b := true) rfl rfl eg) ?_ ⟨_, rfl, (GoTells.refl (by omega)), .known rfl trivial⟩
      go_simp
    · have e1 : x'.tmps[62]?.getD undef = .bool true := (hw 5 (of_decide_eq_true (by kernel_rfl))).is rfl rfl
      have e2 : x'.tmps[69]?.getD undef = .bool true := (hw 12 (of_decide_eq_true (by kernel_rfl))).is rfl rfl
      clear hw hfr hcl hLo
      refine wpOp_on (v := .bool true) (w' := w2) rfl (wanted_none rfl) ?_ ⟨_, rfl, (GoTells.refl (by omega)), .known rfl trivial⟩
      go_simp
    · have e1 : x'.tmps[70]?.getD undef = .bool true := (hw 13 (of_decide_eq_true (by kernel_rfl))).is rfl rfl
      clear hw hfr hcl hLo
      refine wpOp_on (v := .bool true) (w' := w2) rfl (wanted_none rfl) ?_ ⟨_, rfl, (GoTells.refl (by omega)), .known rfl trivial⟩
      go_simp
    · have eg : x'.tmps[71]?.getD undef = .bool true := (hw 14 (of_decide_eq_true (by kernel_rfl))).is rfl rfl
      have e1 : x'.tmps[11]?.getD undef = .slice pa M ca := by rw [hfr 11 (slL_far (by kernel_rfl))]; rfl
      clear hw hfr hcl hLo
      refine wpOp_on (v := .slice pa M ca) (w' := w2) rfl (guard_is (b := true) rfl rfl eg) ?_ ⟨_, rfl, (GoTells.refl (by omega)), .known rfl trivial⟩
      go_simp
    · have eg : x'.tmps[71]?.getD undef = .bool true := (hw 14 (of_decide_eq_true (by kernel_rfl))).is rfl rfl
      have e1 : x'.tmps[13]?.getD undef = .slice pw M cw := by rw [hfr 13 (slL_far (by kernel_rfl))]; rfl
      clear hw hfr hcl hLo
      refine wpOp_on (v := .slice pw M cw) (w' := w2) rfl (guard_is (b := true) rfl rfl eg) ?_ ⟨_, rfl, (GoTells.refl (by omega)), .known rfl trivial⟩
      go_simp
    · have eg : x'.tmps[71]?.getD undef = .bool true := (hw 14 (of_decide_eq_true (by kernel_rfl))).is rfl rfl
      have e1 : x'.tmps[72]?.getD undef = .slice pa M ca := (hw 15 (of_decide_eq_true (by kernel_rfl))).is rfl rfl
      have e2 : x'.tmps[73]?.getD undef = .slice pw M cw := (hw 16 (of_decide_eq_true (by kernel_rfl))).is rfl rfl
      have hap : L 31 = false := not_yet 31 (by kernel_rfl) hcl (by omega : 17 < 31) hLo
      have hjb := hj.1 hap
      clear hw hfr hcl hLo
      refine wpOp_enter (f := 20) (args := #[.slice pa M ca, .slice pw M cw]) rfl (guard_is (b := true) rfl rfl eg) (by go_simp) ((HS1.out w2 hjb).mono ?_)
      rintro e wy ⟨rfl, hb⟩
      exact ⟨_, rfl, _, rfl, hb, .known rfl trivial⟩
    · have e1 : x'.tmps[71]?.getD undef = .bool true := (hw 14 (of_decide_eq_true (by kernel_rfl))).is rfl rfl
      have e2 : x'.tmps[74]?.getD undef = .bool true := (hw 17 (of_decide_eq_true (by kernel_rfl))).is rfl rfl
      clear hw hfr hcl hLo
      refine wpOp_on (v := .bool true) (w' := w2) rfl (wanted_none rfl) ?_ ⟨_, rfl, (GoTells.refl (by omega)), .known rfl trivial⟩
      go_simp
    · have e1 : x'.tmps[75]?.getD undef = .bool true := (hw 18 (of_decide_eq_true (by kernel_rfl))).is rfl rfl
      clear hw hfr hcl hLo
      refine wpOp_on (v := .bool true) (w' := w2) rfl (wanted_none rfl) ?_ ⟨_, rfl, (GoTells.refl (by omega)), .known rfl trivial⟩
      go_simp
    · have eg : x'.tmps[76]?.getD undef = .bool true := (hw 19 (of_decide_eq_true (by kernel_rfl))).is rfl rfl
      have e1 : x'.tmps[12]?.getD undef = .slice pb M cb := by rw [hfr 12 (slL_far (by kernel_rfl))]; rfl
      clear hw hfr hcl hLo
      refine wpOp_on (v := .slice pb M cb) (w' := w2) rfl (guard_is (b := true) rfl rfl eg) ?_ ⟨_, rfl, (GoTells.refl (by omega)), .known rfl trivial⟩
      go_simp
    · have eg : x'.tmps[76]?.getD undef = .bool true := (hw 19 (of_decide_eq_true (by kernel_rfl))).is rfl rfl
      have e1 : x'.tmps[13]?.getD undef = .slice pw M cw := by rw [hfr 13 (slL_far (by kernel_rfl))]; rfl
      clear hw hfr hcl hLo
      refine wpOp_on (v := .slice pw M cw) (w' := w2) rfl (guard_is (b := true) rfl rfl eg) ?_ ⟨_, rfl, (GoTells.refl (by omega)), .known rfl trivial⟩
      go_simp
    · have eg : x'.tmps[76]?.getD undef = .bool true := (hw 19 (of_decide_eq_true (by kernel_rfl))).is rfl rfl
      have e1 : x'.tmps[77]?.getD undef = .slice pb M cb := (hw 20 (of_decide_eq_true (by kernel_rfl))).is rfl rfl
      have e2 : x'.tmps[78]?.getD undef = .slice pw M cw := (hw 21 (of_decide_eq_true (by kernel_rfl))).is rfl rfl
      have hap : L 31 = false := not_yet 31 (by kernel_rfl) hcl (by omega : 22 < 31) hLo
      have hjb := hj.1 hap
      clear hw hfr hcl hLo
      refine wpOp_enter (f := 20) (args := #[.slice pb M cb, .slice pw M cw]) rfl (guard_is (b := true) rfl rfl eg) (by go_simp) ((HS2.out w2 hjb).mono ?_)
      rintro e wy ⟨rfl, hb⟩
      exact ⟨_, rfl, _, rfl, hb, .known rfl trivial⟩
    · have e1 : x'.tmps[76]?.getD undef = .bool true := (hw 19 (of_decide_eq_true (by kernel_rfl))).is rfl rfl
      have e2 : x'.tmps[79]?.getD undef = .bool true := (hw 22 (of_decide_eq_true (by kernel_rfl))).is rfl rfl
      clear hw hfr hcl hLo
      refine wpOp_on (v := .bool true) (w' := w2) rfl (wanted_none rfl) ?_ ⟨_, rfl, (GoTells.refl (by omega)), .known rfl trivial⟩
      go_simp
    · have e1 : x'.tmps[80]?.getD undef = .bool true := (hw 23 (of_decide_eq_true (by kernel_rfl))).is rfl rfl
      clear hw hfr hcl hLo
      refine wpOp_on (v := .bool true) (w' := w2) rfl (wanted_none rfl) ?_ ⟨_, rfl, (GoTells.refl (by omega)), .known rfl trivial⟩
      go_simp
    · have eg : x'.tmps[81]?.getD undef = .bool true := (hw 24 (of_decide_eq_true (by kernel_rfl))).is rfl rfl
      have e1 : x'.tmps[8]?.getD undef = .slice (some ⟨g1, 0, none⟩) m cap1 := by rw [hfr 8 (slL_far (by kernel_rfl))]; rfl
      clear hw hfr hcl hLo
      refine wpOp_on (v := .slice (some ⟨g1, 0, none⟩) m cap1) (w' := w2) rfl (guard_is (b := true) rfl rfl eg) ?_ ⟨_, rfl, (GoTells.refl (by omega)), .known rfl trivial⟩
      go_simp
    · have eg : x'.tmps[81]?.getD undef = .bool true := (hw 24 (of_decide_eq_true (by kernel_rfl))).is rfl rfl
      have e1 : x'.tmps[2]?.getD undef = .slice A m c := by rw [hfr 2 (slL_far (by kernel_rfl))]; rfl
      clear hw hfr hcl hLo
      refine wpOp_on (v := .slice A m c) (w' := w2) rfl (guard_is (b := true) rfl rfl eg) ?_ ⟨_, rfl, (GoTells.refl (by omega)), .known rfl trivial⟩
      go_simp
    · have eg : x'.tmps[81]?.getD undef = .bool true := (hw 24 (of_decide_eq_true (by kernel_rfl))).is rfl rfl
      have e1 : x'.tmps[82]?.getD undef = .slice (some ⟨g1, 0, none⟩) m cap1 := (hw 25 (of_decide_eq_true (by kernel_rfl))).is rfl rfl
      have e2 : x'.tmps[83]?.getD undef = .slice A m c := (hw 26 (of_decide_eq_true (by kernel_rfl))).is rfl rfl
      have hap : L 31 = false := not_yet 31 (by kernel_rfl) hcl (by omega : 27 < 31) hLo
      have hjb := hj.1 hap
      clear hw hfr hcl hLo
      refine wpOp_enter (f := 21) (args := #[.slice (some ⟨g1, 0, none⟩) m cap1, .slice A m c]) rfl (guard_is (b := true) rfl rfl eg) (by go_simp) ((HST.out w2 hjb).mono ?_)
      rintro e wy ⟨rfl, hb⟩
      exact ⟨_, rfl, _, rfl, hb, .known rfl trivial⟩
    · have e1 : x'.tmps[81]?.getD undef = .bool true := (hw 24 (of_decide_eq_true (by kernel_rfl))).is rfl rfl
      have e2 : x'.tmps[84]?.getD undef = .bool true := (hw 27 (of_decide_eq_true (by kernel_rfl))).is rfl rfl
      clear hw hfr hcl hLo
      refine wpOp_on (v := .bool true) (w' := w2) rfl (wanted_none rfl) ?_ ⟨_, rfl, (GoTells.refl (by omega)), .known rfl trivial⟩
      go_simp
    · have e1 : x'.tmps[85]?.getD undef = .bool true := (hw 28 (of_decide_eq_true (by kernel_rfl))).is rfl rfl
      clear hw hfr hcl hLo
      refine wpOp_on (v := .bool true) (w' := w2) rfl (wanted_none rfl) ?_ ⟨_, rfl, (GoTells.refl (by omega)), .known rfl trivial⟩
      go_simp
    · have eg : x'.tmps[86]?.getD undef = .bool true := (hw 29 (of_decide_eq_true (by kernel_rfl))).is rfl rfl
      have e1 : x'.tmps[10]?.getD undef = .pointer (some ⟨gb, 0, none⟩) := by rw [hfr 10 (slL_far (by kernel_rfl))]; rfl
      clear hw hfr hcl hLo
      refine wpOp_on (v := .pointer (some ⟨gb, 0, none⟩)) (w' := w2) rfl (guard_is (b := true) rfl rfl eg) ?_ ⟨_, rfl, (GoTells.refl (by omega)), .known rfl trivial⟩
      go_simp
    · have eg : x'.tmps[86]?.getD undef = .bool true := (hw 29 (of_decide_eq_true (by kernel_rfl))).is rfl rfl
      have e1 : x'.tmps[87]?.getD undef = .pointer (some ⟨gb, 0, none⟩) := (hw 30 (of_decide_eq_true (by kernel_rfl))).is rfl rfl
      have hjb := hj.1 hLo
      clear hw hfr hcl hLo
      refine wpOp_enter (f := 22) (args := #[.pointer (some ⟨gb, 0, none⟩)]) rfl (guard_is (b := true) rfl rfl eg) (by go_simp) ((HAP.out w2 hjb).mono ?_)
      rintro e wy ⟨rfl, hb⟩
      exact ⟨_, rfl, _, rfl, hb, .known rfl trivial⟩
    · have e1 : x'.tmps[86]?.getD undef = .bool true := (hw 29 (of_decide_eq_true (by kernel_rfl))).is rfl rfl
      have e2 : x'.tmps[88]?.getD undef = .bool true := (hw 31 (of_decide_eq_true (by kernel_rfl))).is rfl rfl
      clear hw hfr hcl hLo
      refine wpOp_on (v := .bool true) (w' := w2) rfl (wanted_none rfl) ?_ ⟨_, rfl, (GoTells.refl (by omega)), .known rfl trivial⟩
      go_simp
    · have e1 : x'.tmps[89]?.getD undef = .bool true := (hw 32 (of_decide_eq_true (by kernel_rfl))).is rfl rfl
      clear hw hfr hcl hLo
      refine wpOp_on (v := .bool true) (w' := w2) rfl (wanted_none rfl) ?_ ⟨_, rfl, (GoTells.refl (by omega)), .known rfl trivial⟩
      go_simp
  case hrest =>
    intro L f wz hL hj hF
    have f33 : f 33 = .bool true := (hF 33 (by omega)).is rfl
    clear hF hL
    simp only [putSlots, slL, List.range, List.range.loop, List.foldl, List.getElem?_cons_zero, List.getElem?_cons_succ, Option.getD_some, List.setIfInBounds_toArray, List.set_cons_succ, List.set_cons_zero, f33]
    clear f33
    go_wp2_with fail
    go_ret
    exact ⟨rfl, hj.2⟩
end Go.Proofs.Ytnmdpbnddbccmaa
