/-
  SHA-256, the code's: the digest of texts.
-/
import Derived.Test.YtokddfbjjghpkaaDoorTwoMix
import Derived.Test.YtokddfbjjghpkaaDoorTwoText
import Derived.Test.YtokddfbjjghpkaaDoorJoin
import Derived.Test.YtokddfbjjghpkaaDoorOnePad
import Derived.Test.YtokddfbjjghpkaaDoorBookTexts
import Derived.Test.YtokddfbjjghpkaaDoorRegionStore
namespace Go.Proofs.YtokddfbjjghpkaaDoor
open Go.RowKit

theorem join_cats (xs : List ByteArray) : Lib.join (xs.map (·.data.toList)) [] = cats xs := by
  cases xs with
  | nil => rfl
  | cons x r =>
    rw [List.map_cons, Lib.join_cons]
    have h : Lib.joinTail [] (r.map (·.data.toList)) = cats r := by
      unfold Lib.joinTail cats
      rw [List.flatMap_def, List.map_map]
      rfl
    rw [h]
    simp [cats]
theorem sjoin_any (A : Option Addr) (m c : Nat) (xs : List ByteArray) (w : World) (hm : xs.length = m) (hx : Txts w w.heap.size A xs) (hc : m ≤ c) (hl : m ≤ 1000000) (hs : (cats xs).length ≤ 1000000) :
    Calls Tryd.prog 24 #[.slice A m c, .string ⟨#[]⟩] w fun e w' => e = .returned (.string (joined xs)) ∧ Below w.heap.size w w' := by
  subst hm
  by_cases h0 : xs.length = 0
  · obtain rfl := List.eq_nil_of_length_eq_zero h0
    exact (join_none A c ⟨#[]⟩ w).mono fun e w' ⟨h1, h2⟩ => ⟨h1, h2 ▸ Below.refl _ _⟩
  · obtain ⟨b, off, rfl, hb, hcs⟩ := hx (by omega)
    refine (join_some b off c xs ⟨#[]⟩ w hcs hb (by omega) hc (by rw [join_cats]; omega)).mono fun e w' ⟨h1, h2⟩ => ⟨?_, h2⟩
    rw [h1, join_cats]
    rfl

set_option maxRecDepth 100000 in
set_option maxHeartbeats 4000000 in
theorem sum_two (A : Option Addr) (m c : Nat) (xs : List ByteArray) (w : World) (hm : xs.length = m) (hx : Txts w w.heap.size A xs) (hc : m ≤ c) (hl : m ≤ 1000000) (hs : (cats xs).length ≤ 1000000) :
    Calls Tryd.prog 12 #[.slice A m c] w fun e w' => e = .returned (.string ⟨(twoB (cats xs)).toArray⟩) ∧ Below w.heap.size w w' := by
  obtain ⟨M, hM⟩ : ∃ M, M = joined xs := ⟨_, rfl⟩
  have HJ : Hid (Calls Tryd.prog 24 #[.slice A m c, .string ⟨#[]⟩] w fun e w' => e = .returned (.string M) ∧ Below w.heap.size w w') := Lib.hid (by rw [hM]; exact sjoin_any A m c xs w hm hx hc hl hs)
  have HML : Hid (M.data.toList = cats xs) := Lib.hid (by rw [hM]; rfl)
  obtain ⟨n, hn⟩ : ∃ n, n = M.size := ⟨_, rfl⟩
  have hn1 : n ≤ 1000000 := by rw [hn, hM, joined_size]; exact hs
  obtain ⟨z, hz⟩ : ∃ z, z = n % 64 := ⟨_, rfl⟩
  obtain ⟨u, hu⟩ : ∃ u, u = n - z := ⟨_, rfl⟩
  obtain ⟨q1, hq1⟩ : ∃ q, q = n / 64 := ⟨_, rfl⟩
  have hu64 : u = 64 * q1 := by omega
  have hun : u ≤ n := by omega
  obtain ⟨X, hX⟩ : ∃ X, X = M.extract 0 u := ⟨_, rfl⟩
  obtain ⟨R, hR⟩ : ∃ R, R = M.extract u M.size := ⟨_, rfl⟩
  have hXs : X.size = 64 * q1 := by rw [hX, ByteArray.size_extract]; omega
  obtain ⟨PB, hPB⟩ : ∃ PB : ByteArray, PB = ⟨(padB n).toArray⟩ := ⟨_, rfl⟩
  have hPs : PB.size = (padB n).length := by rw [hPB]; show (padB n).toArray.size = _; simp
  have hpw := padB_whole n
  have hpl : (padB n).length ≤ 72 := by have := zerosP_lt n; rw [padB_length]; omega
  rw [← hPs] at hpw hpl
  obtain ⟨RP, hRP⟩ : ∃ RP, RP = R ++ PB := ⟨_, rfl⟩
  have hRs : R.size = n - u := by rw [hR, ByteArray.size_extract]; omega
  have hRPs : RP.size = R.size + PB.size := by rw [hRP, ByteArray.size_append]
  obtain ⟨q2, hq2⟩ : ∃ q, q = RP.size / 64 := ⟨_, rfl⟩
  have hRP64 : RP.size = 64 * q2 := by omega
  obtain ⟨H1, hH1⟩ : ∃ H, H = hashF X.data.toList S8.init q1 := ⟨_, rfl⟩
  obtain ⟨H2, hH2⟩ : ∃ H, H = hashF RP.data.toList H1 q2 := ⟨_, rfl⟩
  have HT : Hid (H2.text = twoB (cats xs)) := Lib.hid (by
    have hl : X.data.toList.length = 64 * q1 := by rw [← Lib.size_eq]; exact hXs
    have e1 : H2 = hash2 (X.data.toList ++ RP.data.toList) (q1 + q2) := by rw [hash2_more _ _ q1 hl, hash2_hashF X.data.toList, hH2, hH1]
    have e2 : X.data.toList ++ RP.data.toList = cats xs ++ padB (cats xs).length := by
      rw [hRP, ByteArray.data_append, Array.toList_append, ← List.append_assoc, hPB, ← HML.out, ← Lib.size_eq, ← hn]
      congr 1
      rw [hX, hR, rest_list, ByteArray.data_extract, Array.toList_extract, List.extract_eq_take_drop, Nat.sub_zero, List.drop_zero, List.take_append_drop]
    have e3 : (cats xs ++ padB (cats xs).length).length / 64 = q1 + q2 := by rw [← e2, List.length_append, ← Lib.size_eq, ← Lib.size_eq]; omega
    unfold twoB
    rw [e3, ← e2, ← e1])
  have HM1 : Hid (∀ w, Calls Tryd.prog 25 #[.agg (s8Cells S8.init), .string X] w fun e w' => e = .returned (.agg (s8Cells H1)) ∧ Below w.heap.size w w') := Lib.hid (fun w => by rw [hH1]; exact mixed_code S8.init X q1 w init2_ok hXs (by omega))
  have HM2 : Hid (∀ w, Calls Tryd.prog 25 #[.agg (s8Cells H1), .string RP] w fun e w' => e = .returned (.agg (s8Cells H2)) ∧ Below w.heap.size w w') := Lib.hid (fun w => by rw [hH2]; exact mixed_code H1 RP q2 w (by rw [hH1]; exact hashF_ok _ init2_ok _) hRP64 (by omega))
  have HP : Hid (∀ w, Calls Tryd.prog 22 #[.int .i64 (n : Int)] w fun e w' => e = .returned (.string PB) ∧ Below w.heap.size w w') := Lib.hid (fun w => by rw [hPB]; exact opad_any n w (by omega))
  have hnM : (M.size : Int) = (n : Int) := by rw [hn]
  have hm1 : Int.tmod (n : Int) 64 = (z : Int) := by rw [Int.tmod_eq_emod_of_nonneg (by omega)]; omega
  have hm2 : (n : Int) % 64 = (z : Int) := by omega
  have hs1 : (n : Int) - (z : Int) = (u : Int) := by omega
  have hw1 : IntKind.i64.wrap (u : Int) = (u : Int) := IntWalk.i64_in _ (by omega)
  have HSX : Hid (∀ w3, (Instr.slice 9 (.string M) none (some (.int .i64 (u : Int))) none).run Tryd.prog w3 = .ok (.string X) w3) := Lib.hid (fun w3 => slice_head w3 M X u (by omega) hX.symm)
  have HSR : Hid (∀ w3, (Instr.slice 9 (.string M) (some (.int .i64 (u : Int))) none none).run Tryd.prog w3 = .ok (.string R) w3) := Lib.hid (fun w3 => slice_rest w3 M R u (by omega) hR.symm)
  have HCT : Hid (R.size + PB.size ≤ 9223372036854775807 ∧ R ++ PB = RP) := Lib.hid ⟨by omega, hRP.symm⟩
  have HS8 : Hid (∀ w, (sizeOf 59).run Tryd.prog w = .ok 8 w) := Lib.hid (fun w => by kernel_rfl)
  have HA8 : Hid (∀ w, (isAgg 59).run Tryd.prog w = .ok true w) := Lib.hid (fun w => by kernel_rfl)
  have HO8 : Hid (∀ s : S8, (s8Cells s).all (·.oneCell') = true) := Lib.hid (fun s => by unfold s8Cells wordCells; simp [Value.oneCell'])
  have HNM := Lib.hid hnM
  clear hM hn hz hu hq1 hu64 hX hR hXs hPB hPs hpw hpl hRP hRs hRPs hq2 hRP64 hH1 hH2 hx hs hm
  go_enter Tryd.func12, Tryd.ntmps12
  go_wp2_with (go_at_call 24; refine HJ.out.mono ?_; rintro e w1 ⟨rfl, hb1⟩)
  have HB1 := Lib.hid hb1
  clear hb1
  go_upto_region 3 with fail
  obtain ⟨IC, hIC⟩ : ∃ IC, IC = s8Cells S8.init := ⟨_, rfl⟩
  have hIC' : IC = #[Value.int .u32 1779033703, .int .u32 3144134277, .int .u32 1013904242, .int .u32 2773480762, .int .u32 1359893119, .int .u32 2600822924, .int .u32 528734635, .int .u32 1541459225] := hIC
  rw [← hIC']
  rw [← hIC] at HM1
  have HIS : Hid (IC.size = 8) := Lib.hid (by rw [hIC]; rfl)
  clear hIC hIC'
  obtain ⟨g, hg⟩ : ∃ g, g = w1.heap.size := ⟨_, rfl⟩
  have HW1 : Hid (Blk (w1.alloc (.cells IC 59)) g 59 IC ∧ Below w.heap.size w (w1.alloc (.cells IC 59)) ∧ w.heap.size ≤ g) := Lib.hid ⟨by rw [hg]; exact Blk.new w1 _ IC, HB1.out.alloc HB1.out.size _, by rw [hg]; exact HB1.out.size⟩
  obtain ⟨W1, hW1⟩ : ∃ W, W = w1.alloc (.cells IC 59) := ⟨_, rfl⟩
  rw [← hW1] at HW1
  rw [← hW1, ← hg]
  clear hW1 hg HB1
  clear w1
  have HJJ : Hid (∀ (C : Array Value) (w3 w4 : World), (Blk w3 g 59 C ∧ Below w.heap.size w w3) → w3.grownBy w4 none → (Blk w4 g 59 C ∧ Below w.heap.size w w4)) := Lib.hid (fun C w3 w4 ⟨h1, h2⟩ hg => ⟨h1.grown hg (by simp), h2.trans ((below_by hg).mono h2.size)⟩)
  refine wp_region_store 15 5 19 (fun i => match i with | 0 => .agg IC | 1 => .string M | 2 => .int .i64 (u : Int) | 3 => .string X | _ => .agg (s8Cells H1)) (fun w3 => Blk w3 g 59 IC ∧ Below w.heap.size w w3) (fun w3 => Blk w3 g 59 (s8Cells H1) ∧ Below w.heap.size w w3) (by kernel_rfl) (by kernel_rfl) rfl (by kernel_rfl) rfl (by simp) (HJJ.out IC) ⟨HW1.out.1, HW1.out.2.1⟩ ?hops ?hlast ?hK
  case hops =>
    intro i hi x w' hF hJw hw
    rcases (show i = 0 ∨ i = 1 ∨ i = 2 ∨ i = 3 ∨ i = 4 by omega) with rfl | rfl | rfl | rfl | rfl
    · have e5 : x.tmps[5]?.getD undef = .pointer (some ⟨g, 0, none⟩) := hF.get 5 (by omega)
      have HL := Lib.hid (load_whole (P := Tryd.prog) hJw.1 HA8.out (fun w => by rw [HIS.out]; exact HS8.out w))
      clear hF hJw hw
      exact wpOp_value (v := .agg IC) (w' := w') rfl rfl (exec_load (p := .pointer (some ⟨g, 0, none⟩)) rfl (by simp [Act.eval, e5]) HL.out) ⟨rfl, by_refl _ _⟩
    · have e3 : x.tmps[3]?.getD undef = .string M := hF.get 3 (by omega)
      clear hF hJw hw
      refine wpOp_value (v := .string M) (w' := w') rfl rfl ?_ ⟨rfl, by_refl _ _⟩
      go_simp
    · have e4 : x.tmps[4]?.getD undef = .int .i64 (u : Int) := hF.get 4 (by omega)
      clear hF hJw hw
      refine wpOp_value (v := .int .i64 (u : Int)) (w' := w') rfl rfl ?_ ⟨rfl, by_refl _ _⟩
      go_simp
    · have e1 : x.tmps[16]?.getD undef = .string M := hw 1 (of_decide_eq_true (by kernel_rfl)) (by omega)
      have e2 : x.tmps[17]?.getD undef = .int .i64 (u : Int) := hw 2 (of_decide_eq_true (by kernel_rfl)) (by omega)
      have hsx := HSX.out
      clear hF hJw hw
      refine wpOp_value (v := .string X) (w' := w') rfl rfl ?_ ⟨rfl, by_refl _ _⟩
      go_simp
    · have e0 : x.tmps[15]?.getD undef = .agg IC := hw 0 (of_decide_eq_true (by kernel_rfl)) (by omega)
      have e3 : x.tmps[18]?.getD undef = .string X := hw 3 (of_decide_eq_true (by kernel_rfl)) (by omega)
      clear hF hJw hw
      exact wpOp_call (f := 25) (args := #[.agg IC, .string X]) rfl rfl (by go_simp) ((HM1.out w').mono fun e w'' ⟨he, hb⟩ => ⟨_, he, rfl, by_below hb (Nat.le_refl _)⟩)
  case hlast =>
    intro x w' hF hJw hall
    have e5 : x.tmps[5]?.getD undef = .pointer (some ⟨g, 0, none⟩) := hF.get 5 (by omega)
    have e19 : x.tmps[19]?.getD undef = .agg (s8Cells H1) := hall 4 (by omega)
    have HST := Lib.hid (store_whole (P := Tryd.prog) (cs := s8Cells H1) hJw.1 (by rw [HIS.out]; rfl) (HO8.out H1) HS8.out)
    have HJ2 : Hid (Blk (w'.setRow g (s8Cells H1)) g 59 (s8Cells H1) ∧ Below w.heap.size w (w'.setRow g (s8Cells H1))) := Lib.hid ⟨blk_setRow hJw.1 _, below_setRow hJw.2 HW1.out.2.2 _⟩
    clear hF hJw hall
    exact wpOp_skip rfl rfl (exec_store (p := .pointer (some ⟨g, 0, none⟩)) (v := .agg (s8Cells H1)) rfl (by simp [Act.eval, e5]) (by simp [Act.eval, e19]) HST.out) ⟨rfl, HJ2.out⟩
  case hK =>
    intro x w2 hF _ hJ2
    have HJ2 := Lib.hid hJ2
    clear hJ2
    obtain ⟨t, d⟩ := x
    obtain ⟨x0, x1, x2, x3, x4, x5, x6, x7, x8, x9, x10, x11, x12, x13, x14, x15, x16, x17, x18, x19, x20, x21, x22, x23, x24, x25, x26, x27, x28, x29, x30, rfl⟩ := arr31 t hF.2.1
    obtain rfl : d = [] := hF.1
    obtain rfl : x0 = .slice A m c := Option.some.inj (hF.2.2 0 (by omega))
    obtain rfl : x2 = .string ⟨#[]⟩ := Option.some.inj (hF.2.2 2 (by omega))
    obtain rfl : x3 = .string M := Option.some.inj (hF.2.2 3 (by omega))
    obtain rfl : x4 = .int .i64 (u : Int) := Option.some.inj (hF.2.2 4 (by omega))
    obtain rfl : x5 = .pointer (some ⟨g, 0, none⟩) := Option.some.inj (hF.2.2 5 (by omega))
    clear hF
    obtain ⟨IC2, hIC2⟩ : ∃ IC, IC = s8Cells H1 := ⟨_, rfl⟩
    rw [← hIC2] at HM2 HJ2
    have HIS2 : Hid (IC2.size = 8) := Lib.hid (by rw [hIC2]; rfl)
    clear hIC2
    go_upto_region 5 with fail
    refine wp_region_store 20 9 28 (fun i => match i with | 0 => .agg IC2 | 1 => .string M | 2 => .int .i64 (u : Int) | 3 => .string R | 4 => .string M | 5 => .int .i64 (n : Int) | 6 => .string PB | 7 => .string RP | _ => .agg (s8Cells H2)) (fun w3 => Blk w3 g 59 IC2 ∧ Below w.heap.size w w3) (fun w3 => Blk w3 g 59 (s8Cells H2) ∧ Below w.heap.size w w3) (by kernel_rfl) (by kernel_rfl) rfl (by kernel_rfl) rfl (by simp) (HJJ.out IC2) HJ2.out ?hops ?hlast ?hK
    case hops =>
      intro i hi x w' hF hJw hw
      rcases (show i = 0 ∨ i = 1 ∨ i = 2 ∨ i = 3 ∨ i = 4 ∨ i = 5 ∨ i = 6 ∨ i = 7 ∨ i = 8 by omega) with rfl | rfl | rfl | rfl | rfl | rfl | rfl | rfl | rfl
      · have e5 : x.tmps[5]?.getD undef = .pointer (some ⟨g, 0, none⟩) := hF.get 5 (by omega)
        have HL := Lib.hid (load_whole (P := Tryd.prog) hJw.1 HA8.out (fun w => by rw [HIS2.out]; exact HS8.out w))
        clear hF hJw hw
        exact wpOp_value (v := .agg IC2) (w' := w') rfl rfl (exec_load (p := .pointer (some ⟨g, 0, none⟩)) rfl (by simp [Act.eval, e5]) HL.out) ⟨rfl, by_refl _ _⟩
      · have e3 : x.tmps[3]?.getD undef = .string M := hF.get 3 (by omega)
        clear hF hJw hw
        refine wpOp_value (v := .string M) (w' := w') rfl rfl ?_ ⟨rfl, by_refl _ _⟩
        go_simp
      · have e4 : x.tmps[4]?.getD undef = .int .i64 (u : Int) := hF.get 4 (by omega)
        clear hF hJw hw
        refine wpOp_value (v := .int .i64 (u : Int)) (w' := w') rfl rfl ?_ ⟨rfl, by_refl _ _⟩
        go_simp
      · have e1 : x.tmps[21]?.getD undef = .string M := hw 1 (of_decide_eq_true (by kernel_rfl)) (by omega)
        have e2 : x.tmps[22]?.getD undef = .int .i64 (u : Int) := hw 2 (of_decide_eq_true (by kernel_rfl)) (by omega)
        have hsx := HSR.out
        clear hF hJw hw
        refine wpOp_value (v := .string R) (w' := w') rfl rfl ?_ ⟨rfl, by_refl _ _⟩
        go_simp
      · have e3 : x.tmps[3]?.getD undef = .string M := hF.get 3 (by omega)
        clear hF hJw hw
        refine wpOp_value (v := .string M) (w' := w') rfl rfl ?_ ⟨rfl, by_refl _ _⟩
        go_simp
      · have e4 : x.tmps[24]?.getD undef = .string M := hw 4 (of_decide_eq_true (by kernel_rfl)) (by omega)
        have hnM := HNM.out
        clear hF hJw hw
        refine wpOp_value (v := .int .i64 (n : Int)) (w' := w') rfl rfl ?_ ⟨rfl, by_refl _ _⟩
        go_simp
      · have e5 : x.tmps[25]?.getD undef = .int .i64 (n : Int) := hw 5 (of_decide_eq_true (by kernel_rfl)) (by omega)
        clear hF hJw hw
        exact wpOp_call (f := 22) (args := #[.int .i64 (n : Int)]) rfl rfl (by go_simp) ((HP.out w').mono fun e w'' ⟨he, hb⟩ => ⟨_, he, rfl, by_below hb (Nat.le_refl _)⟩)
      · have e3 : x.tmps[23]?.getD undef = .string R := hw 3 (of_decide_eq_true (by kernel_rfl)) (by omega)
        have e6 : x.tmps[26]?.getD undef = .string PB := hw 6 (of_decide_eq_true (by kernel_rfl)) (by omega)
        obtain ⟨hc1, hc2⟩ := HCT.out
        clear hF hJw hw
        refine wpOp_value (v := .string RP) (w' := w') rfl rfl ?_ ⟨rfl, by_refl _ _⟩
        go_simp
      · have e0 : x.tmps[20]?.getD undef = .agg IC2 := hw 0 (of_decide_eq_true (by kernel_rfl)) (by omega)
        have e7 : x.tmps[27]?.getD undef = .string RP := hw 7 (of_decide_eq_true (by kernel_rfl)) (by omega)
        clear hF hJw hw
        exact wpOp_call (f := 25) (args := #[.agg IC2, .string RP]) rfl rfl (by go_simp) ((HM2.out w').mono fun e w'' ⟨he, hb⟩ => ⟨_, he, rfl, by_below hb (Nat.le_refl _)⟩)
    case hlast =>
      intro x w' hF hJw hall
      have e5 : x.tmps[5]?.getD undef = .pointer (some ⟨g, 0, none⟩) := hF.get 5 (by omega)
      have e28 : x.tmps[28]?.getD undef = .agg (s8Cells H2) := hall 8 (by omega)
      have HST := Lib.hid (store_whole (P := Tryd.prog) (cs := s8Cells H2) hJw.1 (by rw [HIS2.out]; rfl) (HO8.out H2) HS8.out)
      have HJ3 : Hid (Blk (w'.setRow g (s8Cells H2)) g 59 (s8Cells H2) ∧ Below w.heap.size w (w'.setRow g (s8Cells H2))) := Lib.hid ⟨blk_setRow hJw.1 _, below_setRow hJw.2 HW1.out.2.2 _⟩
      clear hF hJw hall
      exact wpOp_skip rfl rfl (exec_store (p := .pointer (some ⟨g, 0, none⟩)) (v := .agg (s8Cells H2)) rfl (by simp [Act.eval, e5]) (by simp [Act.eval, e28]) HST.out) ⟨rfl, HJ3.out⟩
    case hK =>
      intro x w3 hF _ hJ3
      have HJ3 := Lib.hid hJ3
      clear hJ3
      obtain ⟨t, d⟩ := x
      obtain ⟨z0, z1, z2, z3, z4, z5, z6, z7, z8, z9, z10, z11, z12, z13, z14, z15, z16, z17, z18, z19, z20, z21, z22, z23, z24, z25, z26, z27, z28, z29, z30, rfl⟩ := arr31 t hF.2.1
      obtain rfl : d = [] := hF.1
      obtain rfl : z0 = .slice A m c := Option.some.inj (hF.2.2 0 (by omega))
      obtain rfl : z2 = .string ⟨#[]⟩ := Option.some.inj (hF.2.2 2 (by omega))
      obtain rfl : z3 = .string M := Option.some.inj (hF.2.2 3 (by omega))
      obtain rfl : z4 = .int .i64 (u : Int) := Option.some.inj (hF.2.2 4 (by omega))
      obtain rfl : z5 = .pointer (some ⟨g, 0, none⟩) := Option.some.inj (hF.2.2 5 (by omega))
      clear hF
      have HTX := Lib.hid (fun w => text_code H2 w)
      go_upto_region 6 with fail
      refine wp_region_lit ?_
      refine wpList_load rfl rfl rfl (load_whole HJ3.out.1 HA8.out HS8.out) ?_
      refine wpList_call (f := 26) (args := #[.agg (s8Cells H2)]) rfl (by go_simp) ((HTX.out w3).mono ?_)
      rintro e4 w4 ⟨rfl, hb4⟩
      refine ⟨_, rfl, ?_⟩
      have HB4 := Lib.hid hb4
      clear hb4
      go_wp2_with fail
      go_ret
      exact ⟨by rw [HT.out]; rfl, HJ3.out.2.trans (HB4.out.mono HJ3.out.2.size)⟩
end Go.Proofs.YtokddfbjjghpkaaDoor
