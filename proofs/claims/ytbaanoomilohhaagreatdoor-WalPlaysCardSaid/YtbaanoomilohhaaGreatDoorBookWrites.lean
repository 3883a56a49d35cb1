/-
  masonrybook's lists of writes: lent, kept, held against each other. No statement is proved here.
-/
import Derived.Test.YtbaanoomilohhaaGreatDoorDiskCalls
import Derived.Test.YtbaanoomilohhaaGreatDoorBytes
import Derived.Test.YtbaanoomilohhaaGreatDoorViews
import Derived.Laws.BitsLemmas
import Derived.Test.YtbaanoomilohhaaGreatDoorDiskClone
namespace Go.Proofs.YtbaanoomilohhaaGreatDoor
open Go.RowKit

theorem exec_copy {P : Program} {o : Oper} {x : Act} {s1 s2 : Operand} {t1 t2 : TypeId} {v1 v2 v : Value} {w w' : World} (ho : o.op = .call { callee := .builtin .copy, args := #[s1, s2], argTypes := #[t1, t2] }) (h1 : x.eval s1 = v1) (h2 : x.eval s2 = v2)
    (hr : (Builtin.copy_ #[t1, t2] o.type #[v1, v2]).run P w = .ok v w') : (execOp x.eval o).run P w = .ok (.value v) w' := by
  unfold execOp
  simp only [ho, resolve, invoke, builtin, Sem.run_bind, Sem.run_pure, Result.andThen_ok, List.map_toArray, List.map_cons, List.map_nil, h1, h2, hr]

theorem mul_any (x y : Nat) (hx : x < 18446744073709551616) (hy : y < 18446744073709551616) (w : World) :
    Calls Tryz.prog 44 #[.int .u64 x, .int .u64 y] w fun e w' => e = .returned (.tuple #[.int .u64 ((x * y / 18446744073709551616 : Nat) : Int), .int .u64 ((x * y % 18446744073709551616 : Nat) : Int)]) ∧ w' = w := Any.bits_Mul { lays105 with } x y hx hy w

/-- k texts z, and empty ones up to n. -/
def repC (z : ByteArray) (k n : Nat) : List Value := List.replicate k (Value.string z) ++ List.replicate (n - k) (Value.string .empty)
theorem repC_len (z : ByteArray) {k n : Nat} (h : k ≤ n) : (repC z k n).length = n := by unfold repC; simp; omega
theorem repC_all (z : ByteArray) (n : Nat) : repC z n n = (List.replicate n z).map Value.string := by unfold repC; simp








theorem str_size : (Tryz.prog.info? 9).map (·.size) = some 1 := by kernel_rfl
theorem repC_get (z : ByteArray) {k n j : Nat} {u : Value} (h : (List.replicate j (Value.string z))[k]? = some u) : (repC z j n)[k]? = some u := by
  unfold repC
  have hk : k < j := by
    rcases Nat.lt_or_ge k j with h1 | h1
    · exact h1
    · rw [List.getElem?_eq_none (by simpa using h1)] at h; cases h
  rw [List.getElem?_append_left (by simpa using hk)]
  exact h
/-- What stands behind a copy of the head. -/
theorem repC_next (z : ByteArray) {k d n : Nat} (hd : k + d ≤ n) : (repC z k n).take k ++ List.replicate d (Value.string z) ++ (repC z k n).drop (k + d) = repC z (k + d) n := by
  apply List.ext_getElem?
  intro i
  unfold repC
  simp only [List.getElem?_append, List.length_append, List.length_take, List.length_replicate, List.getElem?_take, List.getElem?_drop, List.getElem?_replicate]
  have e1 : min k (k + (n - k)) = k := by omega
  simp only [e1]
  by_cases h1 : i < k
  · simp [h1, show i < k + d by omega]
  · by_cases h2 : i < k + d
    · simp [h1, h2, show i - k < d by omega]
    · by_cases h3 : i < n
      · simp [h2, show ¬ (k + d + (i - (k + d)) < k) by omega, show k + d + (i - (k + d)) - k < n - k by omega, show i - (k + d) < n - (k + d) by omega]
      · simp [h2, show ¬ (k + d + (i - (k + d)) < k) by omega, show ¬ (k + d + (i - (k + d)) - k < n - k) by omega, show ¬ (i - (k + d) < n - (k + d)) by omega]

set_option maxRecDepth 100000 in
set_option maxHeartbeats 4000000 in
theorem srep_any (z : ByteArray) (n g0 : Nat) (w : World) (hn : n ≤ 5000) (hn1 : 1 ≤ n) (hg : w.cell? ⟨g0, 0, none⟩ = some (.string z)) :
    Calls Tryz.prog 27 #[.slice (some ⟨g0, 0, none⟩) 1 1, .int .i64 (n : Int)] w fun e w' => e = .returned (.slice (some ⟨w.heap.size, 0, none⟩) n n) ∧ Blk w' w.heap.size 9 ((List.replicate n z).map Value.string).toArray ∧ Below w.heap.size w w' := by
  have HM := Lib.hid (mul_any 1 n (by omega) (by omega) w)
  rw [Nat.one_mul, Nat.div_eq_of_lt (by omega : n < 18446744073709551616), Nat.mod_eq_of_lt (by omega : n < 18446744073709551616)] at HM
  obtain ⟨i0, hi0, hz0, hz1, hz2⟩ := info_parts cltexts_info
  obtain ⟨q, hq⟩ : ∃ q : Int, q = (n : Int) := ⟨_, rfl⟩
  have HQ := Lib.hid hq
  have q0 : 1 ≤ q := by omega
  have q1 : q ≤ 5000 := by omega
  have hmk : (Instr.makeSlice 32 (.int .i64 q) (.int .i64 q)).run Tryz.prog w = .ok (.slice (some ⟨w.heap.size, 0, none⟩) n n) (w.alloc (.cells (repC z 0 n).toArray 9)) := by
    have hr := run_makeSlice (P := Tryz.prog) w 32 9 i0 (.string .empty) Tryz.underlying32 hi0 hz0 .i64 .i64 q q (by omega) (Int.le_refl _) (by rw [hz1]; omega) (by rw [hz2]; omega) (by omega)
    have hc : madeCells (Value.string .empty).cells (q.toNat * i0.size) = (repC z 0 n).toArray := by
      rw [hz1, Nat.mul_one, hq, Int.toNat_natCast]
      refine Array.toList_inj.1 ?_
      rw [show (Value.string .empty).cells = #[Value.string .empty] from rfl, toList_madeCells_one]
      simp [repC]
    rw [hc, show q.toNat = n by omega] at hr
    exact hr
  rw [← hq] at HM ⊢
  have hgl := World.block_lt_of_cell? w _ hg
  have hB0 : Blk (w.alloc (.cells (repC z 0 n).toArray 9)) w.heap.size 9 (repC z 0 n).toArray := Blk.new w _ _
  have hcp := run_copy_row (P := Tryz.prog) (w.alloc (.cells (repC z 0 n).toArray 9)) 32 32 3 9 w.heap.size 0 n n ⟨g0, 0, none⟩ 1 1 (repC z 0 n).toArray 9 [.string z] Tryz.underlying32 str_size hB0 (by show 1 = min 1 n; omega)
    (by
      intro j v hj
      have : j = 0 := by
        rcases Nat.lt_or_ge j 1 with h | h
        · omega
        · rw [List.getElem?_eq_none (by simpa using h)] at hj; cases hj
      subst this
      simp at hj
      subst hj
      rw [Go.WideShapes.add_plain, World.cell?_of_block (Below.heap_alloc w _ g0 hgl)]
      exact hg) (by simp [repC]; omega) (by intro v hv; simp at hv; subst hv; rfl)
  have hrc : ((repC z 0 n).toArray.toList.take 0 ++ [Value.string z] ++ (repC z 0 n).toArray.toList.drop (0 + [Value.string z].length)) = repC z 1 n := by
    have := repC_next z (k := 0) (d := 1) (n := n) (by omega)
    simpa using this
  rw [hrc] at hcp
  obtain ⟨W1, hW1⟩ : ∃ W1, W1 = (w.alloc (.cells (repC z 0 n).toArray 9)).setRow w.heap.size (repC z 1 n).toArray := ⟨_, rfl⟩
  rw [← hW1] at hcp
  have hcp : (Builtin.copy_ #[32, 32] 3 #[.slice (some ⟨w.heap.size, 0, none⟩) n n, .slice (some ⟨g0, 0, none⟩) 1 1]).run Tryz.prog (w.alloc (.cells (repC z 0 n).toArray 9)) = .ok (.int .i64 1) W1 := hcp
  have HB1 : Hid (Blk W1 w.heap.size 9 (repC z 1 n).toArray) := Lib.hid (by rw [hW1]; exact blk_setRow hB0 _)
  have HK1 : Hid (Below w.heap.size w W1) := Lib.hid (by
    rw [hW1]
    exact below_setRow ((Below.refl _ _).alloc (Nat.le_refl _) _) (Nat.le_refl _) _)
  have HN1 := Lib.hid hn1
  clear hq hg hgl hi0 hz0 hz1 hz2 hB0 hrc hW1 hn1
  go_enter Tryz.func27, Tryz.ntmps27
  go_wp2_with (first
    | (go_at_call 44; refine HM.out.mono ?_; rintro e w1 ⟨rfl, hw⟩; rw [hw]; clear hw)
    | fail)
  clear hcp hmk
  go_loopw [8] (fun v wr => ∃ k : Nat, 1 ≤ k ∧ k ≤ n ∧ v = .int .i64 k ∧ Blk wr w.heap.size 9 (repC z k n).toArray ∧ Below w.heap.size w wr) (fun v _ => n - (intOf v).toNat)
  case atStart => exact ⟨1, Nat.le_refl _, HN1.out, rfl, HB1.out, HK1.out⟩
  case round =>
    obtain ⟨k, hk1, hkn, rfl, hb, hbe⟩ := hrel
    have HB := Lib.hid hb
    have HBE := Lib.hid hbe
    clear hb hbe HB1 HK1
    by_cases hlt : k < n
    · go_upto_region 9 with fail
      obtain ⟨d, hd⟩ : ∃ d, d = min k (n - k) := ⟨_, rfl⟩
      have hd1 : d ≤ k := by omega
      have hd2 : k + d ≤ n := by omega
      have hd3 : 1 ≤ d := by omega
      have hcp := run_copy_row (P := Tryz.prog) wr.drew 32 32 3 9 w.heap.size k (n - k) (n - k) ⟨w.heap.size, 0, none⟩ k n (repC z k n).toArray 9 (List.replicate d (.string z)) Tryz.underlying32 str_size HB.out.drew (by rw [List.length_replicate]; show d = min k (n - k); omega)
        (by
          intro j v hj
          rw [Go.WideShapes.add_plain, Nat.zero_add, HB.out.drew.cell]
          rw [List.getElem?_toArray]
          refine repC_get z ?_
          rw [List.getElem?_replicate] at hj ⊢
          split at hj
          · rw [if_pos (by omega)]; exact hj
          · cases hj) (by rw [List.length_replicate, List.size_toArray, repC_len z hkn]; exact hd2) (by intro v hv; rw [List.eq_of_mem_replicate hv]; rfl)
      rw [List.length_replicate, List.toList_toArray, repC_next z hd2] at hcp
      obtain ⟨W2, hW2⟩ : ∃ W2, W2 = wr.drew.setRow w.heap.size (repC z (k + d) n).toArray := ⟨_, rfl⟩
      rw [← hW2] at hcp
      have HCP : Hid ((Builtin.copy_ #[32, 32] 3 #[.slice (some ⟨w.heap.size, k, none⟩) (n - k) (n - k), .slice (some ⟨w.heap.size, 0, none⟩) k n]).run Tryz.prog wr.drew = .ok (.int .i64 (d : Int)) W2) := Lib.hid hcp
      have HB2 : Hid (Blk W2 w.heap.size 9 (repC z (k + d) n).toArray) := Lib.hid (by rw [hW2]; exact blk_setRow HB.out.drew _)
      have HK2 : Hid (Below w.heap.size w W2) := Lib.hid (by rw [hW2]; exact below_setRow HBE.out.drew (Nat.le_refl _) _)
      have HD := Lib.hid (And.intro hd1 (And.intro hd2 hd3))
      have hnI : (k : Int) ≤ (n : Int) := by omega
      have hne : ¬ n = k := by omega
      have hk0 : (n - k : Nat) = n - k := rfl
      clear hcp hW2 hd hd1 hd2 hd3 hk0
      refine wp_region_sinks 38 9 46 1 (fun | 0 => .int .i64 (k : Int) | 1 => .slice (some ⟨w.heap.size, 0, none⟩) n n | 2 => .int .i64 (k : Int) | 3 => .slice (some ⟨w.heap.size, k, none⟩) (n - k) (n - k) | 4 => .slice (some ⟨w.heap.size, 0, none⟩) n n | 5 => .int .i64 (k : Int) | 6 => .slice (some ⟨w.heap.size, 0, none⟩) k n | 7 => .int .i64 (d : Int) | _ => .int .i64 ((k + d : Nat) : Int))
        (fun L w' => w' = if L 7 then W2 else wr.drew) (by kernel_rfl) (by kernel_rfl) rfl (by omega) (by kernel_rfl) rfl (by simp) rfl ?hops ?hrest
      case hops =>
        intro j hj L x w' hc hF hLj hJ hw hv
        have HJ := Lib.hid hJ
        clear hJ
        rcases (show j = 0 ∨ j = 1 ∨ j = 2 ∨ j = 3 ∨ j = 4 ∨ j = 5 ∨ j = 6 ∨ j = 7 ∨ j = 8 by omega) with rfl | rfl | rfl | rfl | rfl | rfl | rfl | rfl | rfl
        · have t0 : x.tmps[8]?.getD undef = .int .i64 (k : Int) := by rw [hF.2.2 8 (by omega)]; rfl
          clear hw hv hF
          refine wpOp_value (v := .int .i64 (k : Int)) (w' := w') rfl rfl ?_ ⟨rfl, HJ.out⟩
          go_simp
        · have t0 : x.tmps[7]?.getD undef = .slice (some ⟨w.heap.size, 0, none⟩) n n := by rw [hF.2.2 7 (by omega)]; rfl
          clear hw hv hF
          refine wpOp_value (v := .slice (some ⟨w.heap.size, 0, none⟩) n n) (w' := w') rfl rfl ?_ ⟨rfl, HJ.out⟩
          go_simp
        · have t0 : x.tmps[8]?.getD undef = .int .i64 (k : Int) := by rw [hF.2.2 8 (by omega)]; rfl
          clear hw hv hF
          refine wpOp_value (v := .int .i64 (k : Int)) (w' := w') rfl rfl ?_ ⟨rfl, HJ.out⟩
          go_simp
        · have t0 : x.tmps[39]?.getD undef = .slice (some ⟨w.heap.size, 0, none⟩) n n := hv 1 (of_decide_eq_true (by kernel_rfl)) (by omega)
          have t1 : x.tmps[40]?.getD undef = .int .i64 (k : Int) := hv 2 (of_decide_eq_true (by kernel_rfl)) (by omega)
          clear hw hv hF
          refine wpOp_value (v := .slice (some ⟨w.heap.size, k, none⟩) (n - k) (n - k)) (w' := w') rfl rfl ?_ ⟨rfl, HJ.out⟩
          go_simp
        · have t0 : x.tmps[7]?.getD undef = .slice (some ⟨w.heap.size, 0, none⟩) n n := by rw [hF.2.2 7 (by omega)]; rfl
          clear hw hv hF
          refine wpOp_value (v := .slice (some ⟨w.heap.size, 0, none⟩) n n) (w' := w') rfl rfl ?_ ⟨rfl, HJ.out⟩
          go_simp
        · have t0 : x.tmps[8]?.getD undef = .int .i64 (k : Int) := by rw [hF.2.2 8 (by omega)]; rfl
          clear hw hv hF
          refine wpOp_value (v := .int .i64 (k : Int)) (w' := w') rfl rfl ?_ ⟨rfl, HJ.out⟩
          go_simp
        · have t0 : x.tmps[42]?.getD undef = .slice (some ⟨w.heap.size, 0, none⟩) n n := hv 4 (of_decide_eq_true (by kernel_rfl)) (by omega)
          have t1 : x.tmps[43]?.getD undef = .int .i64 (k : Int) := hv 5 (of_decide_eq_true (by kernel_rfl)) (by omega)
          clear hw hv hF
          refine wpOp_value (v := .slice (some ⟨w.heap.size, 0, none⟩) k n) (w' := w') rfl rfl ?_ ⟨rfl, HJ.out⟩
          go_simp
        · have t0 : x.tmps[41]?.getD undef = .slice (some ⟨w.heap.size, k, none⟩) (n - k) (n - k) := hv 3 (of_decide_eq_true (by kernel_rfl)) (by omega)
          have t1 : x.tmps[44]?.getD undef = .slice (some ⟨w.heap.size, 0, none⟩) k n := hv 6 (of_decide_eq_true (by kernel_rfl)) (by omega)
          have hJ := HJ.out
          rw [hLj] at hJ
          have hJ' : w' = wr.drew := hJ
          subst hJ'
          clear hw hv hF hJ HJ
          exact wpOp_value (v := .int .i64 (d : Int)) (w' := W2) rfl rfl (exec_copy rfl (by simpa [Act.eval] using t0) (by simpa [Act.eval] using t1) HCP.out) ⟨rfl, by simp⟩
        · have t0 : x.tmps[38]?.getD undef = .int .i64 (k : Int) := hv 0 (of_decide_eq_true (by kernel_rfl)) (by omega)
          have t1 : x.tmps[45]?.getD undef = .int .i64 (d : Int) := hv 7 (of_decide_eq_true (by kernel_rfl)) (by omega)
          have hs : IntKind.i64.wrap ((k : Int) + (d : Int)) = (k : Int) + (d : Int) := by rw [IntKind.wrap_i64]; have := HD.out; omega
          have hb1 : (k : Int) ≤ 5000 := by have := HQ.out; omega
          have hb2 : (d : Int) ≤ 5000 := by have := HD.out; omega
          clear hw hv hF
          refine wpOp_value (v := .int .i64 ((k + d : Nat) : Int)) (w' := w') rfl rfl ?_ ⟨rfl, HJ.out⟩
          rw [show ((k + d : Nat) : Int) = (k : Int) + (d : Int) by omega]
          go_simp
      case hrest =>
        intro L w' hL hJ
        rw [hL 7 (by omega)] at hJ
        have hJ' : w' = W2 := hJ
        subst hJ'
        clear hL hJ L
        rw [show List.range' 9 1 = [9] from rfl]
        simp only [putAll, List.range, List.range.loop, List.foldl, Nat.reduceAdd, List.setIfInBounds_toArray, List.set_cons_succ, List.set_cons_zero]
        rw [wpOps_cons]
        refine wpOp_value (v := .int .i64 ((k + d : Nat) : Int)) (w' := w') rfl rfl (by go_simp) ?_
        change wpOps _ _ _ [] (Act.put _ (some 8) (.int .i64 ((k + d : Nat) : Int))) _
        simp only [wpOps, Act.put, List.setIfInBounds_toArray, List.set_cons_succ, List.set_cons_zero]
        go_wp2_with fail
        go_roundw
        case rel => exact ⟨k + d, by omega, HD.out.2.1, by rw [Int.natCast_add], HB2.out, HK2.out⟩
        case measure => have := HD.out; simp [intOf]; omega
    · obtain rfl : k = n := by omega
      go_wp2_with fail
      go_ret
      exact ⟨rfl, by rw [← repC_all]; exact HB.out, HBE.out⟩
end Go.Proofs.YtbaanoomilohhaaGreatDoor

namespace Go.Proofs.YtbaanoomilohhaaGreatDoor
open Go.RowKit

theorem drepeat_zero (c : Nat) : Lib.repeatL [0] c = List.replicate c 0 := by
  induction c with
  | zero => rfl
  | succ c ih => show [0] ++ Lib.repeatL [0] c = _; rw [ih]; rfl
set_option maxRecDepth 100000 in
set_option maxHeartbeats 1000000 in
theorem dnew_no (n : Int) (w : World) (h : n < 140 ∨ 2000 < n) :
    Calls Tryz.prog 6 #[.int .i64 n] w fun e w' => e = .returned (.tuple #[.pointer none, .int .i64 1]) ∧ w = w' := by
  by_cases h1 : n < 140
  · go_enter Tryz.func6, Tryz.ntmps6
    go_wp2_with fail
    go_ret2
    exact ⟨rfl, rfl⟩
  · have h2 : 2000 < n := by omega
    go_enter Tryz.func6, Tryz.ntmps6
    go_wp2_with fail
    go_ret2
    exact ⟨rfl, rfl⟩

set_option maxRecDepth 100000 in
set_option maxHeartbeats 2000000 in
theorem dnew_yes (q : Int) (n : Nat) (w : World) (hq : q = (n : Int)) (h1 : 140 ≤ q) (h2 : q ≤ 2000) :
    Calls Tryz.prog 6 #[.int .i64 q] w fun e w' => ∃ g O, e = .returned (.tuple #[.pointer (some ⟨g, 0, none⟩), .int .i64 0]) ∧ DiskAt w' O g (DS.fresh n (zeroB 256)) ∧ (∀ b ∈ O, w.heap.size ≤ b) ∧ Below w.heap.size w w' := by
  have HS := Lib.hid (repeat_any ⟨#[0]⟩ 256 w (by omega) (by decide))
  rw [show (⟨(Lib.repeatL (⟨#[0]⟩ : ByteArray).data.toList 256).toArray⟩ : ByteArray) = zeroB 256 by show (⟨(Lib.repeatL [0] 256).toArray⟩ : ByteArray) = _; rw [drepeat_zero]; rfl] at HS
  have HQ := Lib.hid hq
  have HR : Hid (∀ (W : World) (g0 : Nat), W.cell? ⟨g0, 0, none⟩ = some (.string (zeroB 256)) → Calls Tryz.prog 27 #[.slice (some ⟨g0, 0, none⟩) 1 1, .int .i64 q] W fun e w' => e = .returned (.slice (some ⟨W.heap.size, 0, none⟩) n n) ∧ Blk w' W.heap.size 9 ((List.replicate n (zeroB 256)).map Value.string).toArray ∧ Below W.heap.size W w') :=
    Lib.hid (fun W g0 hW => by rw [hq]; exact srep_any (zeroB 256) n g0 W (by omega) (by omega) hW)
  have HC : Hid (∀ (W : World) (g0 : Nat), Blk W g0 9 ((List.replicate n (zeroB 256)).map Value.string).toArray → Calls Tryz.prog 28 #[.slice (some ⟨g0, 0, none⟩) n n] W fun e w' => ∃ v, e = .returned v ∧ w'.ownsRow W.heap.size 9 1 v n ((List.replicate n (zeroB 256)).map Value.string) ∧ Below W.heap.size W w') :=
    Lib.hid (fun W g0 hW => cltexts_any _ n n (List.replicate n (zeroB 256)) W (by simp) (by
      intro ad e j u hu
      injection e with e
      subst e
      rw [Go.WideShapes.add_plain, Nat.zero_add, hW.cell, List.getElem?_toArray]
      exact hu) (by intro e; cases e) (by omega))
  have HNB : Hid (1 ≤ n ∧ n ≤ 2000) := Lib.hid (by omega)
  obtain ⟨z, hz⟩ : ∃ z, z = zeroB 256 := ⟨_, rfl⟩
  rw [← hz] at HS HR HC ⊢
  clear hq hz
  go_enter Tryz.func6, Tryz.ntmps6
  go_wp2_with (go_at_call 26; refine HS.out.mono ?_; rintro e w1 ⟨rfl, hb1⟩)
  refine (HR.out (w1.alloc (.cells #[.string z] 9)) w1.heap.size (by rw [(Blk.new w1 9 #[.string z]).cell 0]; rfl)).mono ?_
  rintro e w2 ⟨rfl, hk2, hb2⟩
  have hs1 : (w1.alloc (.cells #[.string z] 9)).heap.size = w1.heap.size + 1 := by simp
  have hc2 : Below w.heap.size w w2 := (hb1.alloc hb1.size _).trans (hb2.mono (by have := hb1.size; omega))
  rw [hs1] at hk2 ⊢
  have hs2 : w1.heap.size + 1 < w2.heap.size := hk2.lt
  have hs0 : w.heap.size ≤ w1.heap.size := hb1.size
  clear hb1 hb2 hs1
  go_wp2_with fail
  refine (HC.out w2 (w1.heap.size + 1) hk2).mono ?_
  rintro e w3 ⟨v, rfl, hrow, hb3⟩
  obtain ⟨p, c, rfl, hnc, hcc, hpn, hpa⟩ := row_slice hrow
  have hc3 : Below w.heap.size w w3 := hc2.trans (hb3.mono hc2.size)
  have hk3 : Blk w3 (w1.heap.size + 1) 9 _ := hk2.below hb3 hs2
  have HROW := Lib.hid hrow
  have HK3 := Lib.hid hk3
  have HC3 := Lib.hid hc3
  have HB3 := Lib.hid hb3.size
  have HP := Lib.hid (And.intro hpn hpa)
  clear hrow hk3 hc3 hk2 hc2 hb3 hpn hpa hnc hcc
  go_wp2_with fail
  go_ret2
  have hpo : ∃ gs, p = some ⟨gs, 0, none⟩ := by
    cases hp : p with
    | none => have := HP.out.1 hp; have := HNB.out; omega
    | some a => exact ⟨a.block, by rw [HP.out.2 a hp]⟩
  obtain ⟨gs, rfl⟩ := hpo
  have hgs := HROW.out.lt gs rfl
  have hsz3 := HB3.out
  refine ⟨_, w3.heap.size :: (w1.heap.size + 1) :: gs :: ((Value.slice none 0 0).ownBlock.toList ++ (Value.slice none 0 0).ownBlock.toList), rfl, ⟨w1.heap.size + 1, gs, n, c, _, _, rfl, ?_⟩, ?_, HC3.out.alloc HC3.out.size _⟩
  · have e1 : (List.replicate n z).length = n := by simp
    refine ⟨?_, ?_, ?_, World.ownsRow_nil _ _ _ _, World.ownsRow_nil _ _ _ _, ?_⟩
    · have := Blk.new w3 59 #[.slice (some ⟨w1.heap.size + 1, 0, none⟩) n n, .slice (some ⟨gs, 0, none⟩) n c, .slice none 0 0, .bool true, .int .i64 0, .bool false, .int .i64 0, .slice none 0 0]
      show Blk _ _ _ #[.slice _ (List.replicate n z).length _, .slice _ (List.replicate n z).length _, _, _, _, _, _, _]
      rw [e1]
      exact this
    · show World.ownsRow _ 0 _ 1 (.slice _ (List.replicate n z).length _) (List.replicate n z).length ((List.replicate n z).map Value.string)
      rw [e1]
      refine World.ownsRow.alloc ⟨by simp, .inr ⟨w1.heap.size + 1, n, _, rfl, Nat.zero_le _, HK3.out, Nat.le_refl _, by have := HNB.out; unfold maxLen; omega, by simp, by simp⟩⟩ _
    · show World.ownsRow _ 0 _ 1 (.slice _ (List.replicate n z).length _) (List.replicate n z).length ((List.replicate n z).map Value.string)
      rw [e1]
      exact (row_mono HROW.out (Nat.zero_le _)).alloc _
    · simp [Value.ownBlock]
      omega
  · intro b hb
    simp [Value.ownBlock] at hb
    rcases hb with rfl | rfl | rfl
    · omega
    · omega
    · omega

/-- The byte at i of a sector that s fills. -/
def fillAt (s : ByteArray) (i : Nat) : UInt8 := if 0 < s.size then s.data.toList.getD (i % s.size) 0 else 0
def fillB (s : ByteArray) : ByteArray := ⟨((List.range 256).map (fillAt s)).toArray⟩
theorem fillB_size (s : ByteArray) : (fillB s).size = 256 := by show ((List.range 256).map (fillAt s)).toArray.size = 256; simp
/-- .. filled up to k. -/
def fillL (s : ByteArray) (k : Nat) : List UInt8 := (List.range 256).map fun i => if i < k then fillAt s i else 0
theorem fillL_zero (s : ByteArray) : fillL s 0 = List.replicate 256 0 := by
  unfold fillL
  rw [show (fun i => if i < 0 then fillAt s i else 0) = fun _ => (0 : UInt8) from funext fun i => if_neg (by omega), List.map_const', List.length_range]
theorem fillL_all (s : ByteArray) : fillL s 256 = (fillB s).data.toList := by
  show _ = (List.range 256).map (fillAt s)
  unfold fillL
  apply List.map_congr_left
  intro i hi
  rw [if_pos (by simpa using hi)]
theorem fillL_len (s : ByteArray) (k : Nat) : (fillL s k).length = 256 := by unfold fillL; simp
theorem fillL_next (s : ByteArray) {k : Nat} (hk : k < 256) : (Lib.byteCells (fillL s k)).toArray.setIfInBounds k (.int .u8 ((fillAt s k).toNat : Int)) = (Lib.byteCells (fillL s (k + 1))).toArray := by
  rw [List.setIfInBounds_toArray]
  congr 1
  apply List.ext_getElem?
  intro i
  unfold Lib.byteCells fillL
  rw [List.getElem?_set]
  simp only [List.length_map, List.length_range, List.getElem?_map]
  by_cases hik : k = i
  · subst hik
    simp [hk]
  · simp only [if_neg hik]
    by_cases hi : i < 256
    · simp only [List.getElem?_range hi, Option.map_some]
      by_cases h1 : i < k
      · rw [if_pos h1, if_pos (by omega)]
      · rw [if_neg h1, if_neg (by omega)]
    · rw [List.getElem?_eq_none (by simpa using hi)]
      rfl
theorem fillL_same (s : ByteArray) (k : Nat) (h : s.size = 0) : fillL s (k + 1) = fillL s k := by
  unfold fillL
  apply List.map_congr_left
  intro i _
  have h0 : fillAt s i = 0 := by unfold fillAt; rw [if_neg (by omega)]
  rw [h0]
  split <;> split <;> rfl
theorem blk_text (w : World) (g : Nat) (l : List UInt8) (n : Nat) (hn : l.length = n) (h : Blk w g 5 (Lib.byteCells l).toArray) :
    (convert 68 9 (.slice (some ⟨g, 0, none⟩) n n)).run Tryz.prog w = .ok (.string ⟨l.toArray⟩) w := by
  have hr := run_convert_bytes_back (P := Tryz.prog) w 68 9 5 ⟨g, 0, none⟩ l.length l Tryz.underlying68 Tryz.underlying5 Tryz.underlying9
    (fun j hj => by
      rw [Go.WideShapes.add_plain, h.cell (0 + j)]
      simp [Lib.byteCells, hj])
  rw [hn] at hr
  exact hr

set_option maxRecDepth 100000 in
set_option maxHeartbeats 2000000 in
theorem fill_any (s : ByteArray) (w : World) (hs : s.size ≤ 140737488351232) :
    Calls Tryz.prog 9 #[.string s] w fun e w' => e = .returned (.string (fillB s)) ∧ Below w.heap.size w w' := by
  have hmk := zeros_make w 256 (by omega)
  rw [zeroB_list, ← fillL_zero s] at hmk
  have hmk : (Instr.makeSlice 68 (.int .i64 256) (.int .i64 256)).run Tryz.prog w = .ok (.slice (some ⟨w.heap.size, 0, none⟩) 256 256) (w.alloc (.cells (Lib.byteCells (fillL s 0)).toArray 5)) := hmk
  obtain ⟨W, hW⟩ : ∃ W, W = w.alloc (.cells (Lib.byteCells (fillL s 0)).toArray 5) := ⟨_, rfl⟩
  rw [← hW] at hmk
  have HB0 : Hid (Blk W w.heap.size 5 (Lib.byteCells (fillL s 0)).toArray) := Lib.hid (by rw [hW]; exact Blk.new w _ _)
  have HK0 : Hid (Below w.heap.size w W) := Lib.hid (by rw [hW]; exact (Below.refl _ _).alloc (Nat.le_refl _) _)
  clear hW
  go_enter Tryz.func9, Tryz.ntmps9
  go_wp2_with fail
  clear hmk
  go_loopw [8] (fun i wr => ∃ k : Nat, k ≤ 256 ∧ i = .int .i64 k ∧ Blk wr w.heap.size 5 (Lib.byteCells (fillL s k)).toArray ∧ Below w.heap.size w wr) (fun i _ => 256 - (intOf i).toNat)
  case atStart => exact ⟨0, Nat.zero_le _, rfl, HB0.out, HK0.out⟩
  case round =>
    obtain ⟨k, hk, rfl, hb, hbe⟩ := hrel
    clear HB0 HK0
    have HB := Lib.hid hb
    by_cases hlt : k < 256
    · by_cases h0 : 0 < s.size
      · have hck : wr.cell? ⟨w.heap.size, k, none⟩ = some (.int .u8 (((fillL s k).getD k 0).toNat : Int)) := by
          rw [hb.cell, List.getElem?_toArray]
          unfold Lib.byteCells
          rw [List.getElem?_map, List.getD_eq_getElem?_getD, List.getElem?_eq_getElem (by rw [fillL_len]; exact hlt)]
          rfl
        have hfk := hb.frozen k
        have HN := Lib.hid (fillL_next s hlt)
        obtain ⟨r, hr⟩ : ∃ r, r = k % s.size := ⟨_, rfl⟩
        have hrs : r < s.size := by rw [hr]; exact Nat.mod_lt _ h0
        have hm1 : (k : Int).tmod (s.size : Int) = (r : Int) := by rw [hr]; exact (Int.ofNat_tmod k s.size).symm
        have hm2 : (k : Int) % (s.size : Int) = (r : Int) := by rw [hr]; exact (Int.natCast_emod k s.size).symm
        have HF : Hid (fillAt s k = s[r]'hrs) := Lib.hid (by
          unfold fillAt
          rw [if_pos h0, ← hr, List.getD_eq_getElem?_getD, List.getElem?_eq_getElem (by rw [← Lib.size_eq]; exact hrs)]
          rfl)
        have h0I : (0 : Int) < (s.size : Int) := by omega
        clear hb hr
        go_wp2_with fail
        go_roundw
        case rel =>
          have hp := HB.out.put k (.int .u8 ((s[r]'hrs).toNat : Int))
          rw [← HF.out, HN.out] at hp
          rw [← HF.out]
          exact ⟨k + 1, by omega, by go_num, hp, hbe.setCell (by simp) _⟩
        case measure => simp [intOf]; omega
      · have hs0 : s.size = 0 := by omega
        have HS := Lib.hid (fillL_same s k hs0)
        clear hb h0
        go_wp2_with fail
        go_roundw
        case rel => exact ⟨k + 1, by omega, by go_num, by rw [HS.out]; exact HB.out, hbe⟩
        case measure => simp [intOf]; omega
    · obtain rfl : k = 256 := by omega
      have hcv := blk_text wr w.heap.size _ 256 (fillL_len s 256) HB.out
      rw [fillL_all] at hcv
      clear hb
      go_wp2_with fail
      go_ret
      exact ⟨rfl, hbe⟩
end Go.Proofs.YtbaanoomilohhaaGreatDoor

namespace Go.Proofs.YtbaanoomilohhaaGreatDoor
open Go.RowKit

theorem err1_plain {S : DS} {i : Nat} {x : ByteArray} (hi : i < S.now.length) (hx : x.size = 256) (ha : S.armed = false) : S.err1 (i : Int) x = 0 := by
  unfold DS.err1 DS.fails
  rw [if_pos (by omega), if_pos hx]
  simp [DS.put, ha]
theorem write1_plain {S : DS} {i : Nat} {x : ByteArray} (hi : i < S.now.length) (hx : x.size = 256) (ha : S.armed = false) : S.write1 (i : Int) x = S.put i x := by
  unfold DS.write1 DS.failed
  rw [if_pos ⟨by omega, by omega, hx⟩]
  simp [DS.put, ha]
theorem wrts_one {w : World} {O : List Nat} {b : Nat} {a : Int} {s : ByteArray} (h : Blk w b 39 #[.int .i64 a, .string s]) (hO : b ∉ O) : Wrts w O (some ⟨b, 0, none⟩) [(a, s)] := by
  intro _
  refine ⟨b, 0, rfl, h.lt, hO, fun j x hx => ?_⟩
  match j, hx with
  | 0, hx => simp at hx; subst hx; exact ⟨h.cell 0, h.cell 1⟩
  | j + 1, hx => simp at hx
theorem wrts_two {w : World} {O : List Nat} {b : Nat} {a a' : Int} {s s' : ByteArray} (h : Blk w b 39 #[.int .i64 a, .string s, .int .i64 a', .string s']) (hO : b ∉ O) : Wrts w O (some ⟨b, 0, none⟩) [(a, s), (a', s')] := by
  intro _
  refine ⟨b, 0, rfl, h.lt, hO, fun j x hx => ?_⟩
  match j, hx with
  | 0, hx => simp at hx; subst hx; exact ⟨h.cell 0, h.cell 1⟩
  | 1, hx => simp at hx; subst hx; exact ⟨h.cell 2, h.cell 3⟩
  | j + 2, hx => simp at hx
theorem ints_one {w : World} {b : Nat} {a : Int} (h : Blk w b 3 #[.int .i64 a]) : IntsD w (some ⟨b, 0, none⟩) [a] := by
  intro _
  refine ⟨b, 0, rfl, h.lt, fun j x hx => ?_⟩
  match j, hx with
  | 0, hx => simp at hx; subst hx; exact h.cell 0
  | j + 1, hx => simp at hx

theorem alive_one (z X : ByteArray) (hX : X.size = 256) : (DS.fresh 150 z).errW [(3, X), (4, X)] = 0 ∧
    (DS.fresh 150 z).write [(3, X), (4, X)] = { now := ((List.replicate 150 z).set 3 X).set 4 X, safe := List.replicate 150 z, dirty := [(3, X), (4, X)], on := true, writes := 2, armed := false, left := 0, keep := [] } := by
  have h1 : (DS.fresh 150 z).now.length = 150 := by unfold DS.fresh; simp
  have e1 := err1_plain (S := DS.fresh 150 z) (i := 3) (by omega) hX rfl
  have w1 := write1_plain (S := DS.fresh 150 z) (i := 3) (by omega) hX rfl
  have h2 : ((DS.fresh 150 z).put 3 X).now.length = 150 := by unfold DS.fresh DS.put; simp
  have e2 := err1_plain (S := (DS.fresh 150 z).put 3 X) (i := 4) (by omega) hX rfl
  have w2 := write1_plain (S := (DS.fresh 150 z).put 3 X) (i := 4) (by omega) hX rfl
  have e1 : (DS.fresh 150 z).err1 3 X = 0 := e1
  have w1 : (DS.fresh 150 z).write1 3 X = (DS.fresh 150 z).put 3 X := w1
  have e2 : ((DS.fresh 150 z).put 3 X).err1 4 X = 0 := e2
  have w2 : ((DS.fresh 150 z).put 3 X).write1 4 X = ((DS.fresh 150 z).put 3 X).put 4 X := w2
  constructor
  · unfold DS.errW
    rw [if_pos (show (DS.fresh 150 z).on = true from rfl)]
    simp only [DS.errL, e1, w1, e2, if_true]
  · unfold DS.write
    rw [if_pos (show (DS.fresh 150 z).on = true from rfl)]
    simp only [DS.writeL, e1, w1, e2, w2, if_true]
    rfl

/-- The disk at hand behind the first writes; behind the crash. -/
def liveS (z X : ByteArray) : DS := { now := ((List.replicate 150 z).set 3 X).set 4 X, safe := List.replicate 150 z, dirty := [(3, X), (4, X)], on := true, writes := 2, armed := false, left := 0, keep := [] }
def liveT (z X : ByteArray) (on : Bool) : DS := { now := (List.replicate 150 z).set 3 X, safe := (List.replicate 150 z).set 3 X, dirty := [], on := on, writes := 2, armed := false, left := 0, keep := [] }
theorem liveS_ok (z X : ByteArray) : (liveS z X).Ok := by
  refine ⟨rfl, fun w hw => ?_⟩
  unfold liveS at hw ⊢
  simp at hw ⊢
  rcases hw with rfl | rfl
  · show 3 < 150; omega
  · show 4 < 150; omega
theorem live_crash (z X : ByteArray) : (liveS z X).crash [1] = liveT z X false ∧ (liveS z X).lost [1] = 1 := by
  constructor
  · rfl
  · rfl
theorem live_read (z X : ByteArray) : (liveT z X true).read 3 = X ∧ (liveT z X true).errR 3 = 0 ∧ (liveT z X true).read 4 = z ∧ (liveT z X true).errR 4 = 0 ∧ (liveT z X true).now.length = 150 := by
  have hl : (liveT z X true).now.length = 150 := by unfold liveT; simp
  refine ⟨?_, ?_, ?_, ?_, hl⟩
  · unfold DS.read; rw [if_pos ⟨rfl, by decide, by rw [hl]; decide⟩]; rfl
  · unfold DS.errR; rw [if_pos (show (liveT z X true).on = true from rfl), if_pos ⟨by decide, by rw [hl]; decide⟩]
  · unfold DS.read; rw [if_pos ⟨rfl, by decide, by rw [hl]; decide⟩]; rfl
  · unfold DS.errR; rw [if_pos (show (liveT z X true).on = true from rfl), if_pos ⟨by decide, by rw [hl]; decide⟩]
theorem live_small (z X : ByteArray) (hz : z.size = 256) (hX : X.size = 256) : ∀ x ∈ (liveT z X true).now, x.size ≤ 100000 := by
  intro x hx
  have hx : x ∈ (List.replicate 150 z).set 3 X := hx
  rcases List.mem_or_eq_of_mem_set hx with h | h
  · rw [List.eq_of_mem_replicate h]; omega
  · rw [h]; omega

end Go.Proofs.YtbaanoomilohhaaGreatDoor

namespace Go.Proofs.YtbaanoomilohhaaGreatDoor
open Go.ChangeShapes Go.WideShapes Go.ChangeAt Go.RowKit
open Go.WideMaps Go.WideElems

theorem i64_and1 (n : Int) : bits .and .i64 n 1 = n % 2 := by
  have h1 : (BitVec.ofInt 64 1).toNat = 2 ^ 1 - 1 := by decide
  have key : (BitVec.ofInt 64 n &&& BitVec.ofInt 64 1).toNat = (n % ((2 ^ 64 : Nat) : Int)).toNat % 2 ^ 1 := by
    rw [BitVec.toNat_and, BitVec.toNat_ofInt, h1, Nat.and_two_pow_sub_one_eq_mod]
  show IntKind.i64.wrap ((BitVec.ofInt 64 n &&& BitVec.ofInt 64 1).toNat : Nat) = n % 2
  rw [key, IntKind.wrap_i64]
  omega
theorem odd_and {y : Int} (h : oddI y = true) : bits .and .i64 y 1 = 1 := by
  rw [i64_and1]
  simpa [oddI] using h
theorem even_and {y : Int} (h : oddI y = false) : bits .and .i64 y 1 = 0 := by
  rw [i64_and1]
  have h1 : ¬ y % 2 = 1 := by simpa [oddI] using h
  omega

/-- Numbers as they came in. -/
structure IntsIn (w : World) (A : Option Addr) (m c : Nat) (l : List Int) : Prop where
  len : l.length = m
  lie : IntsD w A l
  nil_ : A = none → m = 0 ∧ c = 0
  few : m ≤ 9223372036854775807
  fits : ∀ n ∈ l, -9223372036854775808 ≤ n ∧ n ≤ 9223372036854775807
theorem cellsInt : Tryz.prog.cellsOf 3 = 1 := by kernel_rfl
theorem view_intsD {H : Type} {enc : TypeId × Value → H} {W : World} {a : Option Addr} {n c : Nat} {d : DataW H} {p : List MemPlace} (h : DataW.Trod enc Tryz.prog W 0 (fun _ => true) true 35 (.slice a n c) d p) :
    ∃ l : List Int, IntsIn W a n c l := by
  obtain ⟨fuel, hf⟩ := h
  rcases open_ints Tryz.underlying35 Tryz.underlying3 cellsInt hf with ⟨hcs, _⟩ | ⟨a', len, cap, zs, hcs, _, hl, hcap, hz, _, hc, hw⟩
  · simp [Value.cells] at hcs
    obtain ⟨rfl, rfl, rfl⟩ := hcs
    exact ⟨[], rfl, IntsD.nil _ _, fun _ => ⟨rfl, rfl⟩, by omega, by simp⟩
  · simp [Value.cells] at hcs
    obtain ⟨rfl, rfl, rfl⟩ := hcs
    simp only [if_true] at hz
    have hmax : maxLen = 9223372036854775807 := rfl
    have hlen : (zs.take n).length = n := by rw [List.length_take]; omega
    refine ⟨zs.take n, hlen, ?_, (fun e => by cases e), by omega, fun x hx => bounds_i64 (hw x (List.mem_of_mem_take hx))⟩
    intro hpos
    rw [hlen] at hpos
    obtain ⟨b, off, rfl, hb, hc'⟩ := plain_at hc (by omega)
    refine ⟨b, off, rfl, hb, fun j x hx => ?_⟩
    rw [List.getElem?_take] at hx
    split at hx
    · have := hc' j (by omega)
      rw [this, List.getD_eq_getElem?_getD, hx]
      rfl
    · cases hx
end Go.Proofs.YtbaanoomilohhaaGreatDoor

namespace Go.Proofs.YtbaanoomilohhaaGreatDoor
open Go.RowKit

theorem ints_cells {w : World} {B b off : Nat} {xs : List Int} (hc : ∀ (j : Nat) (x : Int), xs[j]? = some x → w.cell? ⟨b, off + j, none⟩ = some (.int .i64 x)) (_hB : b < B) :
    ∀ (j : Nat) (u : Value), (xs.map (Value.int .i64))[j]? = some u → w.cell? ((⟨b, off, none⟩ : Addr).add j) = some u := by
  intro j u hu
  rw [List.getElem?_map] at hu
  obtain ⟨x, hx, rfl⟩ := Option.map_eq_some_iff.1 hu
  rw [Go.WideShapes.add_plain]
  exact hc j x hx

/-- A list lent: it lies in a block of its own, with a mark behind it that it has room for. -/
def LentI (w : World) (B g cap : Nat) (xs : List Int) : Prop :=
  B ≤ g ∧ g < w.heap.size ∧ xs.length + 1 ≤ cap ∧ cap ≤ 9223372036854775807 ∧ ∀ (j : Nat) (x : Int), (xs ++ [(-77)])[j]? = some x → w.cell? ⟨g, j, none⟩ = some (.int .i64 x)
theorem LentI.below {w w' : World} {B g cap : Nat} {xs : List Int} (h : LentI w B g cap xs) (hb : Below w.heap.size w w') : LentI w' B g cap xs := by
  obtain ⟨h0, h1, h2, h3, h4⟩ := h
  exact ⟨h0, Nat.lt_of_lt_of_le h1 hb.size, h2, h3, fun j x hx => (hb.cell (p := ⟨g, j, none⟩) h1).trans (h4 j x hx)⟩
theorem LentI.ints {w : World} {B g cap : Nat} {xs : List Int} (h : LentI w B g cap xs) : IntsD w (some ⟨g, 0, none⟩) xs := by
  obtain ⟨h0, h1, h2, h3, h4⟩ := h
  intro _
  refine ⟨g, 0, rfl, h1, fun j x hx => ?_⟩
  rw [Nat.zero_add]
  have hj : j < xs.length := by
    rcases Nat.lt_or_ge j xs.length with h | h
    · exact h
    · rw [List.getElem?_eq_none h] at hx; cases hx
  exact h4 j x (by rw [List.getElem?_append_left hj]; exact hx)


end Go.Proofs.YtbaanoomilohhaaGreatDoor

namespace Go.Proofs.YtbaanoomilohhaaGreatDoor
open Go.RowKit

def flatI (l : List (Int × ByteArray)) : List Value := l.flatMap fun x => [.int .i64 x.1, .string x.2]
theorem flatI_len (l : List (Int × ByteArray)) : (flatI l).length = l.length * 2 := by
  induction l with
  | nil => rfl
  | cons x r ih => show (_ :: _ :: flatI r).length = _; rw [List.length_cons, List.length_cons, ih, List.length_cons]; omega
theorem flatI_get {l : List (Int × ByteArray)} {j : Nat} {x : Int × ByteArray} (h : l[j]? = some x) : (flatI l)[2 * j]? = some (.int .i64 x.1) ∧ (flatI l)[2 * j + 1]? = some (.string x.2) := by
  induction l generalizing j with
  | nil => cases h
  | cons y r ih =>
    have e : flatI (y :: r) = .int .i64 y.1 :: .string y.2 :: flatI r := rfl
    rw [e]
    cases j with
    | zero =>
      rw [List.getElem?_cons_zero] at h
      injection h with h
      subst h
      exact ⟨rfl, rfl⟩
    | succ j =>
      rw [List.getElem?_cons_succ] at h
      have := ih h
      rw [show 2 * (j + 1) = (2 * j + 1) + 1 by omega, show (2 * j + 1) + 1 + 1 = (2 * j + 1 + 1) + 1 by omega]
      simp only [List.getElem?_cons_succ]
      exact this
theorem flatI_cells {l : List (Int × ByteArray)} {f : Nat → Option Value} (h : ∀ (j : Nat) (x : Int × ByteArray), l[j]? = some x → f (j * 2) = some (.int .i64 x.1) ∧ f (j * 2 + 1) = some (.string x.2)) : ∀ (j : Nat) (u : Value), (flatI l)[j]? = some u → f j = some u := by
  intro j u hu
  have hj : j < l.length * 2 := by
    rcases Nat.lt_or_ge j (l.length * 2) with h | h
    · exact h
    · rw [List.getElem?_eq_none (by rw [flatI_len]; exact h)] at hu; cases hu
  obtain ⟨x, hx⟩ : ∃ x, l[j / 2]? = some x := ⟨l[j / 2]'(by omega), List.getElem?_eq_getElem (by omega)⟩
  obtain ⟨q1, q2⟩ := flatI_get hx
  obtain ⟨h1, h2⟩ := h _ _ hx
  rcases Nat.mod_two_eq_zero_or_one j with e | e
  · have ej : 2 * (j / 2) = j := by omega
    have ej' : j / 2 * 2 = j := by omega
    rw [ej] at q1
    rw [ej'] at h1
    rw [hu] at q1
    rw [h1, ← q1]
  · have ej : 2 * (j / 2) + 1 = j := by omega
    have ej' : j / 2 * 2 + 1 = j := by omega
    rw [ej] at q2
    rw [ej'] at h2
    rw [hu] at q2
    rw [h2, ← q2]
theorem flatI_one {l : List (Int × ByteArray)} : ∀ u ∈ flatI l, u.oneCell' = true := by
  intro u hu
  unfold flatI at hu
  simp only [List.mem_flatMap] at hu
  obtain ⟨x, _, hu⟩ := hu
  simp at hu
  rcases hu with rfl | rfl <;> rfl

/-- A list of writes as a slice: nil, empty or not. -/
def WIn (w : World) (A : Option Addr) (l : List (Int × ByteArray)) : Prop :=
  0 < l.length → ∃ b off, A = some ⟨b, off, none⟩ ∧ b < w.heap.size ∧ ∀ (j : Nat) (x : Int × ByteArray), l[j]? = some x → w.cell? ⟨b, off + j * 2, none⟩ = some (.int .i64 x.1) ∧ w.cell? ⟨b, off + j * 2 + 1, none⟩ = some (.string x.2)
theorem WIn.below {w w' : World} {A : Option Addr} {l : List (Int × ByteArray)} (h : WIn w A l) (hb : Below w.heap.size w w') : WIn w' A l := fun hp => by
  obtain ⟨b, off, e, hl, hc⟩ := h hp
  exact ⟨b, off, e, Nat.lt_of_lt_of_le hl hb.size, fun j x hx => ⟨(hb.cell (p := ⟨b, off + j * 2, none⟩) hl).trans (hc j x hx).1, (hb.cell (p := ⟨b, off + j * 2 + 1, none⟩) hl).trans (hc j x hx).2⟩⟩

set_option maxRecDepth 100000 in
set_option maxHeartbeats 1000000 in
theorem wcopy_any (A : Option Addr) (m c : Nat) (xs : List (Int × ByteArray)) (w : World) (hm : xs.length = m) (hx : WIn w A xs) (hl : m ≤ 1000000) (h0 : A = none → c = 0) :
    Calls Tryz.prog 33 #[.slice A m c] w fun e w' => ∃ v, e = .returned v ∧ w'.ownsRow w.heap.size 39 2 v m (flatI xs) ∧ Below w.heap.size w w' := by
  obtain ⟨i0, hi, hz0, hz1, hz2⟩ := info_parts clwrites_info
  have HX := Lib.hid hx
  have HM := Lib.hid hm
  have H0 := Lib.hid h0
  clear hx hm h0
  rcases A with _ | ad
  · obtain rfl : c = 0 := H0.out rfl
    have hm0 : m = 0 := by
      rcases Nat.eq_zero_or_pos m with h | h
      · exact h
      · obtain ⟨b, off, e, _⟩ := HX.out (by rw [HM.out]; exact h)
        cases e
    subst hm0
    have hxs : xs = [] := List.eq_nil_of_length_eq_zero HM.out
    subst hxs
    go_enter Tryz.func33, Tryz.ntmps33
    go_wp2_with (at_builtin; refine wpList_append_own_none rfl _ _ 34 rfl w.heap.size 39 i0 2 Tryz.underlying34 hi (.slice none 0 0) 0 [] rfl (World.ownsRow_nil _ _ _ _) rfl ?_)
    go_ret
    exact ⟨_, rfl, World.ownsRow_nil _ _ _ _, Below.refl _ _⟩
  · have hnews : ∀ (j : Nat) (u : Value), (flatI xs)[j]? = some u → w.cell? (ad.add j) = some u := by
      intro j u hu
      have hj : 0 < xs.length := by
        cases xs with
        | nil => cases hu
        | cons _ _ => simp
      obtain ⟨b, off, e, hB, hc⟩ := HX.out hj
      injection e with e
      subst e
      rw [Go.WideShapes.add_plain]
      exact flatI_cells (f := fun j => w.cell? ⟨b, off + j, none⟩) (fun j x hx => hc j x hx) j u hu
    have HN := Lib.hid hnews
    have HO := Lib.hid (flatI_one (l := xs))
    have HK : Hid ((flatI xs).length = m * 2) := Lib.hid (by rw [flatI_len, HM.out])
    clear hnews
    go_enter Tryz.func33, Tryz.ntmps33
    go_wp2_with (at_builtin; refine wpList_append_own _ rfl _ _ 34 rfl w.heap.size 39 i0 (.agg #[.int .i64 0, .string .empty]) 2 24 Tryz.underlying34 hi hz0 hz1 hz2 rfl (by omega) (.slice none 0 0) 0 [] rfl (World.ownsRow_nil _ _ _ _) ad m c (flatI xs) rfl HK.out HN.out HO.out (by unfold maxLen; omega) (by omega) (Nat.le_refl _) ?_; intro v1 w1 hown1 hg1 _)
    have hb1 : Below w.heap.size w w1 := (Below.refl _ _).grown hg1 (Nat.le_refl _) (by simp [Value.ownBlock])
    clear hg1
    have HOW := Lib.hid hown1
    clear hown1
    go_wp2_with fail
    go_ret
    exact ⟨v1, rfl, by simpa using HOW.out, hb1⟩

/-- A list lent: it lies in a block of its own, with a mark behind it that it has room for. -/
def LentW (w : World) (B g cap : Nat) (xs : List (Int × ByteArray)) : Prop :=
  B ≤ g ∧ g < w.heap.size ∧ xs.length + 1 ≤ cap ∧ cap ≤ 9223372036854775807 ∧ ∀ (j : Nat) (x : Int × ByteArray), (xs ++ [(-77, ⟨#[]⟩)])[j]? = some x → w.cell? ⟨g, j * 2, none⟩ = some (.int .i64 x.1) ∧ w.cell? ⟨g, j * 2 + 1, none⟩ = some (.string x.2)
theorem LentW.below {w w' : World} {B g cap : Nat} {xs : List (Int × ByteArray)} (h : LentW w B g cap xs) (hb : Below w.heap.size w w') : LentW w' B g cap xs := by
  obtain ⟨h0, h1, h2, h3, h4⟩ := h
  exact ⟨h0, Nat.lt_of_lt_of_le h1 hb.size, h2, h3, fun j x hx => ⟨(hb.cell (p := ⟨g, j * 2, none⟩) h1).trans (h4 j x hx).1, (hb.cell (p := ⟨g, j * 2 + 1, none⟩) h1).trans (h4 j x hx).2⟩⟩
theorem LentW.wrts {w : World} {B g cap : Nat} {xs : List (Int × ByteArray)} (h : LentW w B g cap xs) : WIn w (some ⟨g, 0, none⟩) xs := by
  obtain ⟨h0, h1, h2, h3, h4⟩ := h
  intro _
  refine ⟨g, 0, rfl, h1, fun j x hx => ?_⟩
  rw [Nat.zero_add]
  have hj : j < xs.length := by
    rcases Nat.lt_or_ge j xs.length with h | h
    · exact h
    · rw [List.getElem?_eq_none h] at hx; cases hx
  exact h4 j x (by rw [List.getElem?_append_left hj]; exact hx)

set_option maxRecDepth 100000 in
set_option maxHeartbeats 1000000 in
theorem wsame_any (A B : Option Addr) (m c d : Nat) (xs : List (Int × ByteArray)) (w : World) (hm : xs.length = m) (hx : WIn w A xs) (hy : WIn w B xs) (hl : m ≤ 1000000) :
    Calls Tryz.prog 38 #[.slice A m c, .slice B m d] w fun e w' => e = .returned (.bool true) ∧ ∃ n, w' = w.drewN n := by
  have HX := Lib.hid hx
  have HY := Lib.hid hy
  have HM := Lib.hid hm
  clear hx hm hy
  go_enter Tryz.func38, Tryz.ntmps38
  go_wp2_with fail
  go_loopw [5] (fun i wr => ∃ (j n : Nat), j ≤ m ∧ i = .int .i64 j ∧ wr = w.drewN n) (fun i _ => m - (intOf i).toNat)
  case atStart => exact ⟨0, 0, Nat.zero_le _, rfl, rfl⟩
  case round =>
    obtain ⟨j, n, hj, rfl, rfl⟩ := hrel
    by_cases hlt : j < m
    · have hxl : j < xs.length := by rw [HM.out]; exact hlt
      obtain ⟨b, off, hA, hbB, hc⟩ := HX.out (by omega)
      obtain ⟨b', off', hA', hbB', hc'⟩ := HY.out (by omega)
      obtain ⟨x, hx⟩ : ∃ x, x = xs[j] := ⟨_, rfl⟩
      have hxj : xs[j]? = some x := by rw [hx]; exact List.getElem?_eq_getElem hxl
      obtain ⟨d0, d1⟩ := hc j x hxj
      obtain ⟨d2, d3⟩ := hc' j x hxj
      obtain ⟨xa, xs'⟩ := x
      simp only at d0 d1 d2 d3
      clear hxj hc hx hc'
      subst hA
      subst hA'
      go_wp2_with fail
      go_quiet (fail)
      go_wp2_with fail
      go_roundw
      case rel => exact ⟨j + 1, _, by omega, by go_num, rfl⟩
      case measure => simp [intOf]; omega
    · obtain rfl : j = m := by omega
      go_wp2_with fail
      go_ret
      exact ⟨rfl, _, rfl⟩

set_option maxRecDepth 100000 in
set_option maxHeartbeats 1000000 in
theorem wlent_any (A : Option Addr) (m c : Nat) (xs : List (Int × ByteArray)) (w : World) (hm : xs.length = m) (hx : WIn w A xs) (hl : m ≤ 900000) (h0 : A = none → c = 0) :
    Calls Tryz.prog 11 #[.slice A m c] w fun e w' => ∃ g cap, e = .returned (.slice (some ⟨g, 0, none⟩) m cap) ∧ LentW w' w.heap.size g cap xs ∧ Below w.heap.size w w' := by
  obtain ⟨i0, hi, hz0, hz1, hz2⟩ := info_parts clwrites_info
  have HC := Lib.hid (wcopy_any A m c xs w hm hx (by omega) h0)
  have HM := Lib.hid hm
  clear hx hm h0
  go_enter Tryz.func11, Tryz.ntmps11
  go_wp2_with fail
  refine HC.out.mono ?_
  rintro e w1 ⟨v, rfl, hown, hb1⟩
  have HOWN := Lib.hid hown
  clear hown
  go_wp2_with (at_builtin; refine wpList_append_lies _ rfl (.tmp 4) (.tmp 6) 34 rfl w.heap.size 39 i0 (.agg #[.int .i64 0, .string .empty]) 2 24 Tryz.underlying34 hi hz0 hz1 hz2 rfl (by omega) _ m _ rfl (HOWN.out.alloc _) ⟨w1.heap.size, 0, none⟩ 1 1 [.int .i64 (-77), .string ⟨#[]⟩] rfl rfl ?c1 ?c2 (by omega) (by unfold maxLen; omega) (by omega) (by have := hb1.size; simp; omega) _ rfl ?_)
  case c1 => exact World.news_of_block (heap_alloc_new w1 _)
  case c2 => intro u hu; simp at hu; rcases hu with rfl | rfl <;> rfl
  intro g cap w2 hown2 hg2 hor hlt2
  have hb2 : Below w.heap.size w w2 := (hb1.alloc hb1.size _).grown hg2 (by have := hb1.size; simp; omega) (fun k hk => (HOWN.out.lt k hk).1)
  have hform : m + 1 ≤ cap ∧ cap ≤ 9223372036854775807 ∧ w.heap.size ≤ g := by
    rcases hown2.2 with ⟨h, _⟩ | ⟨g', cap', cur, h, hg', _, h1, h2, _⟩
    · cases h
    · injection h with e1 e2 e3
      injection e1 with e1
      injection e1 with e1
      subst e1 e3
      exact ⟨h1, h2, hg'⟩
  obtain ⟨hc1, hc2, hc3⟩ := hform
  have hlent : LentW w2 w.heap.size g cap xs := by
    refine ⟨hc3, hlt2, by rw [HM.out]; exact hc1, hc2, fun j x hx => ?_⟩
    have e : flatI xs ++ [Value.int .i64 (-77), .string ⟨#[]⟩] = flatI (xs ++ [(-77, ⟨#[]⟩)]) := by simp [flatI]
    obtain ⟨q1, q2⟩ := flatI_get hx
    rw [← e] at q1 q2
    have r1 := hown2.cells (g := g) rfl _ _ q1
    have r2 := hown2.cells (g := g) rfl _ _ q2
    rw [Go.WideShapes.add_plain, Nat.zero_add] at r1 r2
    rw [Nat.mul_comm j 2]
    exact ⟨r1, r2⟩
  have HL := Lib.hid hlent
  clear hlent hown2 hg2 hor hb1
  go_wp2_with fail
  go_ret
  exact ⟨g, cap, rfl, HL.out, hb2⟩

set_option maxRecDepth 100000 in
set_option maxHeartbeats 1000000 in
theorem wstays_any (g cap : Nat) (A : Option Addr) (m d : Nat) (xs : List (Int × ByteArray)) (B0 : Nat) (w : World) (hm : xs.length = m) (hL : LentW w B0 g cap xs) (hx : WIn w A xs) (hl : m ≤ 1000000) :
    Calls Tryz.prog 13 #[.slice (some ⟨g, 0, none⟩) m cap, .slice A m d] w fun e w' => e = .returned (.bool true) ∧ ∃ n, w' = w.drewN n := by
  have HS := Lib.hid (wsame_any (some ⟨g, 0, none⟩) A m cap d xs w hm hL.wrts hx hl)
  obtain ⟨h0, h1, h2, h3, h4⟩ := hL
  have hc : w.cell? ⟨g, m * 2, none⟩ = some (.int .i64 (-77)) := (h4 m (-77, ⟨#[]⟩) (by rw [List.getElem?_append_right (by omega), hm, Nat.sub_self]; rfl)).1
  have h2' : m + 1 ≤ cap := by omega
  clear hx hm h0 h4 h2
  go_enter Tryz.func13, Tryz.ntmps13
  go_wp2_with fail
  refine HS.out.mono ?_
  rintro e w1 ⟨rfl, n, rfl⟩
  go_wp2_with fail
  go_ret
  exact ⟨rfl, n, rfl⟩
end Go.Proofs.YtbaanoomilohhaaGreatDoor
