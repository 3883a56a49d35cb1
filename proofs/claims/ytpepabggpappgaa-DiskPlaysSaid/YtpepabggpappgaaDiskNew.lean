/-
  A new disk: sectors of zero bytes. No statement is proved here.
-/
import Derived.Test.YtpepabggpappgaaDiskCalls
import Derived.Test.YtpepabggpappgaaBytes
namespace Go.Proofs.Ytpepabggpappgaa
open Go.RowKit

theorem exec_copy {P : Program} {o : Oper} {x : Act} {s1 s2 : Operand} {t1 t2 : TypeId} {v1 v2 v : Value} {w w' : World} (ho : o.op = .call { callee := .builtin .copy, args := #[s1, s2], argTypes := #[t1, t2] }) (h1 : x.eval s1 = v1) (h2 : x.eval s2 = v2)
    (hr : (Builtin.copy_ #[t1, t2] o.type #[v1, v2]).run P w = .ok v w') : (execOp x.eval o).run P w = .ok (.value v) w' := by
  unfold execOp
  simp only [ho, resolve, invoke, builtin, Sem.run_bind, Sem.run_pure, Result.andThen_ok, List.map_toArray, List.map_cons, List.map_nil, h1, h2, hr]

theorem mul_any (x y : Nat) (hx : x < 18446744073709551616) (hy : y < 18446744073709551616) (w : World) :
    Calls Try.prog 41 #[.int .u64 x, .int .u64 y] w fun e w' => e = .returned (.tuple #[.int .u64 ((x * y / 18446744073709551616 : Nat) : Int), .int .u64 ((x * y % 18446744073709551616 : Nat) : Int)]) ∧ w' = w := Any.bits_Mul { lays105 with } x y hx hy w

/-- k texts z, and empty ones up to n. -/
def repC (z : ByteArray) (k n : Nat) : List Value := List.replicate k (Value.string z) ++ List.replicate (n - k) (Value.string .empty)
theorem repC_len (z : ByteArray) {k n : Nat} (h : k ≤ n) : (repC z k n).length = n := by unfold repC; simp; omega
theorem repC_all (z : ByteArray) (n : Nat) : repC z n n = (List.replicate n z).map Value.string := by unfold repC; simp








theorem str_size : (Try.prog.info? 9).map (·.size) = some 1 := by kernel_rfl
theorem repC_get (z : ByteArray) {k n j : Nat} {u : Value} (h : (List.replicate j (Value.string z))[k]? = some u) : (repC z j n)[k]? = some u := by
  unfold repC
  have hk : k < j := by
    rcases Nat.lt_or_ge k j with h1 | h1
    · exact h1
    · rw [List.getElem?_eq_none (by simpa using h1)] at h; cases h
  rw [List.getElem?_append_left (by simpa using hk)]
  exact h
/-- What stands behind a copy of the head. -/
theorem repC_next (z : ByteArray) {k d n : Nat} (hd : k + d ≤ n) : (repC z k n).take k ++ List.replicate d (Value.string z) ++ (repC z k n).drop (k + d) = repC z (k + d) n := by
  apply List.ext_getElem?
  intro i
  unfold repC
  simp only [List.getElem?_append, List.length_append, List.length_take, List.length_replicate, List.getElem?_take, List.getElem?_drop, List.getElem?_replicate]
  have e1 : min k (k + (n - k)) = k := by omega
  simp only [e1]
  by_cases h1 : i < k
  · simp [h1, show i < k + d by omega]
  · by_cases h2 : i < k + d
    · simp [h1, h2, show i - k < d by omega]
    · by_cases h3 : i < n
      · simp [h2, show ¬ (k + d + (i - (k + d)) < k) by omega, show k + d + (i - (k + d)) - k < n - k by omega, show i - (k + d) < n - (k + d) by omega]
      · simp [h2, show ¬ (k + d + (i - (k + d)) < k) by omega, show ¬ (k + d + (i - (k + d)) - k < n - k) by omega, show ¬ (i - (k + d) < n - (k + d)) by omega]

set_option maxRecDepth 100000 in
set_option maxHeartbeats 4000000 in
theorem srep_any (z : ByteArray) (n g0 : Nat) (w : World) (hn : n ≤ 5000) (hn1 : 1 ≤ n) (hg : w.cell? ⟨g0, 0, none⟩ = some (.string z)) :
    Calls Try.prog 22 #[.slice (some ⟨g0, 0, none⟩) 1 1, .int .i64 (n : Int)] w fun e w' => e = .returned (.slice (some ⟨w.heap.size, 0, none⟩) n n) ∧ Blk w' w.heap.size 9 ((List.replicate n z).map Value.string).toArray ∧ Below w.heap.size w w' := by
  have HM := Lib.hid (mul_any 1 n (by omega) (by omega) w)
  rw [Nat.one_mul, Nat.div_eq_of_lt (by omega : n < 18446744073709551616), Nat.mod_eq_of_lt (by omega : n < 18446744073709551616)] at HM
  obtain ⟨i0, hi0, hz0, hz1, hz2⟩ := info_parts cltexts_info
  obtain ⟨q, hq⟩ : ∃ q : Int, q = (n : Int) := ⟨_, rfl⟩
  have HQ := Lib.hid hq
  have q0 : 1 ≤ q := by omega
  have q1 : q ≤ 5000 := by omega
  have hmk : (Instr.makeSlice 51 (.int .i64 q) (.int .i64 q)).run Try.prog w = .ok (.slice (some ⟨w.heap.size, 0, none⟩) n n) (w.alloc (.cells (repC z 0 n).toArray 9)) := by
    have hr := run_makeSlice (P := Try.prog) w 51 9 i0 (.string .empty) Try.underlying51 hi0 hz0 .i64 .i64 q q (by omega) (Int.le_refl _) (by rw [hz1]; omega) (by rw [hz2]; omega) (by omega)
    have hc : madeCells (Value.string .empty).cells (q.toNat * i0.size) = (repC z 0 n).toArray := by
      rw [hz1, Nat.mul_one, hq, Int.toNat_natCast]
      refine Array.toList_inj.1 ?_
      rw [show (Value.string .empty).cells = #[Value.string .empty] from rfl, toList_madeCells_one]
      simp [repC]
    rw [hc, show q.toNat = n by omega] at hr
    exact hr
  rw [← hq] at HM ⊢
  have hgl := World.block_lt_of_cell? w _ hg
  have hB0 : Blk (w.alloc (.cells (repC z 0 n).toArray 9)) w.heap.size 9 (repC z 0 n).toArray := Blk.new w _ _
  have hcp := run_copy_row (P := Try.prog) (w.alloc (.cells (repC z 0 n).toArray 9)) 51 51 3 9 w.heap.size 0 n n ⟨g0, 0, none⟩ 1 1 (repC z 0 n).toArray 9 [.string z] Try.underlying51 str_size hB0 (by show 1 = min 1 n; omega)
    (by
      intro j v hj
      have : j = 0 := by
        rcases Nat.lt_or_ge j 1 with h | h
        · omega
        · rw [List.getElem?_eq_none (by simpa using h)] at hj; cases hj
      subst this
      simp at hj
      subst hj
      rw [Go.WideShapes.add_plain, World.cell?_of_block (Below.heap_alloc w _ g0 hgl)]
      exact hg) (by simp [repC]; omega) (by intro v hv; simp at hv; subst hv; rfl)
  have hrc : ((repC z 0 n).toArray.toList.take 0 ++ [Value.string z] ++ (repC z 0 n).toArray.toList.drop (0 + [Value.string z].length)) = repC z 1 n := by
    have := repC_next z (k := 0) (d := 1) (n := n) (by omega)
    simpa using this
  rw [hrc] at hcp
  obtain ⟨W1, hW1⟩ : ∃ W1, W1 = (w.alloc (.cells (repC z 0 n).toArray 9)).setRow w.heap.size (repC z 1 n).toArray := ⟨_, rfl⟩
  rw [← hW1] at hcp
  have hcp : (Builtin.copy_ #[51, 51] 3 #[.slice (some ⟨w.heap.size, 0, none⟩) n n, .slice (some ⟨g0, 0, none⟩) 1 1]).run Try.prog (w.alloc (.cells (repC z 0 n).toArray 9)) = .ok (.int .i64 1) W1 := hcp
  have HB1 : Hid (Blk W1 w.heap.size 9 (repC z 1 n).toArray) := Lib.hid (by rw [hW1]; exact blk_setRow hB0 _)
  have HK1 : Hid (Below w.heap.size w W1) := Lib.hid (by
    rw [hW1]
    exact below_setRow ((Below.refl _ _).alloc (Nat.le_refl _) _) (Nat.le_refl _) _)
  have HN1 := Lib.hid hn1
  clear hq hg hgl hi0 hz0 hz1 hz2 hB0 hrc hW1 hn1
  go_enter Try.func22, Try.ntmps22
  go_wp2_with (first
    | (go_at_call 41; refine HM.out.mono ?_; rintro e w1 ⟨rfl, hw⟩; rw [hw]; clear hw)
    | fail)
  clear hcp hmk
  go_loopw [8] (fun v wr => ∃ k : Nat, 1 ≤ k ∧ k ≤ n ∧ v = .int .i64 k ∧ Blk wr w.heap.size 9 (repC z k n).toArray ∧ Below w.heap.size w wr) (fun v _ => n - (intOf v).toNat)
  case atStart => exact ⟨1, Nat.le_refl _, HN1.out, rfl, HB1.out, HK1.out⟩
  case round =>
    obtain ⟨k, hk1, hkn, rfl, hb, hbe⟩ := hrel
    have HB := Lib.hid hb
    have HBE := Lib.hid hbe
    clear hb hbe HB1 HK1
    by_cases hlt : k < n
    · go_upto_region 9 with fail
      obtain ⟨d, hd⟩ : ∃ d, d = min k (n - k) := ⟨_, rfl⟩
      have hd1 : d ≤ k := by omega
      have hd2 : k + d ≤ n := by omega
      have hd3 : 1 ≤ d := by omega
      have hcp := run_copy_row (P := Try.prog) wr.drew 51 51 3 9 w.heap.size k (n - k) (n - k) ⟨w.heap.size, 0, none⟩ k n (repC z k n).toArray 9 (List.replicate d (.string z)) Try.underlying51 str_size HB.out.drew (by rw [List.length_replicate]; show d = min k (n - k); omega)
        (by
          intro j v hj
          rw [Go.WideShapes.add_plain, Nat.zero_add, HB.out.drew.cell]
          rw [List.getElem?_toArray]
          refine repC_get z ?_
          rw [List.getElem?_replicate] at hj ⊢
          split at hj
          · rw [if_pos (by omega)]; exact hj
          · cases hj) (by rw [List.length_replicate, List.size_toArray, repC_len z hkn]; exact hd2) (by intro v hv; rw [List.eq_of_mem_replicate hv]; rfl)
      rw [List.length_replicate, List.toList_toArray, repC_next z hd2] at hcp
      obtain ⟨W2, hW2⟩ : ∃ W2, W2 = wr.drew.setRow w.heap.size (repC z (k + d) n).toArray := ⟨_, rfl⟩
      rw [← hW2] at hcp
      have HCP : Hid ((Builtin.copy_ #[51, 51] 3 #[.slice (some ⟨w.heap.size, k, none⟩) (n - k) (n - k), .slice (some ⟨w.heap.size, 0, none⟩) k n]).run Try.prog wr.drew = .ok (.int .i64 (d : Int)) W2) := Lib.hid hcp
      have HB2 : Hid (Blk W2 w.heap.size 9 (repC z (k + d) n).toArray) := Lib.hid (by rw [hW2]; exact blk_setRow HB.out.drew _)
      have HK2 : Hid (Below w.heap.size w W2) := Lib.hid (by rw [hW2]; exact below_setRow HBE.out.drew (Nat.le_refl _) _)
      have HD := Lib.hid (And.intro hd1 (And.intro hd2 hd3))
      have hnI : (k : Int) ≤ (n : Int) := by omega
      have hne : ¬ n = k := by omega
      have hk0 : (n - k : Nat) = n - k := rfl
      clear hcp hW2 hd hd1 hd2 hd3 hk0
      refine wp_region_sinks 38 9 46 1 (fun | 0 => .int .i64 (k : Int) | 1 => .slice (some ⟨w.heap.size, 0, none⟩) n n | 2 => .int .i64 (k : Int) | 3 => .slice (some ⟨w.heap.size, k, none⟩) (n - k) (n - k) | 4 => .slice (some ⟨w.heap.size, 0, none⟩) n n | 5 => .int .i64 (k : Int) | 6 => .slice (some ⟨w.heap.size, 0, none⟩) k n | 7 => .int .i64 (d : Int) | _ => .int .i64 ((k + d : Nat) : Int))
        (fun L w' => w' = if L 7 then W2 else wr.drew) (by kernel_rfl) (by kernel_rfl) rfl (by omega) (by kernel_rfl) rfl (by simp) rfl ?hops ?hrest
      case hops =>
        intro j hj L x w' hc hF hLj hJ hw hv
        have HJ := Lib.hid hJ
        clear hJ
        rcases (show j = 0 ∨ j = 1 ∨ j = 2 ∨ j = 3 ∨ j = 4 ∨ j = 5 ∨ j = 6 ∨ j = 7 ∨ j = 8 by omega) with rfl | rfl | rfl | rfl | rfl | rfl | rfl | rfl | rfl
        · have t0 : x.tmps[8]?.getD undef = .int .i64 (k : Int) := by rw [hF.2.2 8 (by omega)]; rfl
          clear hw hv hF
          refine wpOp_value (v := .int .i64 (k : Int)) (w' := w') rfl rfl ?_ ⟨rfl, HJ.out⟩
          go_simp
        · have t0 : x.tmps[7]?.getD undef = .slice (some ⟨w.heap.size, 0, none⟩) n n := by rw [hF.2.2 7 (by omega)]; rfl
          clear hw hv hF
          refine wpOp_value (v := .slice (some ⟨w.heap.size, 0, none⟩) n n) (w' := w') rfl rfl ?_ ⟨rfl, HJ.out⟩
          go_simp
        · have t0 : x.tmps[8]?.getD undef = .int .i64 (k : Int) := by rw [hF.2.2 8 (by omega)]; rfl
          clear hw hv hF
          refine wpOp_value (v := .int .i64 (k : Int)) (w' := w') rfl rfl ?_ ⟨rfl, HJ.out⟩
          go_simp
        · have t0 : x.tmps[39]?.getD undef = .slice (some ⟨w.heap.size, 0, none⟩) n n := hv 1 (of_decide_eq_true (by kernel_rfl)) (by omega)
          have t1 : x.tmps[40]?.getD undef = .int .i64 (k : Int) := hv 2 (of_decide_eq_true (by kernel_rfl)) (by omega)
          clear hw hv hF
          refine wpOp_value (v := .slice (some ⟨w.heap.size, k, none⟩) (n - k) (n - k)) (w' := w') rfl rfl ?_ ⟨rfl, HJ.out⟩
          go_simp
        · have t0 : x.tmps[7]?.getD undef = .slice (some ⟨w.heap.size, 0, none⟩) n n := by rw [hF.2.2 7 (by omega)]; rfl
          clear hw hv hF
          refine wpOp_value (v := .slice (some ⟨w.heap.size, 0, none⟩) n n) (w' := w') rfl rfl ?_ ⟨rfl, HJ.out⟩
          go_simp
        · have t0 : x.tmps[8]?.getD undef = .int .i64 (k : Int) := by rw [hF.2.2 8 (by omega)]; rfl
          clear hw hv hF
          refine wpOp_value (v := .int .i64 (k : Int)) (w' := w') rfl rfl ?_ ⟨rfl, HJ.out⟩
          go_simp
        · have t0 : x.tmps[42]?.getD undef = .slice (some ⟨w.heap.size, 0, none⟩) n n := hv 4 (of_decide_eq_true (by kernel_rfl)) (by omega)
          have t1 : x.tmps[43]?.getD undef = .int .i64 (k : Int) := hv 5 (of_decide_eq_true (by kernel_rfl)) (by omega)
          clear hw hv hF
          refine wpOp_value (v := .slice (some ⟨w.heap.size, 0, none⟩) k n) (w' := w') rfl rfl ?_ ⟨rfl, HJ.out⟩
          go_simp
        · have t0 : x.tmps[41]?.getD undef = .slice (some ⟨w.heap.size, k, none⟩) (n - k) (n - k) := hv 3 (of_decide_eq_true (by kernel_rfl)) (by omega)
          have t1 : x.tmps[44]?.getD undef = .slice (some ⟨w.heap.size, 0, none⟩) k n := hv 6 (of_decide_eq_true (by kernel_rfl)) (by omega)
          have hJ := HJ.out
          rw [hLj] at hJ
          have hJ' : w' = wr.drew := hJ
          subst hJ'
          clear hw hv hF hJ HJ
          exact wpOp_value (v := .int .i64 (d : Int)) (w' := W2) rfl rfl (exec_copy rfl (by simpa [Act.eval] using t0) (by simpa [Act.eval] using t1) HCP.out) ⟨rfl, by simp⟩
        · have t0 : x.tmps[38]?.getD undef = .int .i64 (k : Int) := hv 0 (of_decide_eq_true (by kernel_rfl)) (by omega)
          have t1 : x.tmps[45]?.getD undef = .int .i64 (d : Int) := hv 7 (of_decide_eq_true (by kernel_rfl)) (by omega)
          have hs : IntKind.i64.wrap ((k : Int) + (d : Int)) = (k : Int) + (d : Int) := by rw [IntKind.wrap_i64]; have := HD.out; omega
          have hb1 : (k : Int) ≤ 5000 := by have := HQ.out; omega
          have hb2 : (d : Int) ≤ 5000 := by have := HD.out; omega
          clear hw hv hF
          refine wpOp_value (v := .int .i64 ((k + d : Nat) : Int)) (w' := w') rfl rfl ?_ ⟨rfl, HJ.out⟩
          rw [show ((k + d : Nat) : Int) = (k : Int) + (d : Int) by omega]
          go_simp
      case hrest =>
        intro L w' hL hJ
        rw [hL 7 (by omega)] at hJ
        have hJ' : w' = W2 := hJ
        subst hJ'
        clear hL hJ L
        rw [show List.range' 9 1 = [9] from rfl]
        simp only [putAll, List.range, List.range.loop, List.foldl, Nat.reduceAdd, List.setIfInBounds_toArray, List.set_cons_succ, List.set_cons_zero]
        rw [wpOps_cons]
        refine wpOp_value (v := .int .i64 ((k + d : Nat) : Int)) (w' := w') rfl rfl (by go_simp) ?_
        change wpOps _ _ _ [] (Act.put _ (some 8) (.int .i64 ((k + d : Nat) : Int))) _
        simp only [wpOps, Act.put, List.setIfInBounds_toArray, List.set_cons_succ, List.set_cons_zero]
        go_wp2_with fail
        go_roundw
        case rel => exact ⟨k + d, by omega, HD.out.2.1, by rw [Int.natCast_add], HB2.out, HK2.out⟩
        case measure => have := HD.out; simp [intOf]; omega
    · obtain rfl : k = n := by omega
      go_wp2_with fail
      go_ret
      exact ⟨rfl, by rw [← repC_all]; exact HB.out, HBE.out⟩
end Go.Proofs.Ytpepabggpappgaa
