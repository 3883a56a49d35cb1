/-
  Lists that came in as arguments, read off the form's own reading of them.
-/
import Derived.Test.YtolbnkpakjdnnaaGreatDoorWalPure
import Derived.Test.YtolbnkpakjdnnaaGreatDoorRegionApp
import Derived.Test.YtolbnkpakjdnnaaGreatDoorShelf
import Derived.WalkKit
import Derived.ProofKit
import Derived.OpenShut
import Derived.SliceStrings
import Derived.ChangeSlices
namespace Go.Proofs.YtolbnkpakjdnnaaGreatDoor
open Go.RowKit

theorem exec_copy {P : Program} {o : Oper} {x : Act} {s1 s2 : Operand} {t1 t2 : TypeId} {v1 v2 v : Value} {w w' : World} (ho : o.op = .call { callee := .builtin .copy, args := #[s1, s2], argTypes := #[t1, t2] }) (h1 : x.eval s1 = v1) (h2 : x.eval s2 = v2)
    (hr : (Builtin.copy_ #[t1, t2] o.type #[v1, v2]).run P w = .ok v w') : (execOp x.eval o).run P w = .ok (.value v) w' := by
  unfold execOp
  simp only [ho, resolve, invoke, builtin, Sem.run_bind, Sem.run_pure, Result.andThen_ok, List.map_toArray, List.map_cons, List.map_nil, h1, h2, hr]

theorem mul_any (x y : Nat) (hx : x < 18446744073709551616) (hy : y < 18446744073709551616) (w : World) :
    Calls Tryz.prog 108 #[.int .u64 x, .int .u64 y] w fun e w' => e = .returned (.tuple #[.int .u64 ((x * y / 18446744073709551616 : Nat) : Int), .int .u64 ((x * y % 18446744073709551616 : Nat) : Int)]) ∧ w' = w := Any.bits_Mul { lays105 with } x y hx hy w

/-- k texts z, and empty ones up to n. -/
def repC (z : ByteArray) (k n : Nat) : List Value := List.replicate k (Value.string z) ++ List.replicate (n - k) (Value.string .empty)
theorem repC_len (z : ByteArray) {k n : Nat} (h : k ≤ n) : (repC z k n).length = n := by unfold repC; simp; omega
theorem repC_all (z : ByteArray) (n : Nat) : repC z n n = (List.replicate n z).map Value.string := by unfold repC; simp








theorem str_size : (Tryz.prog.info? 9).map (·.size) = some 1 := by kernel_rfl
theorem repC_get (z : ByteArray) {k n j : Nat} {u : Value} (h : (List.replicate j (Value.string z))[k]? = some u) : (repC z j n)[k]? = some u := by
  unfold repC
  have hk : k < j := by
    rcases Nat.lt_or_ge k j with h1 | h1
    · exact h1
    · rw [List.getElem?_eq_none (by simpa using h1)] at h; cases h
  rw [List.getElem?_append_left (by simpa using hk)]
  exact h
/-- What stands behind a copy of the head. -/
theorem repC_next (z : ByteArray) {k d n : Nat} (hd : k + d ≤ n) : (repC z k n).take k ++ List.replicate d (Value.string z) ++ (repC z k n).drop (k + d) = repC z (k + d) n := by
  apply List.ext_getElem?
  intro i
  unfold repC
  simp only [List.getElem?_append, List.length_append, List.length_take, List.length_replicate, List.getElem?_take, List.getElem?_drop, List.getElem?_replicate]
  have e1 : min k (k + (n - k)) = k := by omega
  simp only [e1]
  by_cases h1 : i < k
  · simp [h1, show i < k + d by omega]
  · by_cases h2 : i < k + d
    · simp [h1, h2, show i - k < d by omega]
    · by_cases h3 : i < n
      · simp [h2, show ¬ (k + d + (i - (k + d)) < k) by omega, show k + d + (i - (k + d)) - k < n - k by omega, show i - (k + d) < n - (k + d) by omega]
      · simp [h2, show ¬ (k + d + (i - (k + d)) < k) by omega, show ¬ (k + d + (i - (k + d)) - k < n - k) by omega, show ¬ (i - (k + d) < n - (k + d)) by omega]

set_option maxRecDepth 100000 in
set_option maxHeartbeats 4000000 in
theorem srep_any (z : ByteArray) (n g0 : Nat) (w : World) (hn : n ≤ 5000) (hn1 : 1 ≤ n) (hg : w.cell? ⟨g0, 0, none⟩ = some (.string z)) :
    Calls Tryz.prog 71 #[.slice (some ⟨g0, 0, none⟩) 1 1, .int .i64 (n : Int)] w fun e w' => e = .returned (.slice (some ⟨w.heap.size, 0, none⟩) n n) ∧ Blk w' w.heap.size 9 ((List.replicate n z).map Value.string).toArray ∧ Below w.heap.size w w' := by
  have HM := Lib.hid (mul_any 1 n (by omega) (by omega) w)
  rw [Nat.one_mul, Nat.div_eq_of_lt (by omega : n < 18446744073709551616), Nat.mod_eq_of_lt (by omega : n < 18446744073709551616)] at HM
  obtain ⟨i0, hi0, hz0, hz1, hz2⟩ := info_parts cltexts_info
  obtain ⟨q, hq⟩ : ∃ q : Int, q = (n : Int) := ⟨_, rfl⟩
  have HQ := Lib.hid hq
  have q0 : 1 ≤ q := by omega
  have q1 : q ≤ 5000 := by omega
  have hmk : (Instr.makeSlice 73 (.int .i64 q) (.int .i64 q)).run Tryz.prog w = .ok (.slice (some ⟨w.heap.size, 0, none⟩) n n) (w.alloc (.cells (repC z 0 n).toArray 9)) := by
    have hr := run_makeSlice (P := Tryz.prog) w 73 9 i0 (.string .empty) Tryz.underlying73 hi0 hz0 .i64 .i64 q q (by omega) (Int.le_refl _) (by rw [hz1]; omega) (by rw [hz2]; omega) (by omega)
    have hc : madeCells (Value.string .empty).cells (q.toNat * i0.size) = (repC z 0 n).toArray := by
      rw [hz1, Nat.mul_one, hq, Int.toNat_natCast]
      refine Array.toList_inj.1 ?_
      rw [show (Value.string .empty).cells = #[Value.string .empty] from rfl, toList_madeCells_one]
      simp [repC]
    rw [hc, show q.toNat = n by omega] at hr
    exact hr
  rw [← hq] at HM ⊢
  have hgl := World.block_lt_of_cell? w _ hg
  have hB0 : Blk (w.alloc (.cells (repC z 0 n).toArray 9)) w.heap.size 9 (repC z 0 n).toArray := Blk.new w _ _
  have hcp := run_copy_row (P := Tryz.prog) (w.alloc (.cells (repC z 0 n).toArray 9)) 73 73 3 9 w.heap.size 0 n n ⟨g0, 0, none⟩ 1 1 (repC z 0 n).toArray 9 [.string z] Tryz.underlying73 str_size hB0 (by show 1 = min 1 n; omega)
    (by
      intro j v hj
      have : j = 0 := by
        rcases Nat.lt_or_ge j 1 with h | h
        · omega
        · rw [List.getElem?_eq_none (by simpa using h)] at hj; cases hj
      subst this
      simp at hj
      subst hj
      rw [Go.WideShapes.add_plain, World.cell?_of_block (Below.heap_alloc w _ g0 hgl)]
      exact hg) (by simp [repC]; omega) (by intro v hv; simp at hv; subst hv; rfl)
  have hrc : ((repC z 0 n).toArray.toList.take 0 ++ [Value.string z] ++ (repC z 0 n).toArray.toList.drop (0 + [Value.string z].length)) = repC z 1 n := by
    have := repC_next z (k := 0) (d := 1) (n := n) (by omega)
    simpa using this
  rw [hrc] at hcp
  obtain ⟨W1, hW1⟩ : ∃ W1, W1 = (w.alloc (.cells (repC z 0 n).toArray 9)).setRow w.heap.size (repC z 1 n).toArray := ⟨_, rfl⟩
  rw [← hW1] at hcp
  have hcp : (Builtin.copy_ #[73, 73] 3 #[.slice (some ⟨w.heap.size, 0, none⟩) n n, .slice (some ⟨g0, 0, none⟩) 1 1]).run Tryz.prog (w.alloc (.cells (repC z 0 n).toArray 9)) = .ok (.int .i64 1) W1 := hcp
  have HB1 : Hid (Blk W1 w.heap.size 9 (repC z 1 n).toArray) := Lib.hid (by rw [hW1]; exact blk_setRow hB0 _)
  have HK1 : Hid (Below w.heap.size w W1) := Lib.hid (by
    rw [hW1]
    exact below_setRow ((Below.refl _ _).alloc (Nat.le_refl _) _) (Nat.le_refl _) _)
  have HN1 := Lib.hid hn1
  clear hq hg hgl hi0 hz0 hz1 hz2 hB0 hrc hW1 hn1
  go_enter Tryz.func71, Tryz.ntmps71
  go_wp2_with (first
    | (go_at_call 108; refine HM.out.mono ?_; rintro e w1 ⟨rfl, hw⟩; rw [hw]; clear hw)
    | fail)
  clear hcp hmk
  go_loopw [8] (fun v wr => ∃ k : Nat, 1 ≤ k ∧ k ≤ n ∧ v = .int .i64 k ∧ Blk wr w.heap.size 9 (repC z k n).toArray ∧ Below w.heap.size w wr) (fun v _ => n - (intOf v).toNat)
  case atStart => exact ⟨1, Nat.le_refl _, HN1.out, rfl, HB1.out, HK1.out⟩
  case round =>
    obtain ⟨k, hk1, hkn, rfl, hb, hbe⟩ := hrel
    have HB := Lib.hid hb
    have HBE := Lib.hid hbe
    clear hb hbe HB1 HK1
    by_cases hlt : k < n
    · go_upto_region 9 with fail
      obtain ⟨d, hd⟩ : ∃ d, d = min k (n - k) := ⟨_, rfl⟩
      have hd1 : d ≤ k := by omega
      have hd2 : k + d ≤ n := by omega
      have hd3 : 1 ≤ d := by omega
      have hcp := run_copy_row (P := Tryz.prog) wr.drew 73 73 3 9 w.heap.size k (n - k) (n - k) ⟨w.heap.size, 0, none⟩ k n (repC z k n).toArray 9 (List.replicate d (.string z)) Tryz.underlying73 str_size HB.out.drew (by rw [List.length_replicate]; show d = min k (n - k); omega)
        (by
          intro j v hj
          rw [Go.WideShapes.add_plain, Nat.zero_add, HB.out.drew.cell]
          rw [List.getElem?_toArray]
          refine repC_get z ?_
          rw [List.getElem?_replicate] at hj ⊢
          split at hj
          · rw [if_pos (by omega)]; exact hj
          · cases hj) (by rw [List.length_replicate, List.size_toArray, repC_len z hkn]; exact hd2) (by intro v hv; rw [List.eq_of_mem_replicate hv]; rfl)
      rw [List.length_replicate, List.toList_toArray, repC_next z hd2] at hcp
      obtain ⟨W2, hW2⟩ : ∃ W2, W2 = wr.drew.setRow w.heap.size (repC z (k + d) n).toArray := ⟨_, rfl⟩
      rw [← hW2] at hcp
      have HCP : Hid ((Builtin.copy_ #[73, 73] 3 #[.slice (some ⟨w.heap.size, k, none⟩) (n - k) (n - k), .slice (some ⟨w.heap.size, 0, none⟩) k n]).run Tryz.prog wr.drew = .ok (.int .i64 (d : Int)) W2) := Lib.hid hcp
      have HB2 : Hid (Blk W2 w.heap.size 9 (repC z (k + d) n).toArray) := Lib.hid (by rw [hW2]; exact blk_setRow HB.out.drew _)
      have HK2 : Hid (Below w.heap.size w W2) := Lib.hid (by rw [hW2]; exact below_setRow HBE.out.drew (Nat.le_refl _) _)
      have HD := Lib.hid (And.intro hd1 (And.intro hd2 hd3))
      have hnI : (k : Int) ≤ (n : Int) := by omega
      have hne : ¬ n = k := by omega
      have hk0 : (n - k : Nat) = n - k := rfl
      clear hcp hW2 hd hd1 hd2 hd3 hk0
      refine wp_region_sinks 38 9 46 1 (fun | 0 => .int .i64 (k : Int) | 1 => .slice (some ⟨w.heap.size, 0, none⟩) n n | 2 => .int .i64 (k : Int) | 3 => .slice (some ⟨w.heap.size, k, none⟩) (n - k) (n - k) | 4 => .slice (some ⟨w.heap.size, 0, none⟩) n n | 5 => .int .i64 (k : Int) | 6 => .slice (some ⟨w.heap.size, 0, none⟩) k n | 7 => .int .i64 (d : Int) | _ => .int .i64 ((k + d : Nat) : Int))
        (fun L w' => w' = if L 7 then W2 else wr.drew) (by kernel_rfl) (by kernel_rfl) rfl (by omega) (by kernel_rfl) rfl (by simp) rfl ?hops ?hrest
      case hops =>
        intro j hj L x w' hc hF hLj hJ hw hv
        have HJ := Lib.hid hJ
        clear hJ
        rcases (show j = 0 ∨ j = 1 ∨ j = 2 ∨ j = 3 ∨ j = 4 ∨ j = 5 ∨ j = 6 ∨ j = 7 ∨ j = 8 by omega) with rfl | rfl | rfl | rfl | rfl | rfl | rfl | rfl | rfl
        · have t0 : x.tmps[8]?.getD undef = .int .i64 (k : Int) := by rw [hF.2.2 8 (by omega)]; rfl
          clear hw hv hF
          refine wpOp_value (v := .int .i64 (k : Int)) (w' := w') rfl rfl ?_ ⟨rfl, HJ.out⟩
          go_simp
        · have t0 : x.tmps[7]?.getD undef = .slice (some ⟨w.heap.size, 0, none⟩) n n := by rw [hF.2.2 7 (by omega)]; rfl
          clear hw hv hF
          refine wpOp_value (v := .slice (some ⟨w.heap.size, 0, none⟩) n n) (w' := w') rfl rfl ?_ ⟨rfl, HJ.out⟩
          go_simp
        · have t0 : x.tmps[8]?.getD undef = .int .i64 (k : Int) := by rw [hF.2.2 8 (by omega)]; rfl
          clear hw hv hF
          refine wpOp_value (v := .int .i64 (k : Int)) (w' := w') rfl rfl ?_ ⟨rfl, HJ.out⟩
          go_simp
        · have t0 : x.tmps[39]?.getD undef = .slice (some ⟨w.heap.size, 0, none⟩) n n := hv 1 (of_decide_eq_true (by kernel_rfl)) (by omega)
          have t1 : x.tmps[40]?.getD undef = .int .i64 (k : Int) := hv 2 (of_decide_eq_true (by kernel_rfl)) (by omega)
          clear hw hv hF
          refine wpOp_value (v := .slice (some ⟨w.heap.size, k, none⟩) (n - k) (n - k)) (w' := w') rfl rfl ?_ ⟨rfl, HJ.out⟩
          go_simp
        · have t0 : x.tmps[7]?.getD undef = .slice (some ⟨w.heap.size, 0, none⟩) n n := by rw [hF.2.2 7 (by omega)]; rfl
          clear hw hv hF
          refine wpOp_value (v := .slice (some ⟨w.heap.size, 0, none⟩) n n) (w' := w') rfl rfl ?_ ⟨rfl, HJ.out⟩
          go_simp
        · have t0 : x.tmps[8]?.getD undef = .int .i64 (k : Int) := by rw [hF.2.2 8 (by omega)]; rfl
          clear hw hv hF
          refine wpOp_value (v := .int .i64 (k : Int)) (w' := w') rfl rfl ?_ ⟨rfl, HJ.out⟩
          go_simp
        · have t0 : x.tmps[42]?.getD undef = .slice (some ⟨w.heap.size, 0, none⟩) n n := hv 4 (of_decide_eq_true (by kernel_rfl)) (by omega)
          have t1 : x.tmps[43]?.getD undef = .int .i64 (k : Int) := hv 5 (of_decide_eq_true (by kernel_rfl)) (by omega)
          clear hw hv hF
          refine wpOp_value (v := .slice (some ⟨w.heap.size, 0, none⟩) k n) (w' := w') rfl rfl ?_ ⟨rfl, HJ.out⟩
          go_simp
        · have t0 : x.tmps[41]?.getD undef = .slice (some ⟨w.heap.size, k, none⟩) (n - k) (n - k) := hv 3 (of_decide_eq_true (by kernel_rfl)) (by omega)
          have t1 : x.tmps[44]?.getD undef = .slice (some ⟨w.heap.size, 0, none⟩) k n := hv 6 (of_decide_eq_true (by kernel_rfl)) (by omega)
          have hJ := HJ.out
          rw [hLj] at hJ
          have hJ' : w' = wr.drew := hJ
          subst hJ'
          clear hw hv hF hJ HJ
          exact wpOp_value (v := .int .i64 (d : Int)) (w' := W2) rfl rfl (exec_copy rfl (by simpa [Act.eval] using t0) (by simpa [Act.eval] using t1) HCP.out) ⟨rfl, by simp⟩
        · have t0 : x.tmps[38]?.getD undef = .int .i64 (k : Int) := hv 0 (of_decide_eq_true (by kernel_rfl)) (by omega)
          have t1 : x.tmps[45]?.getD undef = .int .i64 (d : Int) := hv 7 (of_decide_eq_true (by kernel_rfl)) (by omega)
          have hs : IntKind.i64.wrap ((k : Int) + (d : Int)) = (k : Int) + (d : Int) := by rw [IntKind.wrap_i64]; have := HD.out; omega
          have hb1 : (k : Int) ≤ 5000 := by have := HQ.out; omega
          have hb2 : (d : Int) ≤ 5000 := by have := HD.out; omega
          clear hw hv hF
          refine wpOp_value (v := .int .i64 ((k + d : Nat) : Int)) (w' := w') rfl rfl ?_ ⟨rfl, HJ.out⟩
          rw [show ((k + d : Nat) : Int) = (k : Int) + (d : Int) by omega]
          go_simp
      case hrest =>
        intro L w' hL hJ
        rw [hL 7 (by omega)] at hJ
        have hJ' : w' = W2 := hJ
        subst hJ'
        clear hL hJ L
        rw [show List.range' 9 1 = [9] from rfl]
        simp only [putAll, List.range, List.range.loop, List.foldl, Nat.reduceAdd, List.setIfInBounds_toArray, List.set_cons_succ, List.set_cons_zero]
        rw [wpOps_cons]
        refine wpOp_value (v := .int .i64 ((k + d : Nat) : Int)) (w' := w') rfl rfl (by go_simp) ?_
        change wpOps _ _ _ [] (Act.put _ (some 8) (.int .i64 ((k + d : Nat) : Int))) _
        simp only [wpOps, Act.put, List.setIfInBounds_toArray, List.set_cons_succ, List.set_cons_zero]
        go_wp2_with fail
        go_roundw
        case rel => exact ⟨k + d, by omega, HD.out.2.1, by rw [Int.natCast_add], HB2.out, HK2.out⟩
        case measure => have := HD.out; simp [intOf]; omega
    · obtain rfl : k = n := by omega
      go_wp2_with fail
      go_ret
      exact ⟨rfl, by rw [← repC_all]; exact HB.out, HBE.out⟩
end Go.Proofs.YtolbnkpakjdnnaaGreatDoor

namespace Go.Proofs.YtolbnkpakjdnnaaGreatDoor
open Go.RowKit

theorem drepeat_zero (c : Nat) : Lib.repeatL [0] c = List.replicate c 0 := by
  induction c with
  | zero => rfl
  | succ c ih => show [0] ++ Lib.repeatL [0] c = _; rw [ih]; rfl
set_option maxRecDepth 100000 in
set_option maxHeartbeats 1000000 in
theorem dnew_no (n : Int) (w : World) (h : n < 140 ∨ 2000 < n) :
    Calls Tryz.prog 31 #[.int .i64 n] w fun e w' => e = .returned (.tuple #[.pointer none, .int .i64 1]) ∧ w = w' := by
  by_cases h1 : n < 140
  · go_enter Tryz.func31, Tryz.ntmps31
    go_wp2_with fail
    go_ret2
    exact ⟨rfl, rfl⟩
  · have h2 : 2000 < n := by omega
    go_enter Tryz.func31, Tryz.ntmps31
    go_wp2_with fail
    go_ret2
    exact ⟨rfl, rfl⟩

set_option maxRecDepth 100000 in
set_option maxHeartbeats 2000000 in
theorem dnew_yes (q : Int) (n : Nat) (w : World) (hq : q = (n : Int)) (h1 : 140 ≤ q) (h2 : q ≤ 2000) :
    Calls Tryz.prog 31 #[.int .i64 q] w fun e w' => ∃ g O, e = .returned (.tuple #[.pointer (some ⟨g, 0, none⟩), .int .i64 0]) ∧ DiskAt w' O g (DS.fresh n (zeroB 256)) ∧ (∀ b ∈ O, w.heap.size ≤ b) ∧ Below w.heap.size w w' := by
  have HS := Lib.hid (repeat_any ⟨#[0]⟩ 256 w (by omega) (by decide))
  rw [show (⟨(Lib.repeatL (⟨#[0]⟩ : ByteArray).data.toList 256).toArray⟩ : ByteArray) = zeroB 256 by show (⟨(Lib.repeatL [0] 256).toArray⟩ : ByteArray) = _; rw [drepeat_zero]; rfl] at HS
  have HQ := Lib.hid hq
  have HR : Hid (∀ (W : World) (g0 : Nat), W.cell? ⟨g0, 0, none⟩ = some (.string (zeroB 256)) → Calls Tryz.prog 71 #[.slice (some ⟨g0, 0, none⟩) 1 1, .int .i64 q] W fun e w' => e = .returned (.slice (some ⟨W.heap.size, 0, none⟩) n n) ∧ Blk w' W.heap.size 9 ((List.replicate n (zeroB 256)).map Value.string).toArray ∧ Below W.heap.size W w') :=
    Lib.hid (fun W g0 hW => by rw [hq]; exact srep_any (zeroB 256) n g0 W (by omega) (by omega) hW)
  have HC : Hid (∀ (W : World) (g0 : Nat), Blk W g0 9 ((List.replicate n (zeroB 256)).map Value.string).toArray → Calls Tryz.prog 72 #[.slice (some ⟨g0, 0, none⟩) n n] W fun e w' => ∃ v, e = .returned v ∧ w'.ownsRow W.heap.size 9 1 v n ((List.replicate n (zeroB 256)).map Value.string) ∧ Below W.heap.size W w') :=
    Lib.hid (fun W g0 hW => cltexts_any _ n n (List.replicate n (zeroB 256)) W (by simp) (by
      intro ad e j u hu
      injection e with e
      subst e
      rw [Go.WideShapes.add_plain, Nat.zero_add, hW.cell, List.getElem?_toArray]
      exact hu) (by intro e; cases e) (by omega))
  have HNB : Hid (1 ≤ n ∧ n ≤ 2000) := Lib.hid (by omega)
  obtain ⟨z, hz⟩ : ∃ z, z = zeroB 256 := ⟨_, rfl⟩
  rw [← hz] at HS HR HC ⊢
  clear hq hz
  go_enter Tryz.func31, Tryz.ntmps31
  go_wp2_with (go_at_call 70; refine HS.out.mono ?_; rintro e w1 ⟨rfl, hb1⟩)
  refine (HR.out (w1.alloc (.cells #[.string z] 9)) w1.heap.size (by rw [(Blk.new w1 9 #[.string z]).cell 0]; rfl)).mono ?_
  rintro e w2 ⟨rfl, hk2, hb2⟩
  have hs1 : (w1.alloc (.cells #[.string z] 9)).heap.size = w1.heap.size + 1 := by simp
  have hc2 : Below w.heap.size w w2 := (hb1.alloc hb1.size _).trans (hb2.mono (by have := hb1.size; omega))
  rw [hs1] at hk2 ⊢
  have hs2 : w1.heap.size + 1 < w2.heap.size := hk2.lt
  have hs0 : w.heap.size ≤ w1.heap.size := hb1.size
  clear hb1 hb2 hs1
  go_wp2_with fail
  refine (HC.out w2 (w1.heap.size + 1) hk2).mono ?_
  rintro e w3 ⟨v, rfl, hrow, hb3⟩
  obtain ⟨p, c, rfl, hnc, hcc, hpn, hpa⟩ := row_slice hrow
  have hc3 : Below w.heap.size w w3 := hc2.trans (hb3.mono hc2.size)
  have hk3 : Blk w3 (w1.heap.size + 1) 9 _ := hk2.below hb3 hs2
  have HROW := Lib.hid hrow
  have HK3 := Lib.hid hk3
  have HC3 := Lib.hid hc3
  have HB3 := Lib.hid hb3.size
  have HP := Lib.hid (And.intro hpn hpa)
  clear hrow hk3 hc3 hk2 hc2 hb3 hpn hpa hnc hcc
  go_wp2_with fail
  go_ret2
  have hpo : ∃ gs, p = some ⟨gs, 0, none⟩ := by
    cases hp : p with
    | none => have := HP.out.1 hp; have := HNB.out; omega
    | some a => exact ⟨a.block, by rw [HP.out.2 a hp]⟩
  obtain ⟨gs, rfl⟩ := hpo
  have hgs := HROW.out.lt gs rfl
  have hsz3 := HB3.out
  refine ⟨_, w3.heap.size :: (w1.heap.size + 1) :: gs :: ((Value.slice none 0 0).ownBlock.toList ++ (Value.slice none 0 0).ownBlock.toList), rfl, ⟨w1.heap.size + 1, gs, n, c, _, _, rfl, ?_⟩, ?_, HC3.out.alloc HC3.out.size _⟩
  · have e1 : (List.replicate n z).length = n := by simp
    refine ⟨?_, ?_, ?_, World.ownsRow_nil _ _ _ _, World.ownsRow_nil _ _ _ _, ?_⟩
    · have := Blk.new w3 126 #[.slice (some ⟨w1.heap.size + 1, 0, none⟩) n n, .slice (some ⟨gs, 0, none⟩) n c, .slice none 0 0, .bool true, .int .i64 0, .bool false, .int .i64 0, .slice none 0 0]
      show Blk _ _ _ #[.slice _ (List.replicate n z).length _, .slice _ (List.replicate n z).length _, _, _, _, _, _, _]
      rw [e1]
      exact this
    · show World.ownsRow _ 0 _ 1 (.slice _ (List.replicate n z).length _) (List.replicate n z).length ((List.replicate n z).map Value.string)
      rw [e1]
      refine World.ownsRow.alloc ⟨by simp, .inr ⟨w1.heap.size + 1, n, _, rfl, Nat.zero_le _, HK3.out, Nat.le_refl _, by have := HNB.out; unfold maxLen; omega, by simp, by simp⟩⟩ _
    · show World.ownsRow _ 0 _ 1 (.slice _ (List.replicate n z).length _) (List.replicate n z).length ((List.replicate n z).map Value.string)
      rw [e1]
      exact (row_mono HROW.out (Nat.zero_le _)).alloc _
    · simp [Value.ownBlock]
      omega
  · intro b hb
    simp [Value.ownBlock] at hb
    rcases hb with rfl | rfl | rfl
    · omega
    · omega
    · omega

/-- The byte at i of a sector that s fills. -/
def fillAt (s : ByteArray) (i : Nat) : UInt8 := if 0 < s.size then s.data.toList.getD (i % s.size) 0 else 0
def fillB (s : ByteArray) : ByteArray := ⟨((List.range 256).map (fillAt s)).toArray⟩
theorem fillB_size (s : ByteArray) : (fillB s).size = 256 := by show ((List.range 256).map (fillAt s)).toArray.size = 256; simp
/-- .. filled up to k. -/
def fillL (s : ByteArray) (k : Nat) : List UInt8 := (List.range 256).map fun i => if i < k then fillAt s i else 0
theorem fillL_zero (s : ByteArray) : fillL s 0 = List.replicate 256 0 := by
  unfold fillL
  rw [show (fun i => if i < 0 then fillAt s i else 0) = fun _ => (0 : UInt8) from funext fun i => if_neg (by omega), List.map_const', List.length_range]
theorem fillL_all (s : ByteArray) : fillL s 256 = (fillB s).data.toList := by
  show _ = (List.range 256).map (fillAt s)
  unfold fillL
  apply List.map_congr_left
  intro i hi
  rw [if_pos (by simpa using hi)]
theorem fillL_len (s : ByteArray) (k : Nat) : (fillL s k).length = 256 := by unfold fillL; simp
theorem fillL_next (s : ByteArray) {k : Nat} (hk : k < 256) : (Lib.byteCells (fillL s k)).toArray.setIfInBounds k (.int .u8 ((fillAt s k).toNat : Int)) = (Lib.byteCells (fillL s (k + 1))).toArray := by
  rw [List.setIfInBounds_toArray]
  congr 1
  apply List.ext_getElem?
  intro i
  unfold Lib.byteCells fillL
  rw [List.getElem?_set]
  simp only [List.length_map, List.length_range, List.getElem?_map]
  by_cases hik : k = i
  · subst hik
    simp [hk]
  · simp only [if_neg hik]
    by_cases hi : i < 256
    · simp only [List.getElem?_range hi, Option.map_some]
      by_cases h1 : i < k
      · rw [if_pos h1, if_pos (by omega)]
      · rw [if_neg h1, if_neg (by omega)]
    · rw [List.getElem?_eq_none (by simpa using hi)]
      rfl
theorem fillL_same (s : ByteArray) (k : Nat) (h : s.size = 0) : fillL s (k + 1) = fillL s k := by
  unfold fillL
  apply List.map_congr_left
  intro i _
  have h0 : fillAt s i = 0 := by unfold fillAt; rw [if_neg (by omega)]
  rw [h0]
  split <;> split <;> rfl
theorem blk_text (w : World) (g : Nat) (l : List UInt8) (n : Nat) (hn : l.length = n) (h : Blk w g 5 (Lib.byteCells l).toArray) :
    (convert 57 9 (.slice (some ⟨g, 0, none⟩) n n)).run Tryz.prog w = .ok (.string ⟨l.toArray⟩) w := by
  have hr := run_convert_bytes_back (P := Tryz.prog) w 57 9 5 ⟨g, 0, none⟩ l.length l Tryz.underlying57 Tryz.underlying5 Tryz.underlying9
    (fun j hj => by
      rw [Go.WideShapes.add_plain, h.cell (0 + j)]
      simp [Lib.byteCells, hj])
  rw [hn] at hr
  exact hr

set_option maxRecDepth 100000 in
set_option maxHeartbeats 2000000 in
theorem fill_any (s : ByteArray) (w : World) (hs : s.size ≤ 140737488351232) :
    Calls Tryz.prog 34 #[.string s] w fun e w' => e = .returned (.string (fillB s)) ∧ Below w.heap.size w w' := by
  have hmk := zeros_make w 256 (by omega)
  rw [zeroB_list, ← fillL_zero s] at hmk
  have hmk : (Instr.makeSlice 57 (.int .i64 256) (.int .i64 256)).run Tryz.prog w = .ok (.slice (some ⟨w.heap.size, 0, none⟩) 256 256) (w.alloc (.cells (Lib.byteCells (fillL s 0)).toArray 5)) := hmk
  obtain ⟨W, hW⟩ : ∃ W, W = w.alloc (.cells (Lib.byteCells (fillL s 0)).toArray 5) := ⟨_, rfl⟩
  rw [← hW] at hmk
  have HB0 : Hid (Blk W w.heap.size 5 (Lib.byteCells (fillL s 0)).toArray) := Lib.hid (by rw [hW]; exact Blk.new w _ _)
  have HK0 : Hid (Below w.heap.size w W) := Lib.hid (by rw [hW]; exact (Below.refl _ _).alloc (Nat.le_refl _) _)
  clear hW
  go_enter Tryz.func34, Tryz.ntmps34
  go_wp2_with fail
  clear hmk
  go_loopw [8] (fun i wr => ∃ k : Nat, k ≤ 256 ∧ i = .int .i64 k ∧ Blk wr w.heap.size 5 (Lib.byteCells (fillL s k)).toArray ∧ Below w.heap.size w wr) (fun i _ => 256 - (intOf i).toNat)
  case atStart => exact ⟨0, Nat.zero_le _, rfl, HB0.out, HK0.out⟩
  case round =>
    obtain ⟨k, hk, rfl, hb, hbe⟩ := hrel
    clear HB0 HK0
    have HB := Lib.hid hb
    by_cases hlt : k < 256
    · by_cases h0 : 0 < s.size
      · have hck : wr.cell? ⟨w.heap.size, k, none⟩ = some (.int .u8 (((fillL s k).getD k 0).toNat : Int)) := by
          rw [hb.cell, List.getElem?_toArray]
          unfold Lib.byteCells
          rw [List.getElem?_map, List.getD_eq_getElem?_getD, List.getElem?_eq_getElem (by rw [fillL_len]; exact hlt)]
          rfl
        have hfk := hb.frozen k
        have HN := Lib.hid (fillL_next s hlt)
        obtain ⟨r, hr⟩ : ∃ r, r = k % s.size := ⟨_, rfl⟩
        have hrs : r < s.size := by rw [hr]; exact Nat.mod_lt _ h0
        have hm1 : (k : Int).tmod (s.size : Int) = (r : Int) := by rw [hr]; exact (Int.ofNat_tmod k s.size).symm
        have hm2 : (k : Int) % (s.size : Int) = (r : Int) := by rw [hr]; exact (Int.natCast_emod k s.size).symm
        have HF : Hid (fillAt s k = s[r]'hrs) := Lib.hid (by
          unfold fillAt
          rw [if_pos h0, ← hr, List.getD_eq_getElem?_getD, List.getElem?_eq_getElem (by rw [← Lib.size_eq]; exact hrs)]
          rfl)
        have h0I : (0 : Int) < (s.size : Int) := by omega
        clear hb hr
        go_wp2_with fail
        go_roundw
        case rel =>
          have hp := HB.out.put k (.int .u8 ((s[r]'hrs).toNat : Int))
          rw [← HF.out, HN.out] at hp
          rw [← HF.out]
          exact ⟨k + 1, by omega, by go_num, hp, hbe.setCell (by simp) _⟩
        case measure => simp [intOf]; omega
      · have hs0 : s.size = 0 := by omega
        have HS := Lib.hid (fillL_same s k hs0)
        clear hb h0
        go_wp2_with fail
        go_roundw
        case rel => exact ⟨k + 1, by omega, by go_num, by rw [HS.out]; exact HB.out, hbe⟩
        case measure => simp [intOf]; omega
    · obtain rfl : k = 256 := by omega
      have hcv := blk_text wr w.heap.size _ 256 (fillL_len s 256) HB.out
      rw [fillL_all] at hcv
      clear hb
      go_wp2_with fail
      go_ret
      exact ⟨rfl, hbe⟩
end Go.Proofs.YtolbnkpakjdnnaaGreatDoor

namespace Go.Proofs.YtolbnkpakjdnnaaGreatDoor
open Go.RowKit

theorem err1_plain {S : DS} {i : Nat} {x : ByteArray} (hi : i < S.now.length) (hx : x.size = 256) (ha : S.armed = false) : S.err1 (i : Int) x = 0 := by
  unfold DS.err1 DS.fails
  rw [if_pos (by omega), if_pos hx]
  simp [DS.put, ha]
theorem write1_plain {S : DS} {i : Nat} {x : ByteArray} (hi : i < S.now.length) (hx : x.size = 256) (ha : S.armed = false) : S.write1 (i : Int) x = S.put i x := by
  unfold DS.write1 DS.failed
  rw [if_pos ⟨by omega, by omega, hx⟩]
  simp [DS.put, ha]
theorem wrts_one {w : World} {O : List Nat} {b : Nat} {a : Int} {s : ByteArray} (h : Blk w b 100 #[.int .i64 a, .string s]) (hO : b ∉ O) : Wrts w O (some ⟨b, 0, none⟩) [(a, s)] := by
  intro _
  refine ⟨b, 0, rfl, h.lt, hO, fun j x hx => ?_⟩
  match j, hx with
  | 0, hx => simp at hx; subst hx; exact ⟨h.cell 0, h.cell 1⟩
  | j + 1, hx => simp at hx
theorem wrts_two {w : World} {O : List Nat} {b : Nat} {a a' : Int} {s s' : ByteArray} (h : Blk w b 100 #[.int .i64 a, .string s, .int .i64 a', .string s']) (hO : b ∉ O) : Wrts w O (some ⟨b, 0, none⟩) [(a, s), (a', s')] := by
  intro _
  refine ⟨b, 0, rfl, h.lt, hO, fun j x hx => ?_⟩
  match j, hx with
  | 0, hx => simp at hx; subst hx; exact ⟨h.cell 0, h.cell 1⟩
  | 1, hx => simp at hx; subst hx; exact ⟨h.cell 2, h.cell 3⟩
  | j + 2, hx => simp at hx
theorem ints_one {w : World} {b : Nat} {a : Int} (h : Blk w b 3 #[.int .i64 a]) : IntsD w (some ⟨b, 0, none⟩) [a] := by
  intro _
  refine ⟨b, 0, rfl, h.lt, fun j x hx => ?_⟩
  match j, hx with
  | 0, hx => simp at hx; subst hx; exact h.cell 0
  | j + 1, hx => simp at hx

theorem alive_one (z X : ByteArray) (hX : X.size = 256) : (DS.fresh 150 z).errW [(3, X), (4, X)] = 0 ∧
    (DS.fresh 150 z).write [(3, X), (4, X)] = { now := ((List.replicate 150 z).set 3 X).set 4 X, safe := List.replicate 150 z, dirty := [(3, X), (4, X)], on := true, writes := 2, armed := false, left := 0, keep := [] } := by
  have h1 : (DS.fresh 150 z).now.length = 150 := by unfold DS.fresh; simp
  have e1 := err1_plain (S := DS.fresh 150 z) (i := 3) (by omega) hX rfl
  have w1 := write1_plain (S := DS.fresh 150 z) (i := 3) (by omega) hX rfl
  have h2 : ((DS.fresh 150 z).put 3 X).now.length = 150 := by unfold DS.fresh DS.put; simp
  have e2 := err1_plain (S := (DS.fresh 150 z).put 3 X) (i := 4) (by omega) hX rfl
  have w2 := write1_plain (S := (DS.fresh 150 z).put 3 X) (i := 4) (by omega) hX rfl
  have e1 : (DS.fresh 150 z).err1 3 X = 0 := e1
  have w1 : (DS.fresh 150 z).write1 3 X = (DS.fresh 150 z).put 3 X := w1
  have e2 : ((DS.fresh 150 z).put 3 X).err1 4 X = 0 := e2
  have w2 : ((DS.fresh 150 z).put 3 X).write1 4 X = ((DS.fresh 150 z).put 3 X).put 4 X := w2
  constructor
  · unfold DS.errW
    rw [if_pos (show (DS.fresh 150 z).on = true from rfl)]
    simp only [DS.errL, e1, w1, e2, if_true]
  · unfold DS.write
    rw [if_pos (show (DS.fresh 150 z).on = true from rfl)]
    simp only [DS.writeL, e1, w1, e2, w2, if_true]
    rfl

/-- The disk at hand behind the first writes; behind the crash. -/
def liveS (z X : ByteArray) : DS := { now := ((List.replicate 150 z).set 3 X).set 4 X, safe := List.replicate 150 z, dirty := [(3, X), (4, X)], on := true, writes := 2, armed := false, left := 0, keep := [] }
def liveT (z X : ByteArray) (on : Bool) : DS := { now := (List.replicate 150 z).set 3 X, safe := (List.replicate 150 z).set 3 X, dirty := [], on := on, writes := 2, armed := false, left := 0, keep := [] }
theorem liveS_ok (z X : ByteArray) : (liveS z X).Ok := by
  refine ⟨rfl, fun w hw => ?_⟩
  unfold liveS at hw ⊢
  simp at hw ⊢
  rcases hw with rfl | rfl
  · show 3 < 150; omega
  · show 4 < 150; omega
theorem live_crash (z X : ByteArray) : (liveS z X).crash [1] = liveT z X false ∧ (liveS z X).lost [1] = 1 := by
  constructor
  · rfl
  · rfl
theorem live_read (z X : ByteArray) : (liveT z X true).read 3 = X ∧ (liveT z X true).errR 3 = 0 ∧ (liveT z X true).read 4 = z ∧ (liveT z X true).errR 4 = 0 ∧ (liveT z X true).now.length = 150 := by
  have hl : (liveT z X true).now.length = 150 := by unfold liveT; simp
  refine ⟨?_, ?_, ?_, ?_, hl⟩
  · unfold DS.read; rw [if_pos ⟨rfl, by decide, by rw [hl]; decide⟩]; rfl
  · unfold DS.errR; rw [if_pos (show (liveT z X true).on = true from rfl), if_pos ⟨by decide, by rw [hl]; decide⟩]
  · unfold DS.read; rw [if_pos ⟨rfl, by decide, by rw [hl]; decide⟩]; rfl
  · unfold DS.errR; rw [if_pos (show (liveT z X true).on = true from rfl), if_pos ⟨by decide, by rw [hl]; decide⟩]
theorem live_small (z X : ByteArray) (hz : z.size = 256) (hX : X.size = 256) : ∀ x ∈ (liveT z X true).now, x.size ≤ 100000 := by
  intro x hx
  have hx : x ∈ (List.replicate 150 z).set 3 X := hx
  rcases List.mem_or_eq_of_mem_set hx with h | h
  · rw [List.eq_of_mem_replicate h]; omega
  · rw [h]; omega

end Go.Proofs.YtolbnkpakjdnnaaGreatDoor

namespace Go.Proofs.YtolbnkpakjdnnaaGreatDoor
open Go.ChangeShapes Go.WideShapes Go.ChangeAt Go.RowKit
open Go.WideMaps Go.WideElems

theorem laidOut : laidOutB Tryz.prog = true := by kernel_rfl
theorem cellsStr : Tryz.prog.cellsOf 9 = 1 := by kernel_rfl

/-- Texts as they came in: each is an int long, and so are all. -/
structure TextsIn (w : World) (A : Option Addr) (m c : Nat) (xs : List ByteArray) : Prop where
  len : xs.length = m
  lie : Txts w w.heap.size A xs
  nil_ : A = none → c = 0
  few : m ≤ 9223372036854775807
  short : ∀ x ∈ xs, x.size ≤ 9223372036854775807

/-- Cells from an address on are cells of one block, where there is one at all. -/
theorem plain_at {W : World} {a : Addr} {n : Nat} {f : Nat → Value} (h : ∀ i, i < n → W.cell? (a.add i) = some (f i)) (hp : 0 < n) :
    ∃ b off, a = ⟨b, off, none⟩ ∧ b < W.heap.size ∧ ∀ j, j < n → W.cell? ⟨b, off + j, none⟩ = some (f j) := by
  obtain ⟨b, off, spot⟩ := a
  have hspot : spot = none := by simpa [Addr.add] using World.cell?_spot (h 0 hp)
  subst hspot
  have hc : ∀ j, j < n → W.cell? ⟨b, off + j, none⟩ = some (f j) := fun j hj => by rw [← Go.WideShapes.add_plain]; exact h j hj
  exact ⟨b, off, rfl, World.block_lt_of_cell? W _ (hc 0 hp), hc⟩

/-- A list of texts that came in. -/
theorem view_texts {H : Type} {enc : TypeId × Value → H} {W : World} {a : Option Addr} {n c : Nat} {d : DataW H} {p : List MemPlace} (h : DataW.Trod enc Tryz.prog W 0 (fun _ => true) true 73 (.slice a n c) d p) :
    ∃ xs : List ByteArray, TextsIn W a n c xs := by
  obtain ⟨fuel, hf⟩ := h
  rcases open_strings Tryz.underlying73 Tryz.underlying9 cellsStr hf with ⟨hcs, _⟩ | ⟨a', len, cap, zs, hcs, _, hl, hcap, hz, _, hc, hw⟩
  · simp [Value.cells] at hcs
    obtain ⟨rfl, rfl, rfl⟩ := hcs
    exact ⟨[], rfl, Txts.nil _ _ _, fun _ => rfl, by omega, by simp⟩
  · simp [Value.cells] at hcs
    obtain ⟨rfl, rfl, rfl⟩ := hcs
    simp only [if_true] at hz
    have hmax : maxLen = 9223372036854775807 := rfl
    have hlen : (zs.take n).length = n := by rw [List.length_take]; omega
    refine ⟨zs.take n, hlen, ?_, (fun e => by cases e), by omega, fun t ht => by rw [← hmax]; exact hw t (List.mem_of_mem_take ht)⟩
    intro hpos
    rw [hlen] at hpos
    obtain ⟨b, off, rfl, hb, hc'⟩ := plain_at hc (by omega)
    refine ⟨b, off, rfl, hb, fun j x hx => ?_⟩
    rw [List.getElem?_take] at hx
    split at hx
    · have := hc' j (by omega)
      rw [this, List.getD_eq_getElem?_getD, hx]
      rfl
    · cases hx
theorem cellsByte : Tryz.prog.cellsOf 5 = 1 := by kernel_rfl

/-- Bytes as they came in. -/
structure BytesIn (w : World) (A : Option Addr) (m c : Nat) (l : List UInt8) : Prop where
  len : l.length = m
  lie : 0 < l.length → ∃ b off, A = some ⟨b, off, none⟩ ∧ b < w.heap.size ∧ ∀ (j : Nat) (x : UInt8), l[j]? = some x → w.cell? ⟨b, off + j, none⟩ = some (.int .u8 (x.toNat : Int))
  nil_ : A = none → c = 0
  few : m ≤ 9223372036854775807
  cap : m ≤ c

/-- A number of a byte, as a byte. -/
theorem byte_of {n : Int} (h : (Lit.int .u8 n).wf = true) : ∃ x : UInt8, n = (x.toNat : Int) := by
  obtain ⟨h0, h1⟩ := bounds_u8 h
  refine ⟨n.toNat.toUInt8, ?_⟩
  have : (n.toNat.toUInt8).toNat = n.toNat % 256 := by simp [Nat.toUInt8]
  rw [this]
  omega
theorem bytes_of {zs : List Int} (h : ∀ n ∈ zs, (Lit.int .u8 n).wf = true) : ∃ l : List UInt8, zs = l.map fun x => (x.toNat : Int) := by
  induction zs with
  | nil => exact ⟨[], rfl⟩
  | cons n r ih =>
    obtain ⟨l, hl⟩ := ih (fun k hk => h k (by simp [hk]))
    obtain ⟨x, hx⟩ := byte_of (h n (by simp))
    exact ⟨x :: l, by rw [hl, hx]; rfl⟩

/-- A list of bytes that came in. -/
theorem view_bytes {H : Type} {enc : TypeId × Value → H} {W : World} {a : Option Addr} {n c : Nat} {d : DataW H} {p : List MemPlace} (h : DataW.Trod enc Tryz.prog W 0 (fun _ => true) true 57 (.slice a n c) d p) :
    ∃ l : List UInt8, BytesIn W a n c l := by
  obtain ⟨fuel, hf⟩ := h
  rcases open_ints Tryz.underlying57 Tryz.underlying5 cellsByte hf with ⟨hcs, _⟩ | ⟨a', len, cap, zs, hcs, _, hl, hcap, hz, _, hc, hw⟩
  · simp [Value.cells] at hcs
    obtain ⟨rfl, rfl, rfl⟩ := hcs
    exact ⟨[], rfl, fun h => absurd h (by simp), fun _ => rfl, by omega, by omega⟩
  · simp [Value.cells] at hcs
    obtain ⟨rfl, rfl, rfl⟩ := hcs
    simp only [if_true] at hz
    have hmax : maxLen = 9223372036854775807 := rfl
    obtain ⟨l, rfl⟩ := bytes_of hw
    rw [List.length_map] at hz
    have hlen : (l.take n).length = n := by rw [List.length_take]; omega
    refine ⟨l.take n, hlen, ?_, (fun e => by cases e), by omega, hl⟩
    intro hpos
    rw [hlen] at hpos
    obtain ⟨b, off, rfl, hb, hc'⟩ := plain_at hc (by rw [List.length_map]; omega)
    refine ⟨b, off, rfl, hb, fun j x hx => ?_⟩
    rw [List.getElem?_take] at hx
    split at hx
    · have := hc' j (by rw [List.length_map]; omega)
      rw [this, List.getD_eq_getElem?_getD, List.getElem?_map, hx]
      rfl
    · cases hx
end Go.Proofs.YtolbnkpakjdnnaaGreatDoor
