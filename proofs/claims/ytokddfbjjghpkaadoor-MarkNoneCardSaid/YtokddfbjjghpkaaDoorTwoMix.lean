/-
  SHA-256, the code's: blocks mixed in.
-/
import Derived.Test.YtokddfbjjghpkaaDoorTwoWords
import Derived.Test.YtokddfbjjghpkaaDoorTwoKey
namespace Go.Proofs.YtokddfbjjghpkaaDoor
open Go.RowKit

/-- What a state is behind k blocks of m. -/
def hashF (m : List UInt8) (s : S8) : Nat → S8
  | 0 => s
  | k + 1 => mix2 (blockB m k) (hashF m s k)
theorem hashF_next (m : List UInt8) (s : S8) (k : Nat) : hashF m s (k + 1) = mix2 (blockB m k) (hashF m s k) := rfl
theorem hashF_ok (m : List UInt8) {s : S8} (h : s.ok) (k : Nat) : (hashF m s k).ok := by
  cases k with
  | zero => exact h
  | succ k => exact plus2_ok _ _
theorem hash2_more (m r : List UInt8) (k : Nat) (hm : m.length = 64 * k) (n : Nat) : hash2 (m ++ r) (k + n) = hashF r (hash2 m k) n := by
  induction n with
  | zero => exact hash2_app m r k (by omega)
  | succ n ih =>
    rw [← Nat.add_assoc, hash2_next, ih, hashF_next]
    refine mix2_congr (fun t ht => ?_) _
    unfold blockB
    rw [List.getD_eq_getElem?_getD, List.getD_eq_getElem?_getD, List.getElem?_append_right (by omega), show 64 * (k + n) + t - m.length = 64 * n + t by omega]
theorem hash2_hashF (m : List UInt8) (k : Nat) : hash2 m k = hashF m S8.init k := by
  induction k with
  | zero => rfl
  | succ k ih => rw [hash2_next, hashF_next, ih]
theorem slice_head (w : World) (M X : ByteArray) (c : Nat) (h : c ≤ M.size) (hX : M.extract 0 c = X) :
    (Instr.slice 9 (.string M) none (some (.int .i64 (c : Int))) none).run Tryd.prog w = .ok (.string X) w := by
  simp [Instr.slice, Instr.sliceBounds, Instr.sliceBound, Sem.run_bind, run_underlying Tryd.underlying9, Result.andThen, asIntOf, h, hX]
theorem slice_rest (w : World) (M X : ByteArray) (c : Nat) (h : c ≤ M.size) (hX : M.extract c M.size = X) :
    (Instr.slice 9 (.string M) (some (.int .i64 (c : Int))) none none).run Tryd.prog w = .ok (.string X) w := by
  simp [Instr.slice, Instr.sliceBounds, Instr.sliceBound, Sem.run_bind, run_underlying Tryd.underlying9, Result.andThen, asIntOf, h, hX]
theorem getD_head (M : ByteArray) (t : Nat) (ht : t < 64) : (M.extract 0 64).data.toList.getD t 0 = M.data.toList.getD t 0 := by
  have := getD_extract M 0 64 t ht
  simpa using this
theorem rest_list (r : ByteArray) (k : Nat) : (r.extract k r.size).data.toList = r.data.toList.drop k := by
  rw [ByteArray.data_extract, Array.toList_extract, List.extract_eq_take_drop, List.take_of_length_le (by rw [List.length_drop, ← Lib.size_eq]; exact Nat.le_refl _)]
def lenText : Value → Nat
  | .string b => b.size
  | _ => 0
/-- What stays in place while blocks are mixed in: the state, the result's cell, the numbers of the rounds. -/
def KeepM (w0 w : World) (gk : Nat) (H K Z : Array Value) : Prop :=
  Blk w w0.heap.size 59 H ∧ Blk w (w0.heap.size + 1) 59 Z ∧ Blk w gk 85 K ∧ Below w0.heap.size w0 w ∧ w0.heap.size + 2 ≤ gk
theorem KeepM.lt {w0 w : World} {gk : Nat} {H K Z : Array Value} (h : KeepM w0 w gk H K Z) : gk < w.heap.size := h.2.2.1.lt
theorem KeepM.trans {w0 w w' : World} {gk : Nat} {H K Z : Array Value} (h : KeepM w0 w gk H K Z) (hb : Below w.heap.size w w') : KeepM w0 w' gk H K Z :=
  ⟨h.1.below hb h.1.lt, h.2.1.below hb h.2.1.lt, h.2.2.1.below hb h.2.2.1.lt, h.2.2.2.1.trans (hb.mono h.2.2.2.1.size), h.2.2.2.2⟩
theorem KeepM.drewN {w0 w : World} {gk : Nat} {H K Z : Array Value} (h : KeepM w0 w gk H K Z) (n : Nat) : KeepM w0 (w.drewN n) gk H K Z :=
  ⟨h.1, h.2.1, h.2.2.1, ⟨h.2.2.2.1.os, h.2.2.2.1.tape, h.2.2.2.1.output, h.2.2.2.1.size, h.2.2.2.1.block⟩, h.2.2.2.2⟩
theorem KeepM.drew {w0 w : World} {gk : Nat} {H K Z : Array Value} (h : KeepM w0 w gk H K Z) : KeepM w0 w.drew gk H K Z :=
  ⟨h.1, h.2.1, h.2.2.1, ⟨h.2.2.2.1.os, h.2.2.2.1.tape, h.2.2.2.1.output, h.2.2.2.1.size, h.2.2.2.1.block⟩, h.2.2.2.2⟩
theorem KeepM.alloc {w0 w : World} {gk : Nat} {H K Z : Array Value} (h : KeepM w0 w gk H K Z) (o : Obj) : KeepM w0 (w.alloc o) gk H K Z := h.trans ((Below.refl _ _).alloc (Nat.le_refl _) _)
theorem KeepM.row {w0 w : World} {gk g : Nat} {H K Z : Array Value} (h : KeepM w0 w gk H K Z) (hg : gk < g) (cs : Array Value) : KeepM w0 (w.setRow g cs) gk H K Z :=
  ⟨blk_setRow_far h.1 (by have := h.2.2.2.2; omega) cs, blk_setRow_far h.2.1 (by have := h.2.2.2.2; omega) cs, blk_setRow_far h.2.2.1 (by omega) cs, below_setRow h.2.2.2.1 (by have := h.2.2.2.2; omega) cs, h.2.2.2.2⟩
theorem KeepM.put {w0 w : World} {gk : Nat} {H K Z : Array Value} (h : KeepM w0 w gk H K Z) (i : Nat) (v : Value) : KeepM w0 (w.setCell ⟨w0.heap.size, i, none⟩ v) gk (H.setIfInBounds i v) K Z :=
  ⟨h.1.put i v, h.2.1.far (by simp) v, h.2.2.1.far (by have := h.2.2.2.2; simp; omega) v, h.2.2.2.1.setCell (by simp) v, h.2.2.2.2⟩

set_option maxRecDepth 100000 in
set_option maxHeartbeats 8000000 in
theorem mixed_code (s : S8) (M : ByteArray) (q : Nat) (w : World) (hs : s.ok) (hM : M.size = 64 * q) (hq : q ≤ 100000) :
    Calls Tryd.prog 25 #[.agg (s8Cells s), .string M] w fun e w' => e = .returned (.agg (s8Cells (hashF M.data.toList s q))) ∧ Below w.heap.size w w' := by
  obtain ⟨IC, hIC⟩ : ∃ IC, IC = s8Cells s := ⟨_, rfl⟩
  rw [← hIC]
  have HIC := Lib.hid hIC
  clear hIC
  obtain ⟨K, hK⟩ : ∃ K, K = keyCells := ⟨_, rfl⟩
  have HC : Hid (∀ w, Calls Tryd.prog 39 #[] w fun e w' => e = .returned (.agg K) ∧ Below w.heap.size w w') := Lib.hid (fun w => by rw [hK]; exact keys_code w)
  have hKs : K.size = 64 := by rw [hK]; rfl
  have hK1 : K.all (·.oneCell') = true := by rw [hK]; exact keyCells_one
  have HKG : Hid (∀ i, i < 64 → K[i]? = some (.int .u32 ((keysL.getD i 0 : Nat) : Int))) := Lib.hid (fun i h => by rw [hK]; exact keyCells_get h)
  clear hK
  have hz : ∀ w, (zeroValue 85).run Tryd.prog w = .ok (.agg (arrV [])) w := fun w => by rw [arrV_nil]; kernel_rfl
  obtain ⟨Z, hZ⟩ : ∃ Z, Z = arrV [] := ⟨_, rfl⟩
  rw [← hZ] at hz
  have hZs : Z.size = 64 := by rw [hZ]; exact arrV_size (by simp)
  clear hZ
  have HS64 : Hid (∀ w, (sizeOf 85).run Tryd.prog w = .ok 64 w) := Lib.hid (fun w => by kernel_rfl)
  have HS8 : Hid (∀ w, (sizeOf 59).run Tryd.prog w = .ok 8 w) := Lib.hid (fun w => by kernel_rfl)
  have HA8 : Hid (∀ w, (isAgg 59).run Tryd.prog w = .ok true w) := Lib.hid (fun w => by kernel_rfl)
  have HOK := Lib.hid hs
  have HM := Lib.hid hM
  have HZS := Lib.hid hZs
  have HKS := Lib.hid (And.intro hKs hK1)
  clear hs hM hZs hKs hK1
  go_enter Tryd.func25, Tryd.ntmps25
  go_upto_region 1 with fail
  obtain ⟨W, hW, b1, b2, hb, hWs⟩ := two_new w IC #[Value.int .u32 0, .int .u32 0, .int .u32 0, .int .u32 0, .int .u32 0, .int .u32 0, .int .u32 0, .int .u32 0] 59 59
  rw [← hW]
  clear hW
  refine wp_region_lit ?_
  refine wpList_call (f := 39) (args := #[]) rfl (by go_simp) ((HC.out W).mono ?_)
  rintro e1 w1 ⟨rfl, hb1⟩
  refine ⟨_, rfl, ?_⟩
  refine wpList_value (v := .pointer (some ⟨w1.heap.size, 0, none⟩)) (w' := w1.alloc (.cells Z 85)) rfl (by go_simp) ?_
  refine wpList_store rfl rfl rfl rfl (store_whole (Blk.new w1 _ Z) (HKS.out.1.trans HZS.out.symm) HKS.out.2 (fun w => by rw [HKS.out.1]; exact HS64.out w)) ?_
  obtain ⟨gk, hgk⟩ : ∃ g, g = w1.heap.size := ⟨_, rfl⟩
  obtain ⟨Z8, hZ8⟩ : ∃ X, X = #[Value.int .u32 0, .int .u32 0, .int .u32 0, .int .u32 0, .int .u32 0, .int .u32 0, .int .u32 0, .int .u32 0] := ⟨_, rfl⟩
  rw [← hZ8] at b2
  have HZ8 := Lib.hid hZ8
  have hs1 := hb1.size
  have HK0 : Hid (KeepM w ((w1.alloc (.cells Z 85)).setRow w1.heap.size K) gk IC K Z8) := Lib.hid (by
    rw [hgk]
    exact ⟨blk_setRow_far ((b1.below hb1 (by omega)).alloc _) (by omega) K, blk_setRow_far ((b2.below hb1 (by omega)).alloc _) (by omega) K, blk_setRow (Blk.new w1 _ Z) K, below_setRow ((hb.trans (hb1.mono (by omega))).alloc (by omega) _) (by omega) K, by omega⟩)
  rw [← hgk]
  rw [← hgk] at HK0
  obtain ⟨W2, hW2⟩ : ∃ W2, W2 = (w1.alloc (.cells Z 85)).setRow gk K := ⟨_, rfl⟩
  rw [← hW2] at HK0
  rw [← hW2]
  clear hW2 hgk hs1 hb1 b1 b2 hb hWs hZ8
  clear w1 W
  go_wp2_with fail
  simp only [Act.put, List.setIfInBounds_toArray, List.set_cons_succ, List.set_cons_zero]
  go_loopw [1] (fun v wr => ∃ (k : Nat) (r : ByteArray), k ≤ q ∧ v = .string r ∧ r.data.toList = M.data.toList.drop (64 * k) ∧ KeepM w wr gk (s8Cells (hashF M.data.toList s k)) K Z8) (fun v _ => lenText v)
  case atStart => exact ⟨0, M, by omega, rfl, by simp, by rw [← show IC = s8Cells (hashF M.data.toList s 0) from HIC.out]; exact HK0.out⟩
  case round =>
    obtain ⟨k, r, hk, rfl, hr, hkm⟩ := hrel
    have HKM := Lib.hid hkm
    have hrs : r.size = 64 * (q - k) := by
      have := congrArg List.length hr
      rw [List.length_drop, ← Lib.size_eq, ← Lib.size_eq, HM.out] at this
      omega
    have HR := Lib.hid hr
    have HRS := Lib.hid hrs
    clear hkm hr
    by_cases hlt : k < q
    · have hrq : 64 ≤ r.size := by omega
      have hne : r.toList.isEmpty = false := by
        rw [Lib.toList_data, List.isEmpty_eq_false_iff]
        intro e
        have := congrArg List.length e
        rw [← Lib.size_eq] at this
        have : r.size = 0 := this
        omega
      obtain ⟨X, hX⟩ : ∃ X, X = r.extract 0 64 := ⟨_, rfl⟩
      have hXs : X.size = 64 := by rw [hX, ByteArray.size_extract]; omega
      have hsl : ∀ w3, (Instr.slice 9 (.string r) none (some (.int .i64 64)) none).run Tryd.prog w3 = .ok (.string X) w3 := fun w3 => slice_head w3 r X 64 hrq hX.symm
      obtain ⟨r2, hr2⟩ : ∃ r2, r2 = r.extract 64 r.size := ⟨_, rfl⟩
      have hsl2 : ∀ w3, (Instr.slice 9 (.string r) (some (.int .i64 64)) none none).run Tryd.prog w3 = .ok (.string r2) w3 := fun w3 => slice_rest w3 r r2 64 hrq hr2.symm
      have HR2 : Hid (r2.data.toList = M.data.toList.drop (64 * (k + 1)) ∧ r2.size < r.size) := Lib.hid ⟨by rw [hr2, rest_list, HR.out, List.drop_drop]; rfl, by rw [hr2, ByteArray.size_extract]; omega⟩
      obtain ⟨L, hL⟩ : ∃ L, L = words2 (fun t => X.data.toList.getD t 0) 64 := ⟨_, rfl⟩
      have HLL : Hid (L.length = 64) := Lib.hid (by rw [hL]; exact words2_length _ _)
      obtain ⟨x0, hx0⟩ : ∃ x0, x0 = hashF M.data.toList s k := ⟨_, rfl⟩
      have HX0 : Hid x0.ok := Lib.hid (by rw [hx0]; exact hashF_ok _ HOK.out k)
      have HNX : Hid (hashF M.data.toList s (k + 1) = x0.plus (steps2 L 64 x0)) := Lib.hid (by
        rw [hashF_next, ← hx0, ← show mix2 (fun t => X.data.toList.getD t 0) x0 = x0.plus (steps2 L 64 x0) by rw [hL]; rfl]
        refine mix2_congr (fun t ht => ?_) _
        unfold blockB
        rw [hX, getD_head r t ht, HR.out, List.getD_eq_getElem?_getD, List.getD_eq_getElem?_getD, List.getElem?_drop])
      rw [← hx0] at HKM
      obtain ⟨WC, hWC⟩ : ∃ WC, WC = (wordCells L).toArray := ⟨_, rfl⟩
      have HWD : Hid (∀ w, Calls Tryd.prog 40 #[.string X] w fun e w' => e = .returned (.agg WC) ∧ Below w.heap.size w w') := Lib.hid (fun w => by rw [hWC, hL]; exact words_code X w hXs)
      have HWG : Hid (∀ i, i < 64 → WC[i]? = some (.int .u32 ((L.getD i 0 : Nat) : Int))) := Lib.hid (fun i h => by rw [hWC]; exact words_get (by rw [HLL.out]; exact h))
      have hWs : WC.size = 64 := by rw [hWC]; unfold wordCells; simp [HLL.out]
      have hW1 : WC.all (·.oneCell') = true := by rw [hWC]; unfold wordCells; simp [Value.oneCell']
      have HWS := Lib.hid (And.intro hWs hW1)
      have HSL2 := Lib.hid hsl2
      clear hX hXs hr2 hL hx0 hWC hWs hW1 hrs hrq hsl2
      go_upto_region 4 with fail
      refine wp_region_lit ?_
      refine wpList_value (v := .string r) (w' := wr) rfl (by go_simp) ?_
      refine wpList_value (v := .string X) (w' := wr) rfl (by go_simp) ?_
      refine wpList_call (f := 40) (args := #[.string X]) rfl (by go_simp) ((HWD.out wr).mono ?_)
      rintro e1 w1 ⟨rfl, hb1⟩
      refine ⟨_, rfl, ?_⟩
      refine wpList_value (v := .pointer (some ⟨w1.heap.size, 0, none⟩)) (w' := w1.alloc (.cells Z 85)) rfl (by go_simp) ?_
      refine wpList_store rfl rfl rfl rfl (store_whole (Blk.new w1 _ Z) (HWS.out.1.trans HZS.out.symm) HWS.out.2 (fun w => by rw [HWS.out.1]; exact HS64.out w)) ?_
      obtain ⟨gw, hgw⟩ : ∃ g, g = w1.heap.size := ⟨_, rfl⟩
      have hgkw : gk < gw := by rw [hgw]; exact (HKM.out.trans hb1).lt
      have HK1 : Hid (KeepM w ((w1.alloc (.cells Z 85)).setRow w1.heap.size WC) gk (s8Cells x0) K Z8) := Lib.hid (by rw [hgw] at hgkw; exact ((HKM.out.trans hb1).alloc _).row hgkw WC)
      have HB1 : Hid (Blk ((w1.alloc (.cells Z 85)).setRow w1.heap.size WC) gw 85 WC) := Lib.hid (by rw [hgw]; exact blk_setRow (Blk.new w1 _ Z) WC)
      rw [← hgw] at HK1 HB1
      rw [← hgw]
      obtain ⟨W3, hW3⟩ : ∃ W3, W3 = (w1.alloc (.cells Z 85)).setRow gw WC := ⟨_, rfl⟩
      rw [← hW3] at HK1 HB1
      rw [← hW3]
      clear hW3 hgw hb1 HKM hsl
      clear w1
      go_upto_region 5 with fail
      refine wp_region_lit ?_
      refine wpList_load rfl rfl rfl (load_whole HK1.out.1 HA8.out HS8.out) ?_
      refine wpList_value (v := .pointer (some ⟨W3.heap.size, 0, none⟩)) (w' := W3.alloc (.cells Z8 59)) rfl (by rw [HZ8.out]; go_simp) ?_
      refine wpList_store rfl rfl rfl rfl (store_whole (Blk.new W3 _ Z8) (by rw [HZ8.out]; rfl) (by unfold s8Cells wordCells; simp [Value.oneCell']) HS8.out) ?_
      obtain ⟨gg, hgg⟩ : ∃ g, g = W3.heap.size := ⟨_, rfl⟩
      have hgwg : gw < gg := by rw [hgg]; exact HB1.out.lt
      have HK2 : Hid (KeepM w ((W3.alloc (.cells Z8 59)).setRow W3.heap.size (s8Cells x0)) gk (s8Cells x0) K Z8) := Lib.hid (by rw [hgg] at hgwg; exact (HK1.out.alloc _).row (by omega) _)
      have HB2 : Hid (Blk ((W3.alloc (.cells Z8 59)).setRow W3.heap.size (s8Cells x0)) gw 85 WC) := Lib.hid (by rw [hgg] at hgwg; exact blk_setRow_far (HB1.out.alloc _) (by omega) _)
      have HG2 : Hid (Blk ((W3.alloc (.cells Z8 59)).setRow W3.heap.size (s8Cells x0)) gg 59 (s8Cells x0)) := Lib.hid (by rw [hgg]; exact blk_setRow (Blk.new W3 _ Z8) _)
      rw [← hgg] at HK2 HB2 HG2
      rw [← hgg]
      obtain ⟨W4, hW4⟩ : ∃ W4, W4 = (W3.alloc (.cells Z8 59)).setRow gg (s8Cells x0) := ⟨_, rfl⟩
      rw [← hW4] at HK2 HB2 HG2
      rw [← hW4]
      clear hW4 hgg HK1 HB1
      clear W3
      go_wp2_with fail
      go_loopw [19] (fun i w2 => ∃ (t : Nat) (x : S8), t ≤ 64 ∧ i = .int .i64 (t : Int) ∧ x = steps2 L t x0 ∧ Blk w2 gw 85 WC ∧ Blk w2 gg 59 (s8Cells x) ∧ KeepM w w2 gk (s8Cells x0) K Z8) (fun i _ => 64 - (intOf i).toNat)
      case atStart => exact ⟨0, x0, by omega, rfl, rfl, HB2.out, HG2.out, HK2.out⟩
      case round =>
        clear HK2 HB2 HG2
        clear W4
        obtain ⟨t, x, ht, rfl, hx, hbw, hbg, hkm⟩ := hrel
        have HBW := Lib.hid hbw
        have HBG := Lib.hid hbg
        have HKM := Lib.hid hkm
        have HXX := Lib.hid hx
        have hok : x.ok := by rw [hx]; exact steps2_ok L t HX0.out
        have HOX := Lib.hid hok
        clear hbw hbg hkm hx hok
        by_cases ht64 : t < 64
        · have hck : wr.cell? ⟨gk, t, none⟩ = some (.int .u32 ((keysL.getD t 0 : Nat) : Int)) := by rw [HKM.out.2.2.1.cell]; exact HKG.out t ht64
          have hcw : wr.cell? ⟨gw, t, none⟩ = some (.int .u32 ((L.getD t 0 : Nat) : Int)) := by rw [HBW.out.cell]; exact HWG.out t ht64
          have HN : Hid (steps2 L (t + 1) x0 = turnN (addW (keysL.getD t 0) (L.getD t 0)) x) := Lib.hid (by rw [turnN_step, HXX.out]; rfl)
          obtain ⟨yk, hyk⟩ : ∃ y, y = keysL.getD t 0 := ⟨_, rfl⟩
          obtain ⟨yw, hyw⟩ : ∃ y, y = L.getD t 0 := ⟨_, rfl⟩
          rw [← hyk] at hck HN
          rw [← hyw] at hcw HN
          obtain ⟨N, hN⟩ : ∃ N, N = addW yk yw := ⟨_, rfl⟩
          have hNI : IntKind.u32.wrap ((yk : Int) + (yw : Int)) = (N : Int) := by rw [hN, addW_cast]; rfl
          rw [← hN] at HN
          clear hyk hyw hN
          have htI : (t : Int) < 64 := by omega
          obtain ⟨NX, hNX⟩ : ∃ NX, NX = s8Cells (turnN N x) := ⟨_, rfl⟩
          have hNs : NX.size = 8 := by rw [hNX]; rfl
          have hN1 : NX.all (·.oneCell') = true := by rw [hNX]; unfold s8Cells wordCells; simp [Value.oneCell']
          have HT : Hid (∀ w, Calls Tryd.prog 41 #[.agg (s8Cells x), .int .u32 (N : Int)] w fun e w' => e = .returned (.agg NX) ∧ Below w.heap.size w w') := Lib.hid (fun w => by rw [hNX]; exact turned_any x N w HOX.out)
          have HNX2 := Lib.hid hNX
          have HNS := Lib.hid (And.intro hNs hN1)
          clear hNX hNs hN1
          clear HXX
          obtain ⟨xa, xb, xc, xd, xe, xf, xg, xh⟩ := x
          have HT : Hid (∀ w, Calls Tryd.prog 41 #[.agg #[Value.int .u32 (xa : Int), Value.int .u32 (xb : Int), Value.int .u32 (xc : Int), Value.int .u32 (xd : Int), Value.int .u32 (xe : Int), Value.int .u32 (xf : Int), Value.int .u32 (xg : Int), Value.int .u32 (xh : Int)], .int .u32 (N : Int)] w fun e w' => e = .returned (.agg NX) ∧ Below w.heap.size w w') := HT
          have c0 : wr.cell? ⟨gg, 0, none⟩ = some (.int .u32 (xa : Int)) := by rw [HBG.out.cell]; rfl
          have c1 : wr.cell? ⟨gg, 1, none⟩ = some (.int .u32 (xb : Int)) := by rw [HBG.out.cell]; rfl
          have c2 : wr.cell? ⟨gg, 2, none⟩ = some (.int .u32 (xc : Int)) := by rw [HBG.out.cell]; rfl
          have c3 : wr.cell? ⟨gg, 3, none⟩ = some (.int .u32 (xd : Int)) := by rw [HBG.out.cell]; rfl
          have c4 : wr.cell? ⟨gg, 4, none⟩ = some (.int .u32 (xe : Int)) := by rw [HBG.out.cell]; rfl
          have c5 : wr.cell? ⟨gg, 5, none⟩ = some (.int .u32 (xf : Int)) := by rw [HBG.out.cell]; rfl
          have c6 : wr.cell? ⟨gg, 6, none⟩ = some (.int .u32 (xg : Int)) := by rw [HBG.out.cell]; rfl
          have c7 : wr.cell? ⟨gg, 7, none⟩ = some (.int .u32 (xh : Int)) := by rw [HBG.out.cell]; rfl
          go_wp2_with fail
          go_still_tail 8, (by kernel_rfl)
          change wpList _ _ _ _ _ wr.drew
          clear c0 c1 c2 c3 c4 c5 c6 c7 hck hcw
          refine wpList_call (f := 41) (args := #[.agg #[Value.int .u32 (xa : Int), Value.int .u32 (xb : Int), Value.int .u32 (xc : Int), Value.int .u32 (xd : Int), Value.int .u32 (xe : Int), Value.int .u32 (xf : Int), Value.int .u32 (xg : Int), Value.int .u32 (xh : Int)], .int .u32 (N : Int)]) rfl (by go_simp) ((HT.out wr.drew).mono ?_)
          rintro e1 w5 ⟨rfl, hbd⟩
          have hb5 : Below wr.heap.size wr w5 := ⟨hbd.os, hbd.tape, hbd.output, hbd.size, hbd.block⟩
          refine ⟨_, rfl, ?_⟩
          refine wpList_store rfl rfl rfl rfl (store_whole (HBG.out.below hb5 HBG.out.lt) (by rw [HNS.out.1]; rfl) HNS.out.2 (fun w => by rw [HNS.out.1]; exact HS8.out w)) ?_
          have HK5 : Hid (KeepM w (w5.setRow gg NX) gk (s8Cells x0) K Z8) := Lib.hid ((HKM.out.trans hb5).row (by omega) NX)
          have HB5 : Hid (Blk (w5.setRow gg NX) gw 85 WC) := Lib.hid (blk_setRow_far (HBW.out.below hb5 HBW.out.lt) (by omega) NX)
          have HG5 : Hid (Blk (w5.setRow gg NX) gg 59 NX) := Lib.hid (blk_setRow (HBG.out.below hb5 HBG.out.lt) NX)
          obtain ⟨W6, hW6⟩ : ∃ W6, W6 = w5.setRow gg NX := ⟨_, rfl⟩
          rw [← hW6] at HK5 HB5 HG5
          rw [← hW6]
          clear hW6 hb5 hbd HBG HBW HKM HT hNI
          clear w5
          go_wp2_with fail
          go_roundw
          case rel => exact ⟨t + 1, steps2 L (t + 1) x0, by omega, by go_num, rfl, HB5.out, by rw [HN.out, ← HNX2.out]; exact HG5.out, HK5.out⟩
          case measure => simp [intOf] <;> omega
        · obtain rfl : t = 64 := by omega
          have HKU : Hid (KeepM w wr gk (upCells x0 x 0) K Z8) := Lib.hid (by rw [upCells_zero]; exact HKM.out)
          clear HKM HBW
          go_wp2_with fail
          go_loopw [32] (fun i w4 => ∃ n : Nat, n ≤ 8 ∧ i = .int .i64 (n : Int) ∧ Blk w4 gg 59 (s8Cells x) ∧ KeepM w w4 gk (upCells x0 x n) K Z8) (fun i _ => 8 - (intOf i).toNat)
          case atStart => exact ⟨0, by omega, rfl, HBG.out, HKU.out⟩
          case round =>
            clear HKU HBG
            obtain ⟨n, hn, rfl, hbg, hku⟩ := hrel
            have HBG := Lib.hid hbg
            have HKU := Lib.hid hku
            clear hbg hku
            by_cases hn8 : n < 8
            · have r1 : wr.cell? ⟨w.heap.size, n, none⟩ = some (.int .u32 ((x0.words.getD n 0 : Nat) : Int)) := by rw [HKU.out.1.cell]; exact upCells_get x0 x hn8
              have r2 : wr.cell? ⟨gg, n, none⟩ = some (.int .u32 ((x.words.getD n 0 : Nat) : Int)) := by rw [HBG.out.cell]; exact s8_get x hn8
              have fz := HKU.out.1.frozen n
              have hnI : (n : Int) < 8 := by omega
              have HUS := Lib.hid (upCells_set x0 x hn8)
              obtain ⟨y0, hy0⟩ : ∃ y, y = x0.words.getD n 0 := ⟨_, rfl⟩
              obtain ⟨y1, hy1⟩ : ∃ y, y = x.words.getD n 0 := ⟨_, rfl⟩
              rw [← hy0] at r1 HUS
              rw [← hy1] at r2 HUS
              clear hy0 hy1
              go_wp2_with fail
              go_still_tail 8, (by kernel_rfl)
              change wpList _ _ _ _ _ wr.drew
              go_wp2_with fail
              clear r1 r2 fz
              refine ⟨?_, ?measure⟩
              · have he : ((y0 : Int) + (y1 : Int)) % 4294967296 = ((addW y0 y1 : Nat) : Int) := (addW_cast y0 y1).symm
                have hkp : KeepM w (wr.drew.setCell ⟨w.heap.size, n, none⟩ (.int .u32 ((addW y0 y1 : Nat) : Int))) gk (upCells x0 x (n + 1)) K Z8 := by
                  rw [← HUS.out]
                  exact HKU.out.drew.put n _
                have hbb : Blk (wr.drew.setCell ⟨w.heap.size, n, none⟩ (.int .u32 ((addW y0 y1 : Nat) : Int))) gg 59 (s8Cells x) := HBG.out.drew.far (by have := HKU.out.2.2.2.2; simp; omega) _
                rw [he]
                repeat (apply Exists.intro)
                refine ⟨?_, rfl⟩
                exact ⟨n + 1, by omega, by go_num, hbb, hkp⟩
              case measure => simp [intOf] <;> omega
            · obtain rfl : n = 8 := by omega
              rw [upCells_all, HXX.out, ← HNX.out] at HKU
              have hsl2 := HSL2.out
              go_wp2_with fail
              refine ⟨?_, ?measure⟩
              · refine ⟨k + 1, r2, by omega, rfl, HR2.out.1, HKU.out⟩
              case measure => exact HR2.out.2
    · obtain rfl : k = q := by omega
      obtain rfl : r = .empty := by apply ByteArray.ext; exact Array.eq_empty_of_size_eq_zero (by show r.size = 0; omega)
      obtain ⟨RC, hRC⟩ : ∃ RC, RC = s8Cells (hashF M.data.toList s k) := ⟨_, rfl⟩
      rw [← hRC] at HKM
      have hRs : RC.size = 8 := by rw [hRC]; rfl
      have hR1 : RC.all (·.oneCell') = true := by rw [hRC]; unfold s8Cells wordCells; simp [Value.oneCell']
      have HL := Lib.hid (load_whole (P := Tryd.prog) HKM.out.1 HA8.out (fun w => by rw [hRs]; exact HS8.out w))
      have HST := Lib.hid (store_whole (P := Tryd.prog) (cs := RC) HKM.out.2.1 (by rw [hRs, HZ8.out]; rfl) hR1 (fun w => by rw [hRs]; exact HS8.out w))
      have HRT := Lib.hid (run_var_part (P := Tryd.prog) (off := 0) (blk_setRow HKM.out.2.1 RC) (fun j v h => by rw [Nat.zero_add]; exact h) HA8.out (fun w => by rw [hRs]; exact HS8.out w))
      have HRC := Lib.hid hRC
      clear hRs hR1 hRC hz hrs
      go_upto_region 16 with fail
      refine wp_region_lit ?_
      refine wpList_load rfl rfl rfl HL.out ?_
      refine wpList_store rfl rfl rfl rfl HST.out ?_
      clear HL HST
      go_wp2_with fail
      refine ret_cell rfl rfl HRT.out rfl ⟨by rw [HRC.out], ?_⟩
      exact below_setRow HKM.out.2.2.2.1 (by omega) _
end Go.Proofs.YtokddfbjjghpkaaDoor
