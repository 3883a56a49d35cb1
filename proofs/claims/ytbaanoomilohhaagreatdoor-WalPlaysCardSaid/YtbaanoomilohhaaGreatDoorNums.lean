/-
  The writer's numbers, in so many bytes each.
-/
import Derived.Test.YtbaanoomilohhaaGreatDoorBytes
import Derived.Test.YtbaanoomilohhaaGreatDoorOut
import Derived.Deep.AppendLies
import Derived.Maps.AppendAt
namespace Go.Proofs.YtbaanoomilohhaaGreatDoor
open Go.RowKit

/-- A list of numbers as a slice: nil, empty or not. -/
def Ints (w : World) (B : Nat) (A : Option Addr) (xs : List Int) : Prop :=
  0 < xs.length → ∃ b off, A = some ⟨b, off, none⟩ ∧ b < B ∧ ∀ (j : Nat) (x : Int), xs[j]? = some x → w.cell? ⟨b, off + j, none⟩ = some (.int .i64 x)
theorem Ints.nil (w : World) (B : Nat) (A : Option Addr) : Ints w B A [] := fun h => absurd h (by simp)
theorem Ints.more {w : World} {B B' : Nat} {A : Option Addr} {xs : List Int} (h : Ints w B A xs) (hB : B ≤ B') : Ints w B' A xs := fun hp => by
  obtain ⟨b, off, e, hb, hc⟩ := h hp
  exact ⟨b, off, e, by omega, hc⟩
theorem Ints.keep {w w' : World} {B : Nat} {A : Option Addr} {xs : List Int} (h : Ints w B A xs) (hk : ∀ p : Addr, p.block < B → w'.cell? p = w.cell? p) : Ints w' B A xs := by
  intro hp
  obtain ⟨b, off, e, hb, hc⟩ := h hp
  exact ⟨b, off, e, hb, fun j x hx => (hk _ hb).trans (hc j x hx)⟩
theorem Ints.below {w w' : World} {B : Nat} {A : Option Addr} {xs : List Int} (h : Ints w B A xs) (hb : Below B w w') : Ints w' B A xs := h.keep fun _ hp => hb.cell hp

theorem next_cells (l : List UInt8) (x : Int) (t : Nat) (h : 0 ≤ x) : Lib.byteCells (l ++ lowBytes t x.toNat) ++ [Value.int .u8 (x / 2 ^ (8 * t) % 256)] = Lib.byteCells (l ++ lowBytes (t + 1) x.toNat) := by
  rw [pow_bytes x t h, lowBytes_snoc]
  simp [Lib.byteCells, Nat.toUInt8]

set_option maxRecDepth 100000 in
set_option maxHeartbeats 2000000 in
theorem numbers_core (q : Option Addr) (k : Nat) (hk : k ≤ 8) (A : Option Addr) (c : Nat) (xs : List Int) (w : World) (hx : Ints w w.heap.size A xs) (hlen : xs.length * 8 ≤ 140737488351232) (hr : ∀ x ∈ xs, -9223372036854775808 ≤ x ∧ x ≤ 9223372036854775807)
    (R : Bool → World → Prop)
    (hfail : ∀ w1, Below w.heap.size w w1 → Calls Tryz.prog 109 #[.pointer q, .int .i64 1] w1 fun e w' => e = .returned (.pointer q) ∧ R false w')
    (hlay : ∀ w1, Below w.heap.size w w1 → Calls Tryz.prog 110 #[.pointer q, .string ⟨(allBytes k xs).toArray⟩] w1 fun e w' => e = .returned (.pointer q) ∧ R true w') :
    Calls Tryz.prog 97 #[.pointer q, .int .i64 k, .slice A xs.length c] w fun e w' => e = .returned (.pointer q) ∧ R (allFit k xs) w' := by
  obtain ⟨i0, hi, hz0, hz1, hz2⟩ := info_parts byte_info
  have HX := Lib.hid hx
  have HR := Lib.hid hr
  have HF := Lib.hid hfail
  have HL := Lib.hid hlay
  clear hx hr hfail hlay
  have hm1 : k * xs.length ≤ 8 * xs.length := Nat.mul_le_mul_right _ hk
  obtain ⟨n, hn⟩ : ∃ n, n = xs.length := ⟨_, rfl⟩
  rw [← hn] at hlen hm1 ⊢
  have HN := Lib.hid hn
  clear hn
  obtain ⟨m, hm⟩ : ∃ m, m = k * n := ⟨_, rfl⟩
  rw [← hm] at hm1
  have hmi : (k : Int) * (n : Int) = (m : Int) := by rw [hm]; simp
  have HM := Lib.hid hm
  clear hm
  go_enter Tryz.func97, Tryz.ntmps97
  go_wp2_with (at_make; refine wpList_make_own _ rfl _ _ 68 rfl w.heap.size 5 i0 (.int .u8 0) 1 Tryz.underlying68 hi hz0 hz1 .i64 .i64 _ m rfl rfl rfl (by rw [hz2]; omega) (by unfold maxLen; omega) (Nat.le_refl _) ?_; intro w0 hown0 hgrow0)
  have hb0 : Below w.heap.size w w0 := (Below.refl _ _).grown hgrow0 (Nat.le_refl _) (by simp)
  clear hgrow0
  go_loopw [7, 18] (fun v i wr => ∃ j : Nat, j ≤ n ∧ i = .int .i64 j ∧ v = .slice (some ⟨w.heap.size, 0, none⟩) (j * k) m ∧ allFit k (xs.take j) = true ∧
      wr.ownsRow w.heap.size 5 1 (.slice (some ⟨w.heap.size, 0, none⟩) (j * k) m) (j * k) (Lib.byteCells (allBytes k (xs.take j))) ∧ Below w.heap.size w wr)
    (fun _ i _ => n - (intOf i).toNat)
  case atStart => exact ⟨0, Nat.zero_le _, rfl, by simp, by simp [allFit], by simpa [allBytes, Lib.byteCells] using hown0, hb0⟩
  case round =>
    obtain ⟨j, hj, rfl, rfl, hfit, hown, hbr⟩ := hrel
    have HFIT := Lib.hid hfit
    clear hfit hown0 hb0
    by_cases hlt : j < n
    · have hxl : j < xs.length := by rw [← HN.out]; exact hlt
      obtain ⟨b, off, hA, hbB, hc⟩ := HX.out (by omega)
      obtain ⟨x, hx⟩ : ∃ x, x = xs[j] := ⟨_, rfl⟩
      have hxj : xs[j]? = some x := by rw [hx]; exact List.getElem?_eq_getElem hxl
      have hcx : wr.cell? ⟨b, off + j, none⟩ = some (.int .i64 x) := (hbr.cell (p := ⟨b, off + j, none⟩) hbB).trans (hc j x hxj)
      have hxr := HR.out x (by rw [hx]; exact List.getElem_mem hxl)
      have hmem : x ∈ xs := by rw [hx]; exact List.getElem_mem hxl
      have HXJ := Lib.hid hxj
      clear hxj hc hx
      subst hA
      by_cases h0 : x < 0
      · have hno : allFit k xs = false := allFit_no hmem (by unfold fits; simp; intro _; omega)
        have HNO := Lib.hid hno
        clear hno hmem
        go_wp2_with (go_at_call 109; refine (HF.out _ hbr).mono ?_; rintro e w1 ⟨rfl, hR⟩)
        go_ret
        rw [HNO.out]
        exact ⟨rfl, hR⟩
      · have h0' : 0 ≤ x := by omega
        clear h0
        cases hf : fits k x with
        | false =>
          have hq : (x / 2 ^ (8 * k) != 0) = true := by rw [shr_fits x k h0', hf]; rfl
          have hno : allFit k xs = false := allFit_no hmem hf
          have HNO := Lib.hid hno
          clear hno hmem hf
          go_wp2_with (go_at_call 109; refine (HF.out _ hbr).mono ?_; rintro e w1 ⟨rfl, hR⟩)
          go_ret
          rw [HNO.out]
          exact ⟨rfl, hR⟩
        | true =>
          have hq : (x / 2 ^ (8 * k) != 0) = false := by rw [shr_fits x k h0', hf]; rfl
          have HFX := Lib.hid hf
          clear hmem hf
          go_wp2_with fail
          obtain ⟨wo, rfl⟩ : ∃ wo : World, wo = wr := ⟨_, rfl⟩
          go_loopw [7, 34] (fun v i wi => ∃ t : Nat, t ≤ k ∧ i = .int .i64 t ∧ v = .slice (some ⟨w.heap.size, 0, none⟩) (j * k + t) m ∧
              wi.ownsRow w.heap.size 5 1 (.slice (some ⟨w.heap.size, 0, none⟩) (j * k + t) m) (j * k + t) (Lib.byteCells (allBytes k (xs.take j) ++ lowBytes t x.toNat)) ∧ Below w.heap.size w wi)
            (fun _ i _ => k - (intOf i).toNat)
          case atStart => exact ⟨0, Nat.zero_le _, rfl, rfl, by simpa [lowBytes] using hown, hbr⟩
          case round =>
            obtain ⟨t, ht, rfl, rfl, hown1, hbi⟩ := hrel
            clear hown hbr
            by_cases htl : t < k
            · have hroom : j * k + t + 1 ≤ m := by
                rw [HM.out]
                have : (j + 1) * k ≤ n * k := Nat.mul_le_mul_right _ hlt
                rw [Nat.add_mul, Nat.one_mul] at this
                rw [Nat.mul_comm k n]
                omega
              go_wp2_with (at_builtin; refine wpList_append_fits _ rfl _ _ 68 rfl w.heap.size 5 i0 1 Tryz.underlying68 hi hz1 w.heap.size (j * k + t) m _ rfl (hown1.alloc _) ⟨wr.heap.size, 0, none⟩ 1 1 [.int .u8 (x / 2 ^ (8 * t) % 256)] rfl rfl ?c1 ?c2 hroom ?_)
              case c1 =>
                intro a u ha
                match a, ha with
                | 0, ha => simp at ha; subst ha; simp [Addr.add]
              case c2 => intro u hu; simp at hu; subst hu; rfl
              intro w1 hown2 hgrow2
              have hb2 : Below w.heap.size w w1 := (hbi.alloc hbi.size _).grown hgrow2 (by have := hbi.size; simp; omega) (by simp)
              clear hown1 hbi hgrow2
              go_wp2
              go_roundw
              case rel => exact ⟨t + 1, by omega, by go_num, rfl, by rw [← next_cells _ _ _ h0']; exact hown2, hb2⟩
              case measure => simp [intOf]; omega
            · obtain rfl : t = k := by omega
              have e1 : allBytes t (xs.take (j + 1)) = allBytes t (xs.take j) ++ lowBytes t x.toNat := by
                rw [List.take_add_one, HXJ.out]
                simp [allBytes]
              have e2 : allFit t (xs.take (j + 1)) = true := by
                rw [List.take_add_one, HXJ.out]
                simp only [Option.toList_some]
                rw [allFit_snoc, HFIT.out, HFX.out]
                rfl
              have e3 : (j + 1) * t = j * t + t := by rw [Nat.add_mul, Nat.one_mul]
              have E1 := Lib.hid e1
              have E2 := Lib.hid e2
              have E3 := Lib.hid e3
              clear e1 e2 e3 htl
              go_wp2
              go_roundw
              case rel => exact ⟨j + 1, by omega, by go_num, by rw [E3.out], E2.out, by rw [E1.out, E3.out]; exact hown1, hbi⟩
              case measure => simp [intOf]; omega
    · obtain rfl : j = n := by omega
      have htk : xs.take j = xs := List.take_of_length_le (by rw [← HN.out]; exact Nat.le_refl _)
      have hlb : (allBytes k xs).length = j * k := by rw [allBytes_length, ← HN.out]
      rw [htk] at hown
      have hcv := run_convert_bytes_back (P := Tryz.prog) wr 68 9 5 ⟨w.heap.size, 0, none⟩ m (allBytes k xs) Tryz.underlying68 Tryz.underlying5 Tryz.underlying9
        (fun i hi => hown.cells (g := w.heap.size) rfl i _ (by simp [Lib.byteCells, List.getElem?_eq_getElem hi]))
      rw [hlb] at hcv
      have HFIT2 := Lib.hid (show allFit k xs = true by rw [← HFIT.out, htk])
      clear hown htk hlb
      go_wp2_with (go_at_call 110; refine (HL.out _ hbr).mono ?_; rintro e w1 ⟨rfl, hR⟩)
      go_ret
      rw [HFIT2.out]
      exact ⟨rfl, hR⟩
end Go.Proofs.YtbaanoomilohhaaGreatDoor
