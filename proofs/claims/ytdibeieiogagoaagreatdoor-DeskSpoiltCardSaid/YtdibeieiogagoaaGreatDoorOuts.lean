/-
  The writer of package bits, call by call: what each leaves of it; of a nil writer nothing is laid.
-/
import Derived.Test.YtdibeieiogagoaaGreatDoorBytes
import Derived.Test.YtdibeieiogagoaaGreatDoorTexts
import Derived.Deep.AppendLies
import Derived.Maps.AppendAt
import Derived.Laws.CopyOwn
import Derived.Lib.BufferWrite
import Derived.BigRegion
namespace Go.Proofs.YtdibeieiogagoaaGreatDoor
open Go.RowKit

/-- A list of numbers as a slice: nil, empty or not. -/
def Ints (w : World) (B : Nat) (A : Option Addr) (xs : List Int) : Prop :=
  0 < xs.length → ∃ b off, A = some ⟨b, off, none⟩ ∧ b < B ∧ ∀ (j : Nat) (x : Int), xs[j]? = some x → w.cell? ⟨b, off + j, none⟩ = some (.int .i64 x)
theorem Ints.nil (w : World) (B : Nat) (A : Option Addr) : Ints w B A [] := fun h => absurd h (by simp)
theorem Ints.more {w : World} {B B' : Nat} {A : Option Addr} {xs : List Int} (h : Ints w B A xs) (hB : B ≤ B') : Ints w B' A xs := fun hp => by
  obtain ⟨b, off, e, hb, hc⟩ := h hp
  exact ⟨b, off, e, by omega, hc⟩
theorem Ints.keep {w w' : World} {B : Nat} {A : Option Addr} {xs : List Int} (h : Ints w B A xs) (hk : ∀ p : Addr, p.block < B → w'.cell? p = w.cell? p) : Ints w' B A xs := by
  intro hp
  obtain ⟨b, off, e, hb, hc⟩ := h hp
  exact ⟨b, off, e, hb, fun j x hx => (hk _ hb).trans (hc j x hx)⟩
theorem Ints.below {w w' : World} {B : Nat} {A : Option Addr} {xs : List Int} (h : Ints w B A xs) (hb : Below B w w') : Ints w' B A xs := h.keep fun _ hp => hb.cell hp

theorem next_cells (l : List UInt8) (x : Int) (t : Nat) (h : 0 ≤ x) : Lib.byteCells (l ++ lowBytes t x.toNat) ++ [Value.int .u8 (x / 2 ^ (8 * t) % 256)] = Lib.byteCells (l ++ lowBytes (t + 1) x.toNat) := by
  rw [pow_bytes x t h, lowBytes_snoc]
  simp [Lib.byteCells, Nat.toUInt8]

set_option maxRecDepth 100000 in
set_option maxHeartbeats 2000000 in
theorem numbers_core (q : Option Addr) (k : Nat) (hk : k ≤ 8) (A : Option Addr) (c : Nat) (xs : List Int) (w : World) (hx : Ints w w.heap.size A xs) (hlen : xs.length * 8 ≤ 140737488351232) (hr : ∀ x ∈ xs, -9223372036854775808 ≤ x ∧ x ≤ 9223372036854775807)
    (R : Bool → World → Prop)
    (hfail : ∀ w1, Below w.heap.size w w1 → Calls Tryz.prog 158 #[.pointer q, .int .i64 1] w1 fun e w' => e = .returned (.pointer q) ∧ R false w')
    (hlay : ∀ w1, Below w.heap.size w w1 → Calls Tryz.prog 131 #[.pointer q, .string ⟨(allBytes k xs).toArray⟩] w1 fun e w' => e = .returned (.pointer q) ∧ R true w') :
    Calls Tryz.prog 130 #[.pointer q, .int .i64 k, .slice A xs.length c] w fun e w' => e = .returned (.pointer q) ∧ R (allFit k xs) w' := by
  obtain ⟨i0, hi, hz0, hz1, hz2⟩ := info_parts byte_info
  have HX := Lib.hid hx
  have HR := Lib.hid hr
  have HF := Lib.hid hfail
  have HL := Lib.hid hlay
  clear hx hr hfail hlay
  have hm1 : k * xs.length ≤ 8 * xs.length := Nat.mul_le_mul_right _ hk
  obtain ⟨n, hn⟩ : ∃ n, n = xs.length := ⟨_, rfl⟩
  rw [← hn] at hlen hm1 ⊢
  have HN := Lib.hid hn
  clear hn
  obtain ⟨m, hm⟩ : ∃ m, m = k * n := ⟨_, rfl⟩
  rw [← hm] at hm1
  have hmi : (k : Int) * (n : Int) = (m : Int) := by rw [hm]; simp
  have HM := Lib.hid hm
  clear hm
  go_enter Tryz.func130, Tryz.ntmps130
  go_wp2_with (at_make; refine wpList_make_own _ rfl _ _ 90 rfl w.heap.size 5 i0 (.int .u8 0) 1 Tryz.underlying90 hi hz0 hz1 .i64 .i64 _ m rfl rfl rfl (by rw [hz2]; omega) (by unfold maxLen; omega) (Nat.le_refl _) ?_; intro w0 hown0 hgrow0)
  have hb0 : Below w.heap.size w w0 := (Below.refl _ _).grown hgrow0 (Nat.le_refl _) (by simp)
  clear hgrow0
  go_loopw [7, 18] (fun v i wr => ∃ j : Nat, j ≤ n ∧ i = .int .i64 j ∧ v = .slice (some ⟨w.heap.size, 0, none⟩) (j * k) m ∧ allFit k (xs.take j) = true ∧
      wr.ownsRow w.heap.size 5 1 (.slice (some ⟨w.heap.size, 0, none⟩) (j * k) m) (j * k) (Lib.byteCells (allBytes k (xs.take j))) ∧ Below w.heap.size w wr)
    (fun _ i _ => n - (intOf i).toNat)
  case atStart => exact ⟨0, Nat.zero_le _, rfl, by simp, by simp [allFit], by simpa [allBytes, Lib.byteCells] using hown0, hb0⟩
  case round =>
    obtain ⟨j, hj, rfl, rfl, hfit, hown, hbr⟩ := hrel
    have HFIT := Lib.hid hfit
    clear hfit hown0 hb0
    by_cases hlt : j < n
    · have hxl : j < xs.length := by rw [← HN.out]; exact hlt
      obtain ⟨b, off, hA, hbB, hc⟩ := HX.out (by omega)
      obtain ⟨x, hx⟩ : ∃ x, x = xs[j] := ⟨_, rfl⟩
      have hxj : xs[j]? = some x := by rw [hx]; exact List.getElem?_eq_getElem hxl
      have hcx : wr.cell? ⟨b, off + j, none⟩ = some (.int .i64 x) := (hbr.cell (p := ⟨b, off + j, none⟩) hbB).trans (hc j x hxj)
      have hxr := HR.out x (by rw [hx]; exact List.getElem_mem hxl)
      have hmem : x ∈ xs := by rw [hx]; exact List.getElem_mem hxl
      have HXJ := Lib.hid hxj
      clear hxj hc hx
      subst hA
      by_cases h0 : x < 0
      · have hno : allFit k xs = false := allFit_no hmem (by unfold fits; simp; intro _; omega)
        have HNO := Lib.hid hno
        clear hno hmem
        go_wp2_with (go_at_call 158; refine (HF.out _ hbr).mono ?_; rintro e w1 ⟨rfl, hR⟩)
        go_ret
        rw [HNO.out]
        exact ⟨rfl, hR⟩
      · have h0' : 0 ≤ x := by omega
        clear h0
        cases hf : fits k x with
        | false =>
          have hq : (x / 2 ^ (8 * k) != 0) = true := by rw [shr_fits x k h0', hf]; rfl
          have hno : allFit k xs = false := allFit_no hmem hf
          have HNO := Lib.hid hno
          clear hno hmem hf
          go_wp2_with (go_at_call 158; refine (HF.out _ hbr).mono ?_; rintro e w1 ⟨rfl, hR⟩)
          go_ret
          rw [HNO.out]
          exact ⟨rfl, hR⟩
        | true =>
          have hq : (x / 2 ^ (8 * k) != 0) = false := by rw [shr_fits x k h0', hf]; rfl
          have HFX := Lib.hid hf
          clear hmem hf
          go_wp2_with fail
          obtain ⟨wo, rfl⟩ : ∃ wo : World, wo = wr := ⟨_, rfl⟩
          go_loopw [7, 34] (fun v i wi => ∃ t : Nat, t ≤ k ∧ i = .int .i64 t ∧ v = .slice (some ⟨w.heap.size, 0, none⟩) (j * k + t) m ∧
              wi.ownsRow w.heap.size 5 1 (.slice (some ⟨w.heap.size, 0, none⟩) (j * k + t) m) (j * k + t) (Lib.byteCells (allBytes k (xs.take j) ++ lowBytes t x.toNat)) ∧ Below w.heap.size w wi)
            (fun _ i _ => k - (intOf i).toNat)
          case atStart => exact ⟨0, Nat.zero_le _, rfl, rfl, by simpa [lowBytes] using hown, hbr⟩
          case round =>
            obtain ⟨t, ht, rfl, rfl, hown1, hbi⟩ := hrel
            clear hown hbr
            by_cases htl : t < k
            · have hroom : j * k + t + 1 ≤ m := by
                rw [HM.out]
                have : (j + 1) * k ≤ n * k := Nat.mul_le_mul_right _ hlt
                rw [Nat.add_mul, Nat.one_mul] at this
                rw [Nat.mul_comm k n]
                omega
              go_wp2_with (at_builtin; refine wpList_append_fits _ rfl _ _ 90 rfl w.heap.size 5 i0 1 Tryz.underlying90 hi hz1 w.heap.size (j * k + t) m _ rfl (hown1.alloc _) ⟨wr.heap.size, 0, none⟩ 1 1 [.int .u8 (x / 2 ^ (8 * t) % 256)] rfl rfl ?c1 ?c2 hroom ?_)
              case c1 =>
                intro a u ha
                match a, ha with
                | 0, ha => simp at ha; subst ha; simp [Addr.add]
              case c2 => intro u hu; simp at hu; subst hu; rfl
              intro w1 hown2 hgrow2
              have hb2 : Below w.heap.size w w1 := (hbi.alloc hbi.size _).grown hgrow2 (by have := hbi.size; simp; omega) (by simp)
              clear hown1 hbi hgrow2
              go_wp2
              go_roundw
              case rel => exact ⟨t + 1, by omega, by go_num, rfl, by rw [← next_cells _ _ _ h0']; exact hown2, hb2⟩
              case measure => simp [intOf]; omega
            · obtain rfl : t = k := by omega
              have e1 : allBytes t (xs.take (j + 1)) = allBytes t (xs.take j) ++ lowBytes t x.toNat := by
                rw [List.take_add_one, HXJ.out]
                simp [allBytes]
              have e2 : allFit t (xs.take (j + 1)) = true := by
                rw [List.take_add_one, HXJ.out]
                simp only [Option.toList_some]
                rw [allFit_snoc, HFIT.out, HFX.out]
                rfl
              have e3 : (j + 1) * t = j * t + t := by rw [Nat.add_mul, Nat.one_mul]
              have E1 := Lib.hid e1
              have E2 := Lib.hid e2
              have E3 := Lib.hid e3
              clear e1 e2 e3 htl
              go_wp2
              go_roundw
              case rel => exact ⟨j + 1, by omega, by go_num, by rw [E3.out], E2.out, by rw [E1.out, E3.out]; exact hown1, hbi⟩
              case measure => simp [intOf]; omega
    · obtain rfl : j = n := by omega
      have htk : xs.take j = xs := List.take_of_length_le (by rw [← HN.out]; exact Nat.le_refl _)
      have hlb : (allBytes k xs).length = j * k := by rw [allBytes_length, ← HN.out]
      rw [htk] at hown
      have hcv := run_convert_bytes_back (P := Tryz.prog) wr 90 9 5 ⟨w.heap.size, 0, none⟩ m (allBytes k xs) Tryz.underlying90 Tryz.underlying5 Tryz.underlying9
        (fun i hi => hown.cells (g := w.heap.size) rfl i _ (by simp [Lib.byteCells, List.getElem?_eq_getElem hi]))
      rw [hlb] at hcv
      have HFIT2 := Lib.hid (show allFit k xs = true by rw [← HFIT.out, htk])
      clear hown htk hlb
      go_wp2_with (go_at_call 131; refine (HL.out _ hbr).mono ?_; rintro e w1 ⟨rfl, hR⟩)
      go_ret
      rw [HFIT2.out]
      exact ⟨rfl, hR⟩
end Go.Proofs.YtdibeieiogagoaaGreatDoor

namespace Go.Proofs.YtdibeieiogagoaaGreatDoor
open Go.RowKit

theorem repeat_zero (c : Nat) : Lib.repeatL [0] c = List.replicate c (0 : UInt8) := by
  induction c with
  | zero => rfl
  | succ c ih => rw [Lib.repeatL, ih, List.replicate_succ]; rfl

set_option maxHeartbeats 400000 in
theorem pad_nil (n : Int) (w : World) :
    Calls Tryz.prog 133 #[.pointer none, .int .i64 n] w fun e w' => e = .returned (.pointer none) ∧ w = w' := by
  go_enter Tryz.func133, Tryz.ntmps133
  go_wp2_with fail
  go_ret
  exact ⟨rfl, rfl⟩

set_option maxHeartbeats 800000 in
theorem pad_any (o : Nat) (s : Wr) (n : Int) (w : World) (h : OutAt w o s) (hs : s.l.length ≤ 140737488351232) :
    Calls Tryz.prog 133 #[.pointer (some ⟨o, 0, none⟩), .int .i64 n] w fun e w' => e = .returned (.pointer (some ⟨o, 0, none⟩)) ∧ OutAt w' o (s.pad n) ∧ w.grownBy w' (some o) := by
  have H := Lib.hid h
  obtain ⟨p, r, h1, h2, h3⟩ := h
  have c1 := h1.cell 1
  simp at c1
  clear h1 h2 h3
  by_cases h0 : n < 0
  · have R : s.pad n = s.fail 1 := by unfold Wr.pad; rw [if_pos (.inl h0)]
    rw [R]
    clear R
    go_enter Tryz.func133, Tryz.ntmps133
    go_wp2_with (go_at_call 158; refine (fail_any o s 1 _ H.out).mono ?_; rintro e w1 ⟨rfl, h1, hg1⟩)
    go_ret
    exact ⟨rfl, h1, hg1⟩
  · obtain ⟨m, rfl⟩ := Int.eq_ofNat_of_zero_le (show 0 ≤ n by omega)
    clear h0
    by_cases hb : 65536 < m
    · have R : s.pad m = s.fail 1 := by unfold Wr.pad; rw [if_pos (.inr (by omega))]
      rw [R]
      clear R
      go_enter Tryz.func133, Tryz.ntmps133
      go_wp2_with (go_at_call 158; refine (fail_any o s 1 _ H.out).mono ?_; rintro e w1 ⟨rfl, h1, hg1⟩)
      go_ret
      exact ⟨rfl, h1, hg1⟩
    · have hb' : m ≤ 65536 := by omega
      clear hb
      by_cases hl : m < s.l.length
      · have R : s.pad m = s.fail 2 := by unfold Wr.pad; rw [if_neg (by omega), if_pos (by omega)]
        rw [R]
        clear R
        go_enter Tryz.func133, Tryz.ntmps133
        go_wp2_with (go_at_call 158; refine (fail_any o s 2 _ H.out).mono ?_; rintro e w1 ⟨rfl, h1, hg1⟩)
        go_ret
        exact ⟨rfl, h1, hg1⟩
      · have hl' : s.l.length ≤ m := by omega
        have R : s.pad m = s.lay (List.replicate (m - s.l.length) 0) := by unfold Wr.pad; rw [if_neg (by omega), if_neg (by omega)]; rfl
        rw [R]
        clear R hl
        have e1 : (⟨(Lib.repeatL (ByteArray.mk #[0]).data.toList (m - s.l.length)).toArray⟩ : ByteArray).data.toList = List.replicate (m - s.l.length) 0 := by
          show Lib.repeatL [0] _ = _
          exact repeat_zero _
        have E1 := Lib.hid e1
        clear e1
        go_enter Tryz.func133, Tryz.ntmps133
        go_wp2_with fail
        rw [show ((m : Int) - (s.l.length : Int)) = ((m - s.l.length : Nat) : Int) from by omega]
        refine (repeat_any ⟨#[0]⟩ (m - s.l.length) _ (by omega) (by show 1 * _ ≤ _; omega)).mono ?_
        rintro e w1 ⟨rfl, hb1⟩
        go_wp2_with (go_at_call 131; refine (lay_any o s _ w1 (H.out.below hb1) (by rw [Lib.size_eq, E1.out]; simp; omega)).mono ?_; rintro e w2 ⟨rfl, h2, hg2⟩)
        go_ret
        exact ⟨rfl, by rw [E1.out] at h2; exact h2, by_trans (by_below hb1 (Nat.le_refl _)) hg2⟩

set_option maxHeartbeats 400000 in
theorem fin_nil (w : World) :
    Calls Tryz.prog 106 #[.pointer none] w fun e w' => e = .returned (.tuple #[.string .empty, .int .i64 1]) ∧ w = w' := by
  go_enter Tryz.func106, Tryz.ntmps106
  go_wp2_with fail
  go_ret2
  exact ⟨rfl, rfl⟩

set_option maxRecDepth 100000 in
set_option maxHeartbeats 2000000 in
theorem fin_any (o : Nat) (s : Wr) (w : World) (h : OutAt w o s) (hok : s.ok) (hs : s.l.length ≤ 140737488351232) :
    Calls Tryz.prog 106 #[.pointer (some ⟨o, 0, none⟩)] w fun e w' => e = .returned (.tuple #[.string ⟨s.l.toArray⟩, .int .i64 s.e]) ∧ OutAt w' o s ∧ Below w.heap.size w w' := by
  have H := Lib.hid h
  obtain ⟨p, r, h1, h2, h3⟩ := h
  have c0 := h1.cell 0
  have c1 := h1.cell 1
  have c2 := h1.cell 2
  simp at c0 c1 c2
  have hl := h1.lt
  have H2 := Lib.hid h2
  have H3 := Lib.hid h3
  clear h1 h2 h3
  by_cases he : s.e = 0
  · have HE := Lib.hid he
    rw [he] at c2
    clear he hok
    obtain ⟨i0, hi, hz0, hz1, hz2⟩ := info_parts (show (Tryz.prog.info? 5).map (fun i => (i.zero, i.size, i.bytes)) = some (some (.int .u8 0), 1, 1) by kernel_rfl)
    obtain ⟨n, hn⟩ : ∃ n, n = s.l.length := ⟨_, rfl⟩
    rw [← hn] at hs c1
    have HN := Lib.hid hn
    clear hn
    obtain ⟨M, hM⟩ : ∃ M, M = madeCells (Value.int .u8 0).cells (((n : Nat) : Int).toNat * i0.size) := ⟨_, rfl⟩
    have hMs : M.size = n := by rw [hM, size_madeCells, hz1]; simp
    have hmk : ∀ W : World, (Instr.makeSlice 90 (.int .i64 (n : Int)) (.int .i64 (n : Int))).run Tryz.prog W = .ok (.slice (some ⟨W.heap.size, 0, none⟩) n n) (W.alloc (.cells M 5)) := fun W => by
      have h := run_make (P := Tryz.prog) W 90 5 i0 (.int .u8 0) Tryz.underlying90 hi hz0 .i64 .i64 (n : Int) (n : Int) (by omega) (by omega) (by rw [hz2]; omega) (by omega)
      rw [← hM] at h
      simpa using h
    have HMS := Lib.hid hMs
    clear hM hMs
    go_enter Tryz.func106, Tryz.ntmps106
    go_wp2_with fail
    go_loopw [5, 6] (fun a v wr => ∃ (rem : List (Nat × ByteArray)) (pc : Option Addr) (tail : List UInt8) (cur : Array Value), Chain w o pc rem ∧ cat rem ++ tail = s.l ∧ a = .int .i64 (cat rem).length ∧ v = .pointer pc ∧
        wr.heap[w.heap.size]? = some (.cells cur 5 (0, 0)) ∧ cur.size = n ∧ cur.toList.drop (cat rem).length = Lib.byteCells tail ∧ Below w.heap.size w wr)
      (fun a _ _ => (intOf a).toNat)
    case atStart =>
      refine ⟨r, p, [], M, H2.out, by rw [H3.out]; simp, by rw [H3.out, HN.out], rfl, heap_alloc_new w _, HMS.out, ?_, (Below.refl _ _).alloc (Nat.le_refl _) _⟩
      rw [List.drop_of_length_le (by rw [H3.out, Array.length_toList, HMS.out, HN.out]; exact Nat.le_refl _)]
      rfl
    case round =>
      obtain ⟨rem, pc, tail, cur, hch, hcat, rfl, rfl, hcur, hcsz, hdrop, hbr⟩ := hrel
      have HCAT := Lib.hid hcat
      have HDROP := Lib.hid hdrop
      clear hcat hdrop
      match rem, hch with
      | [], hch =>
        obtain rfl : pc = none := hch
        have htl : tail = s.l := HCAT.out
        have hcl : cur.toList = Lib.byteCells s.l := by rw [← htl]; exact HDROP.out
        have hcv := run_convert_bytes_back (P := Tryz.prog) wr 90 9 5 ⟨w.heap.size, 0, none⟩ n s.l Tryz.underlying90 Tryz.underlying5 Tryz.underlying9
          (fun i hi => Lib.cells_of_row hcur s.l.length i _ (by rw [List.take_of_length_le (by rw [hcl, Lib.byteCells_length]; exact Nat.le_refl _), hcl]; simp [Lib.byteCells, List.getElem?_eq_getElem hi]))
        rw [← HN.out] at hcv
        clear htl hcl hcur hcsz
        go_wp2_with fail
        go_ret2
        exact ⟨by rw [HE.out]; rfl, H.out.below hbr, hbr⟩
      | (qb, sb) :: rem', hch =>
        obtain ⟨rfl, hqo, hsz, p', hq, hch'⟩ := hch
        have hq' := hq.below hbr hq.lt
        have d0 := hq'.cell 0
        have d1 := hq'.cell 1
        simp at d0 d1
        have hlen : (cat ((qb, sb) :: rem')).length = (cat rem').length + sb.size := by rw [cat, List.length_append, Lib.size_eq]
        have hle : (cat ((qb, sb) :: rem')).length ≤ n := by
          have := congrArg List.length HCAT.out
          rw [List.length_append] at this
          rw [HN.out]
          omega
        obtain ⟨a', ha'⟩ : ∃ a', a' = (cat rem').length := ⟨_, rfl⟩
        rw [hlen, ← ha'] at hle ⊢
        have HA := Lib.hid ha'
        have HLEN := Lib.hid hlen
        have hcp := Lib.run_copy_row_string (P := Tryz.prog) wr.drew 90 9 3 5 w.heap.size a' (n - a') (n - a') sb cur 5 Tryz.underlying90 (by rw [hi]; simp [hz1]) hcur (by omega) (by rw [hcsz]; omega)
        obtain ⟨Y, hY⟩ : ∃ Y, Y = (cur.toList.take a' ++ Lib.byteCells sb.data.toList ++ cur.toList.drop (a' + sb.size)).toArray := ⟨_, rfl⟩
        rw [← hY] at hcp
        have HY := Lib.hid hY
        have HCH := Lib.hid hch'
        have HCS := Lib.hid hcsz
        have hqne : qb ≠ w.heap.size := by have := hq.lt; omega
        have hd0 : (wr.drew.setRow w.heap.size Y).cell? ⟨qb, 0, none⟩ = some (.pointer p') :=
          (World.cell?_of_block (w := wr.drew) (setRow_other wr.drew w.heap.size qb Y hqne)).trans d0
        have hb' : Below w.heap.size w (wr.drew.setRow w.heap.size Y) := below_setRow hbr.drew (Nat.le_refl _) Y
        have hcur' : (wr.drew.setRow w.heap.size Y).heap[w.heap.size]? = some (.cells Y 5 (0, 0)) := setRow_heap wr.drew w.heap.size cur Y 5 (0, 0) hcur
        have HCUR := Lib.hid hcur'
        clear ha' hlen hY hq hq' hch' hcsz hcur'
        go_wp2_with fail
        go_region
        go_wp2_with fail
        go_roundw
        case rel =>
          refine ⟨rem', p', sb.data.toList ++ tail, Y, HCH.out, ?_, by rw [HA.out], rfl, HCUR.out, ?_, ?_, hb'⟩
          · rw [← HCAT.out, cat, List.append_assoc]
          · rw [HY.out, ← Array.length_toList, List.toList_toArray, List.length_append, List.length_append, List.length_take, List.length_drop, Array.length_toList, HCS.out, Lib.byteCells_length, ← Lib.size_eq]
            omega
          · have hd := HDROP.out
            rw [HLEN.out] at hd
            rw [← HA.out] at hd ⊢
            rw [HY.out, List.toList_toArray, List.append_assoc, List.drop_append_of_le_length (by rw [List.length_take, Array.length_toList, HCS.out]; omega),
              List.drop_of_length_le (by rw [List.length_take]; omega), List.nil_append, hd, Lib.byteCells_append]
        case measure => simp [intOf]; omega
  · have hl0 : s.l = [] := hok he
    have hc : (s.e != 0) = true := by rw [bne_iff_ne]; exact he
    rw [hl0]
    go_enter Tryz.func106, Tryz.ntmps106
    go_wp2_with fail
    go_quiet (fail)
    go_wp2_with fail
    go_ret2
    have hb : Below w.heap.size w (w.drewN nq) := ⟨rfl, rfl, rfl, Nat.le_refl _, fun _ _ => rfl⟩
    exact ⟨rfl, H.out.below hb, hb⟩
end Go.Proofs.YtdibeieiogagoaaGreatDoor

namespace Go.Proofs.YtdibeieiogagoaaGreatDoor
open Go.RowKit

/-- What may stand in a list of numbers. -/
def InRange (xs : List Int) : Prop := ∀ x ∈ xs, -9223372036854775808 ≤ x ∧ x ≤ 9223372036854775807

set_option maxHeartbeats 400000 in
theorem numbers_any (k : Nat) (hk : k ≤ 8) (o : Nat) (s : Wr) (A : Option Addr) (n c : Nat) (xs : List Int) (w : World) (hn : xs.length = n) (hx : Ints w w.heap.size A xs) (hlen : xs.length * 8 ≤ 140737488351232) (hr : InRange xs) (h : OutAt w o s) (hs : s.l.length ≤ 140737488351232) :
    Calls Tryz.prog 130 #[.pointer (some ⟨o, 0, none⟩), .int .i64 k, .slice A n c] w fun e w' => e = .returned (.pointer (some ⟨o, 0, none⟩)) ∧ OutAt w' o (s.nums k xs) ∧ w.grownBy w' (some o) := by
  subst hn
  have hm : xs.length * k ≤ xs.length * 8 := Nat.mul_le_mul_left _ hk
  have key := numbers_core (some ⟨o, 0, none⟩) k hk A c xs w hx hlen hr (fun ok w' => OutAt w' o (if ok = true then s.lay (allBytes k xs) else s.fail 1) ∧ w.grownBy w' (some o))
    (fun w1 hb => (fail_any o s 1 w1 (h.below hb)).mono fun e w' ⟨he, h1, h2⟩ => ⟨he, by simpa using h1, by_trans (by_below hb (Nat.le_refl _)) h2⟩)
    (fun w1 hb => (lay_any o s _ w1 (h.below hb) (by rw [Lib.size_eq]; show _ + (allBytes k xs).length ≤ _; rw [allBytes_length]; omega)).mono fun e w' ⟨he, h1, h2⟩ => ⟨he, by simpa using h1, by_trans (by_below hb (Nat.le_refl _)) h2⟩)
  exact key
set_option maxHeartbeats 400000 in
theorem numbers_nil (k : Nat) (hk : k ≤ 8) (A : Option Addr) (n c : Nat) (xs : List Int) (w : World) (hn : xs.length = n) (hx : Ints w w.heap.size A xs) (hlen : xs.length * 8 ≤ 140737488351232) (hr : InRange xs) :
    Calls Tryz.prog 130 #[.pointer none, .int .i64 k, .slice A n c] w fun e w' => e = .returned (.pointer none) ∧ Below w.heap.size w w' := by
  subst hn
  exact numbers_core none k hk A c xs w hx hlen hr (fun _ w' => Below w.heap.size w w')
    (fun w1 hb => (fail_nil 1 w1).mono fun e w' ⟨he, hw⟩ => ⟨he, by subst hw; exact hb⟩)
    (fun w1 hb => (lay_nil _ w1).mono fun e w' ⟨he, hw⟩ => ⟨he, by subst hw; exact hb⟩)

set_option maxHeartbeats 400000 in
theorem out_byte (o : Nat) (s : Wr) (A : Option Addr) (n c : Nat) (xs : List Int) (w : World) (hn : xs.length = n) (hx : Ints w w.heap.size A xs) (hlen : xs.length * 8 ≤ 140737488351232) (hr : InRange xs) (h : OutAt w o s) (hs : s.l.length ≤ 140737488351232) :
    Calls Tryz.prog 103 #[.pointer (some ⟨o, 0, none⟩), .slice A n c] w fun e w' => e = .returned (.pointer (some ⟨o, 0, none⟩)) ∧ OutAt w' o (s.nums 1 xs) ∧ w.grownBy w' (some o) := by
  have H := Lib.hid (numbers_any 1 (by omega) o s A n c xs w hn hx hlen hr h hs)
  clear hn hx hlen hr h hs
  go_enter Tryz.func103, Tryz.ntmps103
  go_wp2_with (go_at_call 130; refine H.out.mono ?_; rintro e w1 ⟨rfl, h1, hg1⟩)
  go_ret
  exact ⟨rfl, h1, hg1⟩
set_option maxHeartbeats 400000 in
theorem out_byte_nil (A : Option Addr) (n c : Nat) (xs : List Int) (w : World) (hn : xs.length = n) (hx : Ints w w.heap.size A xs) (hlen : xs.length * 8 ≤ 140737488351232) (hr : InRange xs) :
    Calls Tryz.prog 103 #[.pointer none, .slice A n c] w fun e w' => e = .returned (.pointer none) ∧ Below w.heap.size w w' := by
  have H := Lib.hid (numbers_nil 1 (by omega) A n c xs w hn hx hlen hr)
  clear hn hx hlen hr
  go_enter Tryz.func103, Tryz.ntmps103
  go_wp2_with (go_at_call 130; refine H.out.mono ?_; rintro e w1 ⟨rfl, hb1⟩)
  go_ret
  exact ⟨rfl, hb1⟩

set_option maxHeartbeats 400000 in
theorem out_half (o : Nat) (s : Wr) (A : Option Addr) (n c : Nat) (xs : List Int) (w : World) (hn : xs.length = n) (hx : Ints w w.heap.size A xs) (hlen : xs.length * 8 ≤ 140737488351232) (hr : InRange xs) (h : OutAt w o s) (hs : s.l.length ≤ 140737488351232) :
    Calls Tryz.prog 104 #[.pointer (some ⟨o, 0, none⟩), .slice A n c] w fun e w' => e = .returned (.pointer (some ⟨o, 0, none⟩)) ∧ OutAt w' o (s.nums 2 xs) ∧ w.grownBy w' (some o) := by
  have H := Lib.hid (numbers_any 2 (by omega) o s A n c xs w hn hx hlen hr h hs)
  clear hn hx hlen hr h hs
  go_enter Tryz.func104, Tryz.ntmps104
  go_wp2_with (go_at_call 130; refine H.out.mono ?_; rintro e w1 ⟨rfl, h1, hg1⟩)
  go_ret
  exact ⟨rfl, h1, hg1⟩
set_option maxHeartbeats 400000 in
theorem out_half_nil (A : Option Addr) (n c : Nat) (xs : List Int) (w : World) (hn : xs.length = n) (hx : Ints w w.heap.size A xs) (hlen : xs.length * 8 ≤ 140737488351232) (hr : InRange xs) :
    Calls Tryz.prog 104 #[.pointer none, .slice A n c] w fun e w' => e = .returned (.pointer none) ∧ Below w.heap.size w w' := by
  have H := Lib.hid (numbers_nil 2 (by omega) A n c xs w hn hx hlen hr)
  clear hn hx hlen hr
  go_enter Tryz.func104, Tryz.ntmps104
  go_wp2_with (go_at_call 130; refine H.out.mono ?_; rintro e w1 ⟨rfl, hb1⟩)
  go_ret
  exact ⟨rfl, hb1⟩

set_option maxHeartbeats 400000 in
theorem out_word (o : Nat) (s : Wr) (A : Option Addr) (n c : Nat) (xs : List Int) (w : World) (hn : xs.length = n) (hx : Ints w w.heap.size A xs) (hlen : xs.length * 8 ≤ 140737488351232) (hr : InRange xs) (h : OutAt w o s) (hs : s.l.length ≤ 140737488351232) :
    Calls Tryz.prog 134 #[.pointer (some ⟨o, 0, none⟩), .slice A n c] w fun e w' => e = .returned (.pointer (some ⟨o, 0, none⟩)) ∧ OutAt w' o (s.nums 4 xs) ∧ w.grownBy w' (some o) := by
  have H := Lib.hid (numbers_any 4 (by omega) o s A n c xs w hn hx hlen hr h hs)
  clear hn hx hlen hr h hs
  go_enter Tryz.func134, Tryz.ntmps134
  go_wp2_with (go_at_call 130; refine H.out.mono ?_; rintro e w1 ⟨rfl, h1, hg1⟩)
  go_ret
  exact ⟨rfl, h1, hg1⟩
set_option maxHeartbeats 400000 in
theorem out_word_nil (A : Option Addr) (n c : Nat) (xs : List Int) (w : World) (hn : xs.length = n) (hx : Ints w w.heap.size A xs) (hlen : xs.length * 8 ≤ 140737488351232) (hr : InRange xs) :
    Calls Tryz.prog 134 #[.pointer none, .slice A n c] w fun e w' => e = .returned (.pointer none) ∧ Below w.heap.size w w' := by
  have H := Lib.hid (numbers_nil 4 (by omega) A n c xs w hn hx hlen hr)
  clear hn hx hlen hr
  go_enter Tryz.func134, Tryz.ntmps134
  go_wp2_with (go_at_call 130; refine H.out.mono ?_; rintro e w1 ⟨rfl, hb1⟩)
  go_ret
  exact ⟨rfl, hb1⟩

set_option maxHeartbeats 400000 in
theorem out_long (o : Nat) (s : Wr) (A : Option Addr) (n c : Nat) (xs : List Int) (w : World) (hn : xs.length = n) (hx : Ints w w.heap.size A xs) (hlen : xs.length * 8 ≤ 140737488351232) (hr : InRange xs) (h : OutAt w o s) (hs : s.l.length ≤ 140737488351232) :
    Calls Tryz.prog 157 #[.pointer (some ⟨o, 0, none⟩), .slice A n c] w fun e w' => e = .returned (.pointer (some ⟨o, 0, none⟩)) ∧ OutAt w' o (s.nums 8 xs) ∧ w.grownBy w' (some o) := by
  have H := Lib.hid (numbers_any 8 (by omega) o s A n c xs w hn hx hlen hr h hs)
  clear hn hx hlen hr h hs
  go_enter Tryz.func157, Tryz.ntmps157
  go_wp2_with (go_at_call 130; refine H.out.mono ?_; rintro e w1 ⟨rfl, h1, hg1⟩)
  go_ret
  exact ⟨rfl, h1, hg1⟩
set_option maxHeartbeats 400000 in
theorem out_long_nil (A : Option Addr) (n c : Nat) (xs : List Int) (w : World) (hn : xs.length = n) (hx : Ints w w.heap.size A xs) (hlen : xs.length * 8 ≤ 140737488351232) (hr : InRange xs) :
    Calls Tryz.prog 157 #[.pointer none, .slice A n c] w fun e w' => e = .returned (.pointer none) ∧ Below w.heap.size w w' := by
  have H := Lib.hid (numbers_nil 8 (by omega) A n c xs w hn hx hlen hr)
  clear hn hx hlen hr
  go_enter Tryz.func157, Tryz.ntmps157
  go_wp2_with (go_at_call 130; refine H.out.mono ?_; rintro e w1 ⟨rfl, hb1⟩)
  go_ret
  exact ⟨rfl, hb1⟩

theorem out_raw (o : Nat) (s : Wr) (A : Option Addr) (n c : Nat) (xs : List ByteArray) (w : World) (hn : xs.length = n) (hx : Txts w w.heap.size A xs) (hlen : xs.length ≤ 140737488351232) (hsum : (cats xs).length ≤ 140737488351232) (h : OutAt w o s) (hs : s.l.length ≤ 140737488351232) :
    Calls Tryz.prog 105 #[.pointer (some ⟨o, 0, none⟩), .slice A n c] w fun e w' => e = .returned (.pointer (some ⟨o, 0, none⟩)) ∧ OutAt w' o (s.raws xs) ∧ w.grownBy w' (some o) := by
  subst hn
  have key := raws_core (some ⟨o, 0, none⟩) A c xs w hx hlen hsum (fun w' => OutAt w' o (s.lay (cats xs)) ∧ w.grownBy w' (some o))
    (fun w1 hb => (lay_any o s _ w1 (h.below hb) (by rw [Lib.size_eq]; show _ + (cats xs).length ≤ _; omega)).mono fun e w' ⟨he, h1, h2⟩ => ⟨he, by simpa using h1, by_trans (by_below hb (Nat.le_refl _)) h2⟩)
  exact key
theorem out_raw_nil (A : Option Addr) (n c : Nat) (xs : List ByteArray) (w : World) (hn : xs.length = n) (hx : Txts w w.heap.size A xs) (hlen : xs.length ≤ 140737488351232) (hsum : (cats xs).length ≤ 140737488351232) :
    Calls Tryz.prog 105 #[.pointer none, .slice A n c] w fun e w' => e = .returned (.pointer none) ∧ Below w.heap.size w w' := by
  subst hn
  exact raws_core none A c xs w hx hlen hsum (fun w' => Below w.heap.size w w')
    (fun w1 hb => (lay_nil _ w1).mono fun e w' ⟨he, hw⟩ => ⟨he, by subst hw; exact hb⟩)

/-- Short lists, as they stand in new blocks. -/
theorem ints_new (w : World) (xs : List Int) : Ints (w.alloc (.cells (xs.map (Value.int .i64)).toArray 3)) (w.alloc (.cells (xs.map (Value.int .i64)).toArray 3)).heap.size (some ⟨w.heap.size, 0, none⟩) xs := by
  intro _
  refine ⟨w.heap.size, 0, rfl, by simp, fun j x hx => ?_⟩
  have := (Blk.new w 3 (xs.map (Value.int .i64)).toArray).cell (0 + j)
  rw [this]
  simp [hx]
theorem inRange_of {xs : List Int} (h : xs.all (fun x => decide (-9223372036854775808 ≤ x) && decide (x ≤ 9223372036854775807)) = true) : InRange xs := by
  intro x hx
  have := List.all_eq_true.1 h x hx
  simpa using this

theorem inRange_one {n : Int} (h0 : -9223372036854775808 ≤ n) (h1 : n ≤ 9223372036854775807) : InRange [n] := by
  intro x hx
  simp at hx
  subst hx
  exact ⟨h0, h1⟩
/-- A list that stands in the newest block. -/
theorem ints_at (w : World) (cs : Array Value) (xs : List Int) (g : Nat) (hg : w.heap.size = g) (hcs : cs = (xs.map (Value.int .i64)).toArray) :
    Ints (w.alloc (.cells cs 3)) (w.alloc (.cells cs 3)).heap.size (some ⟨g, 0, none⟩) xs := by
  subst hg; subst hcs
  exact ints_new w xs
theorem Wr.ok_zero (l : List UInt8) : (Wr.mk l 0).ok := fun h => (h rfl).elim
end Go.Proofs.YtdibeieiogagoaaGreatDoor
