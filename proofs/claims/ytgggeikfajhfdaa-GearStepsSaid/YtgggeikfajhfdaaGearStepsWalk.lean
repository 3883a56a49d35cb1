/-
  GearSteps, walked at every input. No statement is proved here.
-/
import Derived.Test.YtgggeikfajhfdaaGearAlive
import Derived.Test.YtgggeikfajhfdaaViews
import Derived.Deep.QuietTactic
import Derived.BigQuiet
namespace Go.Proofs.Ytgggeikfajhfdaa
open Go.RowKit

/-- A slice of bytes as a text. -/
theorem slice_text {w : World} {B : Nat} {A : Option Addr} {m c : Nat} {l : List UInt8} (hm : l.length = m) (h : Byts w B A l) :
    (convert 28 9 (.slice A m c)).run Try.prog w = .ok (.string ⟨l.toArray⟩) w := by
  subst hm
  rcases A with _ | ad
  · have hl : l = [] := by
      rcases l with _ | ⟨x, r⟩
      · rfl
      · obtain ⟨b, off, e, _⟩ := h (by simp)
        cases e
    subst hl
    show (convert 28 9 (.slice none 0 c)).run Try.prog w = _
    rw [run_convert_bytes_string w 28 9 5 none 0 c Try.underlying28 Try.underlying5 Try.underlying9]
    rfl
  · refine run_convert_bytes_back (P := Try.prog) w 28 9 5 ad c l Try.underlying28 Try.underlying5 Try.underlying9 (fun i hi => ?_)
    obtain ⟨b, off, e, _, hc⟩ := h (by omega)
    injection e with e
    subst e
    rw [Go.WideShapes.add_plain]
    exact hc i _ (List.getElem?_eq_getElem hi)

set_option maxRecDepth 100000 in
set_option maxHeartbeats 1000000 in
theorem gsteps_long (h : Nat) (A : Option Addr) (m c : Nat) (w : World) (hm : 300 < m) (_hf : m ≤ 9223372036854775807) :
    Calls Try.prog 5 #[.int .u64 (h : Int), .slice A m c] w fun e w' => e = .returned (.bool true) ∧ Below w.heap.size w w' := by
  have hI : (300 : Int) < (m : Int) := by omega
  go_enter Try.func5, Try.ntmps5
  go_wp2_with (go_at_call 7; refine (alive5_any _).mono ?_; rintro e w1 ⟨rfl, hb1⟩)
  go_wp2_with fail
  go_ret
  exact ⟨rfl, hb1⟩

set_option maxRecDepth 100000 in
set_option maxHeartbeats 4000000 in
theorem gsteps_in (h : Nat) (A : Option Addr) (m c : Nat) (l : List UInt8) (w : World) (hh : h < 18446744073709551616) (hx : BytesIn w A m c l) (hm : m ≤ 300) :
    Calls Try.prog 5 #[.int .u64 (h : Int), .slice A m c] w fun e w' => e = .returned (.bool true) ∧ Below w.heap.size w w' := by
  have HIN := Lib.hid hx
  have HBY := Lib.hid (show Byts w w.heap.size A l from hx.lie)
  have HH := Lib.hid hh
  have hcap := hx.cap
  clear hx hh
  go_enter Try.func5, Try.ntmps5
  go_wp2_with fail
  refine (alive5_any _).mono ?_
  rintro e w1 ⟨rfl, hb1⟩
  go_wp2_with fail
  go_loopw [5, 6] (fun v i wr => ∃ j : Nat, j ≤ m ∧ i = .int .i64 j ∧ v = .int .u64 (groll h (l.take j) : Int) ∧ Below w.heap.size w wr) (fun _ i _ => m - (intOf i).toNat)
  case atStart => exact ⟨0, Nat.zero_le _, rfl, rfl, hb1⟩
  case round =>
    obtain ⟨j, hj, rfl, rfl, hbr⟩ := hrel
    clear hb1
    by_cases hlt : j < m
    · have hxl : j < l.length := by rw [HIN.out.len]; exact hlt
      obtain ⟨b, off, hA, hbB, hc⟩ := HBY.out (by omega)
      obtain ⟨x, hx⟩ : ∃ x, x = l[j] := ⟨_, rfl⟩
      have hxj : l[j]? = some x := by rw [hx]; exact List.getElem?_eq_getElem hxl
      have hcx : wr.cell? ⟨b, off + j, none⟩ = some (.int .u8 (x.toNat : Int)) := (hbr.cell (p := ⟨b, off + j, none⟩) hbB).trans (hc j x hxj)
      have E1 := Lib.hid (groll_next h hxj)
      have hsl := groll_lt (l.take j) HH.out
      have hs0 : ∀ q, q = j → groll h (l.take q) = groll h (l.take j) := fun q e => by rw [e]
      obtain ⟨s, hs⟩ : ∃ s, s = groll h (l.take j) := ⟨_, rfl⟩
      obtain ⟨s', hs'⟩ : ∃ s', s' = groll h (l.take (j + 1)) := ⟨_, rfl⟩
      rw [← hs] at hsl ⊢
      have hst : gstep s x = s' := by rw [hs', E1.out, hs]
      have HR1 : Hid (∀ w4 : World, Calls Try.prog 12 #[.int .u64 (s : Int), .slice (some ⟨w4.heap.size, 0, none⟩) 1 1] (w4.alloc (.cells #[.int .u8 (x.toNat : Int)] 5)) fun e w' => e = .returned (.int .u64 (s' : Int)) ∧ w4.alloc (.cells #[.int .u8 (x.toNat : Int)] 5) = w') := Lib.hid (fun w4 => by
        have := roll_any s (some ⟨w4.heap.size, 0, none⟩) 1 1 [x] _ rfl (byts_one w4 x _ rfl _ rfl) (by omega) hsl
        rw [groll_one, hst] at this
        exact this)
      have HR2 : Hid (∀ w4 : World, Below w.heap.size w w4 → Calls Try.prog 12 #[.int .u64 (h : Int), .slice A (j + 1) c] w4 fun e w' => e = .returned (.int .u64 (s' : Int)) ∧ w4 = w') := Lib.hid (fun w4 hb => by
        rw [hs']
        exact roll_any h A (j + 1) c _ w4 (by rw [List.length_take, HIN.out.len]; omega) (((HBY.out.below hb).more hb.size).take _) (by omega) HH.out)
      have HR3 : Hid (∀ w4 : World, Below w.heap.size w w4 → Calls Try.prog 12 #[.int .u64 (h : Int), .slice A j c] w4 fun e w' => e = .returned (.int .u64 (s : Int)) ∧ w4 = w') := Lib.hid (fun w4 hb => by
        rw [hs]
        exact roll_any h A j c _ w4 (by rw [List.length_take, HIN.out.len]; omega) (((HBY.out.below hb).more hb.size).take _) (by omega) HH.out)
      have hmul : IntKind.u64.wrap (IntKind.u64.wrap ((s : Int) * 2) + (gval x.toNat : Int)) = (s' : Int) := by rw [← hst]; exact gstep_u64 _ _ s _ x rfl rfl rfl
      have HMUL := Lib.hid hmul
      have HS' := Lib.hid hs'
      subst hA
      clear hxj hc hx hs hs' hst hsl hs0 hmul
      go_wp2_with fail
      refine (HR1.out _).mono ?_
      rintro e w2 ⟨rfl, rfl⟩
      have hb2 : Below w.heap.size w (wr.alloc (.cells #[.int .u8 (x.toNat : Int)] 5)) := hbr.alloc hbr.size _
      have hcx2 : (wr.alloc (.cells #[.int .u8 (x.toNat : Int)] 5)).cell? ⟨b, off + j, none⟩ = some (.int .u8 (x.toNat : Int)) := by
        refine (((Below.refl _ _).alloc (Nat.le_refl _) (.cells #[.int .u8 (x.toNat : Int)] 5)).cell (p := ⟨b, off + j, none⟩) ?_).trans hcx
        have := hbr.size
        show b < wr.heap.size
        omega
      obtain ⟨W, hW⟩ : ∃ W, W = wr.alloc (.cells #[.int .u8 (x.toNat : Int)] 5) := ⟨_, rfl⟩
      rw [← hW] at hb2 hcx2
      rw [← hW]
      have HB2 := Lib.hid hb2
      clear hW hcx hb2
      have HQ3 : Hid (∀ n, Calls Try.prog 12 #[.int .u64 (h : Int), .slice (some ⟨b, off, none⟩) j c] (W.drewN n) fun e w' => e = .returned (.int .u64 (s : Int)) ∧ w' = W.drewN n) :=
        Lib.hid (fun n => (HR3.out (W.drewN n) ⟨HB2.out.os, HB2.out.tape, HB2.out.output, HB2.out.size, HB2.out.block⟩).mono fun e w' ⟨h1, h2⟩ => ⟨h1, h2.symm⟩)
      have HQV : Hid (∀ n, Calls Try.prog 10 #[.int .u8 (x.toNat : Int)] (W.drewN n) fun e w' => e = .returned (.int .u64 (gval x.toNat : Int)) ∧ w' = W.drewN n) :=
        Lib.hid (fun n => (value_any x (W.drewN n)).mono fun e w' ⟨h1, h2⟩ => ⟨h1, h2.symm⟩)
      go_wp2_with fail
      refine (HR2.out _ HB2.out).mono ?_
      rintro e w2 ⟨rfl, rfl⟩
      by_cases hj0 : j = 0
      · subst hj0
        go_wp2_with fail
        go_quiet (fail)
        go_wp2_with fail
        go_roundw
        case rel => exact ⟨1, by omega, rfl, by rw [HS'.out], ⟨HB2.out.os, HB2.out.tape, HB2.out.output, HB2.out.size, HB2.out.block⟩⟩
        case measure => simp [intOf]; omega
      · have hmul := HMUL.out
        have hjn : 0 < j := by omega
        have hjp : (0 : Int) < (j : Int) := by omega
        go_wp2_with fail
        go_quiet (first | (go_at_call 12; with_reducible refine Calls.quiet_of_same (HQ3.out _)) | (go_at_call 10; with_reducible refine Calls.quiet_of_same (HQV.out _)))
        clear hmul
        go_wp2_with fail
        go_roundw
        case rel => exact ⟨j + 1, by omega, by go_num, by rw [HS'.out], ⟨HB2.out.os, HB2.out.tape, HB2.out.output, HB2.out.size, HB2.out.block⟩⟩
        case measure => simp [intOf]; omega
    · obtain rfl : j = m := by omega
      have htk : l.take j = l := List.take_of_length_le (by rw [HIN.out.len]; exact Nat.le_refl _)
      rw [htk]
      obtain ⟨S, hS⟩ : ∃ S : ByteArray, S = ⟨l.toArray⟩ := ⟨_, rfl⟩
      obtain ⟨t, ht⟩ : ∃ t, t = groll 0 l := ⟨_, rfl⟩
      have hSl : S.data.toList = l := by rw [hS]
      have hSs : S.size = j := by rw [Lib.size_eq, hSl]; exact HIN.out.len
      have hcv := fun (w4 : World) (hb : Below w.heap.size w w4) => slice_text (c := c) HIN.out.len (HBY.out.below hb)
      rw [← hS] at hcv
      have HO : Hid (∀ w4 : World, Calls Try.prog 14 #[.slice (some ⟨w4.heap.size, 0, none⟩) 1 1] (w4.alloc (.cells #[.string S] 9)) fun e w' => e = .returned (.int .u64 (t : Int)) ∧ Below (w4.alloc (.cells #[.string S] 9)).heap.size (w4.alloc (.cells #[.string S] 9)) w') := Lib.hid (fun w4 => by
        have := of_any (some ⟨w4.heap.size, 0, none⟩) 1 1 [S] _ rfl (txts_at w4 _ _ _ rfl rfl) (by omega) (by simp; omega)
        rw [cats_one, hSl, ← ht] at this
        exact this)
      have HRN : Hid (∀ w4 : World, Calls Try.prog 12 #[.int .u64 (h : Int), .slice none 0 0] w4 fun e w' => e = .returned (.int .u64 (h : Int)) ∧ w4 = w') := Lib.hid (fun w4 => roll_any h none 0 0 [] w4 rfl (Byts.nil _ _ _) (by omega) HH.out)
      have HR0 : Hid (∀ w4 : World, Below w.heap.size w w4 → Calls Try.prog 12 #[.int .u64 0, .slice A j c] w4 fun e w' => e = .returned (.int .u64 (t : Int)) ∧ w4 = w') := Lib.hid (fun w4 hb => by
        rw [ht]
        exact roll_any 0 A j c _ w4 HIN.out.len ((HBY.out.below hb).more hb.size) (by omega) (by decide))
      have hcv := hcv wr hbr
      clear hS ht hSl hSs htk
      go_wp2_with fail
      refine (HRN.out _).mono ?_
      rintro e w2 ⟨rfl, rfl⟩
      go_wp2_with fail
      refine (HO.out _).mono ?_
      rintro e w2 ⟨rfl, hb2⟩
      have HB2 := Lib.hid ((hbr.alloc hbr.size (.cells #[.string S] 9)).trans (hb2.mono (by have := hbr.size; simp; omega)))
      clear hb2 hcv
      go_wp2_with fail
      refine (HR0.out _ HB2.out).mono ?_
      rintro e w3 ⟨rfl, rfl⟩
      go_wp2_with fail
      go_ret
      exact ⟨by first | rfl | simp, HB2.out⟩

theorem gsteps_any (h : Nat) (A : Option Addr) (m c : Nat) (l : List UInt8) (w : World) (hh : h < 18446744073709551616) (hx : BytesIn w A m c l) :
    Calls Try.prog 5 #[.int .u64 (h : Int), .slice A m c] w fun e w' => e = .returned (.bool true) ∧ Below w.heap.size w w' := by
  by_cases hm : 300 < m
  · exact gsteps_long h A m c w hm hx.few
  · exact gsteps_in h A m c l w hh hx (by omega)
end Go.Proofs.Ytgggeikfajhfdaa
