/-
  A byte's number: the code's and the document's own. No statement is proved here.
-/
import Derived.Test.YtkcjiogackkecaaGearPure
import Derived.Test.YtkcjiogackkecaaTxts
import Derived.BigCall
import Derived.Deep.AppendLies
import Derived.Lib.Bytes
namespace Go.Proofs.Ytkcjiogackkecaa
open Go.RowKit

theorem gmix_u64 (X S C : Int) (x s c : Nat) (hX : X = (x : Int)) (hx : x < 18446744073709551616) (hS : S = (s : Int)) (hC : C = (c : Int)) :
    IntKind.u64.wrap (bits .xor .u64 X (X / S) * C) = (gmix s c x : Int) := by
  subst hX hS hC
  exact mixStep_u64 x s c hx
theorem gval_u64 (b : Nat) (x1 x2 x3 : Int) (h1 : x1 = IntKind.u64.wrap (((b : Int) + 1) * 11400714819323198485)) (h2 : x2 = IntKind.u64.wrap (bits .xor .u64 x1 (x1 / 1073741824) * 13787848793156543929))
    (h3 : x3 = IntKind.u64.wrap (bits .xor .u64 x2 (x2 / 134217728) * 10723151780598845931)) : bits .xor .u64 x3 (x3 / 2147483648) = (gval b : Int) := by
  have e1 : x1 = (((b + 1) * 11400714819323198485 % 18446744073709551616 : Nat) : Int) := by
    rw [h1, IntKind.wrap_u64]
    omega
  have e2 := h2.trans (gmix_u64 x1 1073741824 13787848793156543929 _ 1073741824 13787848793156543929 e1 (Nat.mod_lt _ (by decide)) rfl rfl)
  have e3 := h3.trans (gmix_u64 x2 134217728 10723151780598845931 _ 134217728 10723151780598845931 e2 (gmix_lt _ _ _) rfl rfl)
  rw [e3]
  exact xorShift_u64 _ 2147483648 (gmix_lt _ _ _)
theorem val_u64 {a b : Int} (h : a = b) : Value.int .u64 a = .int .u64 b := by rw [h]
theorem ret_u64 {a b : Int} (h : a = b) : Ending.returned (.int .u64 a) = .returned (.int .u64 b) := by rw [h]

set_option maxHeartbeats 1000000 in
theorem value_any (b : UInt8) (w : World) :
    Calls Try.prog 102 #[.int .u8 (b.toNat : Int)] w fun e w' => e = .returned (.int .u64 (gval b.toNat : Int)) ∧ w = w' := by
  have hb := b.toNat_lt
  go_enter Try.func102, Try.ntmps102
  go_wp2_with fail
  go_ret
  exact ⟨ret_u64 (gval_u64 b.toNat _ _ _ rfl rfl rfl), rfl⟩
set_option maxHeartbeats 1000000 in
theorem ref_gear (b : UInt8) (w : World) :
    Calls Try.prog 36 #[.int .u8 (b.toNat : Int)] w fun e w' => e = .returned (.int .u64 (gval b.toNat : Int)) ∧ w = w' := by
  have hb := b.toNat_lt
  go_enter Try.func36, Try.ntmps36
  go_wp2_with fail
  go_ret
  exact ⟨ret_u64 (gval_u64 b.toNat _ _ _ rfl rfl rfl), rfl⟩

/-- A list of bytes as a slice: nil, empty or not. -/
def Byts (w : World) (B : Nat) (A : Option Addr) (l : List UInt8) : Prop :=
  0 < l.length → ∃ b off, A = some ⟨b, off, none⟩ ∧ b < B ∧ ∀ (j : Nat) (x : UInt8), l[j]? = some x → w.cell? ⟨b, off + j, none⟩ = some (.int .u8 (x.toNat : Int))
theorem Byts.nil (w : World) (B : Nat) (A : Option Addr) : Byts w B A [] := fun h => absurd h (by simp)
theorem Byts.more {w : World} {B B' : Nat} {A : Option Addr} {l : List UInt8} (h : Byts w B A l) (hB : B ≤ B') : Byts w B' A l := fun hp => by
  obtain ⟨b, off, e, hb, hc⟩ := h hp
  exact ⟨b, off, e, by omega, hc⟩
theorem Byts.below {w w' : World} {B : Nat} {A : Option Addr} {l : List UInt8} (h : Byts w B A l) (hb : Below B w w') : Byts w' B A l := by
  intro hp
  obtain ⟨b, off, e, hlt, hc⟩ := h hp
  exact ⟨b, off, e, hlt, fun j x hx => (hb.cell (p := ⟨b, off + j, none⟩) hlt).trans (hc j x hx)⟩
theorem Byts.take {w : World} {B : Nat} {A : Option Addr} {l : List UInt8} (h : Byts w B A l) (n : Nat) : Byts w B A (l.take n) := by
  intro hp
  obtain ⟨b, off, e, hlt, hc⟩ := h (by rw [List.length_take] at hp; omega)
  refine ⟨b, off, e, hlt, fun j x hx => hc j x ?_⟩
  rw [List.getElem?_take] at hx
  split at hx
  · exact hx
  · cases hx
theorem byts_one (w : World) (x : UInt8) (v : Value) (hv : v = .int .u8 (x.toNat : Int)) (g : Nat) (hg : w.heap.size = g) : Byts (w.alloc (.cells #[v] 5)) (w.alloc (.cells #[v] 5)).heap.size (some ⟨g, 0, none⟩) [x] := by
  subst hv hg
  intro _
  refine ⟨w.heap.size, 0, rfl, by simp, fun j y hy => ?_⟩
  rw [(Blk.new w 5 #[Value.int .u8 (x.toNat : Int)]).cell (0 + j)]
  match j, hy with
  | 0, hy => simp at hy; subst hy; rfl

theorem gstep_u64 (h H : Int) (x g : Nat) (b : UInt8) (hh : h = (x : Int)) (hg : (g : Int) = H) (hv : g = gval b.toNat) : IntKind.u64.wrap (IntKind.u64.wrap (h * 2) + H) = (gstep x b : Int) := by
  subst hh hg hv
  rw [IntKind.wrap_u64, IntKind.wrap_u64, gstep_eq]
  obtain ⟨v, hv⟩ : ∃ v, v = gval b.toNat := ⟨_, rfl⟩
  rw [← hv]
  omega

set_option maxRecDepth 100000 in
set_option maxHeartbeats 1000000 in
theorem roll_any (h : Nat) (A : Option Addr) (n c : Nat) (l : List UInt8) (w : World) (hn : l.length = n) (hx : Byts w w.heap.size A l) (hlen : n ≤ 140737488351232) (hh : h < 18446744073709551616) :
    Calls Try.prog 79 #[.int .u64 (h : Int), .slice A n c] w fun e w' => e = .returned (.int .u64 (groll h l : Int)) ∧ w = w' := by
  have HX := Lib.hid hx
  have HN := Lib.hid hn
  have HH := Lib.hid hh
  clear hx hn hh
  go_enter Try.func79, Try.ntmps79
  go_wp2_with fail
  go_loop [0, 9] (fun v i => ∃ j : Nat, j ≤ n ∧ i = .int .i64 j ∧ v = .int .u64 (groll h (l.take j) : Int)) (fun _ i => n - (intOf i).toNat)
  case atStart => exact ⟨0, Nat.zero_le _, rfl, rfl⟩
  case round =>
    obtain ⟨j, hj, rfl, rfl⟩ := hrel
    by_cases hlt : j < n
    · have hxl : j < l.length := by rw [HN.out]; exact hlt
      obtain ⟨b, off, hA, hbB, hc⟩ := HX.out (by omega)
      obtain ⟨x, hx⟩ : ∃ x, x = l[j] := ⟨_, rfl⟩
      have hxj : l[j]? = some x := by rw [hx]; exact List.getElem?_eq_getElem hxl
      have hcx : w.cell? ⟨b, off + j, none⟩ = some (.int .u8 (x.toNat : Int)) := hc j x hxj
      have E1 := Lib.hid (groll_next h hxj)
      have hs := groll_lt (l.take j) HH.out
      obtain ⟨s, hs0⟩ : ∃ s, s = groll h (l.take j) := ⟨_, rfl⟩
      rw [← hs0] at hs ⊢
      have HS := Lib.hid hs
      have HS0 := Lib.hid hs0
      clear hxj hc hx hs hs0
      subst hA
      go_wp2_with fail
      refine (value_any x _).mono ?_
      rintro e w1 ⟨rfl, rfl⟩
      go_wp2_with fail
      go_round
      case rel => exact ⟨j + 1, by omega, by go_num, by rw [E1.out, ← HS0.out]; exact val_u64 (gstep_u64 _ _ s _ x rfl rfl rfl)⟩
      case measure => simp [intOf]; omega
    · obtain rfl : j = n := by omega
      have htk : l.take j = l := List.take_of_length_le (by rw [HN.out]; exact Nat.le_refl _)
      rw [htk]
      clear htk
      go_wp2_with fail
      go_ret
      exact ⟨rfl, rfl⟩

end Go.Proofs.Ytkcjiogackkecaa
