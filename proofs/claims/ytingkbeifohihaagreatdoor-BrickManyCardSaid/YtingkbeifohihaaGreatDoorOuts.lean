/-
  The writer of package bits, call by call: what each leaves of it; of a nil writer nothing is laid.
-/
import Derived.Test.YtingkbeifohihaaGreatDoorBytes
import Derived.Test.YtingkbeifohihaaGreatDoorOut
import Derived.Deep.AppendLies
import Derived.Maps.AppendAt
import Derived.Laws.CopyOwn
import Derived.Lib.BufferWrite
import Derived.BigRegion
namespace Go.Proofs.YtingkbeifohihaaGreatDoor
open Go.RowKit
set_option maxRecDepth 100000
set_option maxHeartbeats 2000000
def dZ (w : World) (B : Nat) (A : Option Addr) (xs : List Int) : Prop :=
 0 < xs.length -> ∃ b off, A = some ⟨b, off, none⟩ /\ b < B /\ ∀ (j : Nat) (x : Int), xs[j]? = some x -> w.cell? ⟨b, off + j, none⟩ = some (.int .i64 x)
theorem dZ.nil (w : World) (B : Nat) (A : Option Addr) : dZ w B A [] := fun h => absurd h (by simp)
theorem dZ.more {w : World} {B B' : Nat} {A : Option Addr} {xs : List Int} (h : dZ w B A xs) (hB : B <= B') : dZ w B' A xs := fun hp => by
 obtain ⟨b, off, e, hb, hc⟩ := h hp
 exact ⟨b, off, e, by omega, hc⟩
theorem dZ.keep {w w' : World} {B : Nat} {A : Option Addr} {xs : List Int} (h : dZ w B A xs) (hk : ∀ p : Addr, p.block < B -> w'.cell? p = w.cell? p) : dZ w' B A xs := by
 intro hp
 obtain ⟨b, off, e, hb, hc⟩ := h hp
 exact ⟨b, off, e, hb, fun j x hx => (hk _ hb).trans (hc j x hx)⟩
theorem dZ.below {w w' : World} {B : Nat} {A : Option Addr} {xs : List Int} (h : dZ w B A xs) (hb : Below B w w') : dZ w' B A xs := h.keep fun _ hp => hb.cell hp
theorem Ih (l : List UInt8) (x : Int) (t : Nat) (h : 0 <= x) : Lib.byteCells (l ++ aD t x.toNat) ++ [Value.int .u8 (x / 2 ^ (8 * t) % 256)] = Lib.byteCells (l ++ aD (t + 1) x.toNat) := by
 rw [Ah x t h, qA]
 simp [Lib.byteCells, Nat.toUInt8]
theorem Cw (q : Option Addr) (k : Nat) (hk : k <= 8) (A : Option Addr) (c : Nat) (xs : List Int) (w : World) (hx : dZ w w.heap.size A xs) (hlen : xs.length * 8 <= 140737488351232) (hr : ∀ x ∈ xs, -9223372036854775808 <= x /\ x <= 9223372036854775807)
  (R : Bool -> World -> Prop)
  (hfail : ∀ w1, Below w.heap.size w w1 -> Calls Tryz.prog 126 #[.pointer q, .int .i64 1] w1 fun e w' => e = .returned (.pointer q) /\ R false w')
  (hlay : ∀ w1, Below w.heap.size w w1 -> Calls Tryz.prog 128 #[.pointer q, .string ⟨(aO k xs).toArray⟩] w1 fun e w' => e = .returned (.pointer q) /\ R true w') :
  Calls Tryz.prog 125 #[.pointer q, .int .i64 k, .slice A xs.length c] w fun e w' => e = .returned (.pointer q) /\ R (cO k xs) w' := by
 obtain ⟨i0, hi, hz0, hz1, hz2⟩ := info_parts iL
 have HX := Lib.hid hx
 have HR := Lib.hid hr
 have HF := Lib.hid hfail
 have HL := Lib.hid hlay
 clear hx hr hfail hlay
 have hm1 : k * xs.length <= 8 * xs.length := Nat.mul_le_mul_right _ hk
 obtain ⟨n, hn⟩ : ∃ n, n = xs.length := ⟨_, rfl⟩
 rw [<- hn] at hlen hm1 ⊢
 have HN := Lib.hid hn
 clear hn
 obtain ⟨m, hm⟩ : ∃ m, m = k * n := ⟨_, rfl⟩
 rw [<- hm] at hm1
 have hmi : (k : Int) * (n : Int) = (m : Int) := by rw [hm]; simp
 have HM := Lib.hid hm
 clear hm
 go_enter Tryz.func125, Tryz.ntmps125
 go_wp2_with (at_make; refine wpList_make_own _ rfl _ _ 79 rfl w.heap.size 5 i0 (.int .u8 0) 1 Tryz.underlying79 hi hz0 hz1 .i64 .i64 _ m rfl rfl rfl (by rw [hz2]; omega) (by unfold maxLen; omega) (Nat.le_refl _) ?_; intro w0 hown0 hgrow0)
 have hb0 : Below w.heap.size w w0 := (Below.refl _ _).grown hgrow0 (Nat.le_refl _) (by simp)
 clear hgrow0
 go_loopw [7, 18] (fun v i wr => ∃ j : Nat, j <= n /\ i = .int .i64 j /\ v = .slice (some ⟨w.heap.size, 0, none⟩) (j * k) m /\ cO k (xs.take j) = true /\
   wr.ownsRow w.heap.size 5 1 (.slice (some ⟨w.heap.size, 0, none⟩) (j * k) m) (j * k) (Lib.byteCells (aO k (xs.take j))) /\ Below w.heap.size w wr)
  (fun _ i _ => n - (intOf i).toNat)
 case atStart => exact ⟨0, Nat.zero_le _, rfl, by simp, by simp [cO], by simpa [aO, Lib.byteCells] using hown0, hb0⟩
 case round =>
  obtain ⟨j, hj, rfl, rfl, hfit, hown, hbr⟩ := hrel
  have HFIT := Lib.hid hfit
  clear hfit hown0 hb0
  by_cases hlt : j < n
  ·have hxl : j < xs.length := by rw [<- HN.out]; exact hlt
   obtain ⟨b, off, hA, hbB, hc⟩ := HX.out (by omega)
   obtain ⟨x, hx⟩ : ∃ x, x = xs[j] := ⟨_, rfl⟩
   have hxj : xs[j]? = some x := by rw [hx]; exact List.getElem?_eq_getElem hxl
   have hcx : wr.cell? ⟨b, off + j, none⟩ = some (.int .i64 x) := (hbr.cell (p := ⟨b, off + j, none⟩) hbB).trans (hc j x hxj)
   have hxr := HR.out x (by rw [hx]; exact List.getElem_mem hxl)
   have hmem : x ∈ xs := by rw [hx]; exact List.getElem_mem hxl
   have HXJ := Lib.hid hxj
   clear hxj hc hx
   subst hA
   by_cases h0 : x < 0
   ·have hno : cO k xs = false := Ai hmem (by unfold fits; simp; intro _; omega)
    have HNO := Lib.hid hno
    clear hno hmem
    go_wp2_with (go_at_call 126; refine (HF.out _ hbr).mono ?_; rintro e w1 ⟨rfl, hR⟩)
    go_ret
    rw [HNO.out]
    exact ⟨rfl, hR⟩
   ·have h0' : 0 <= x := by omega
    clear h0
    cases hf : fits k x with
    | false =>
      have hq : (x / 2 ^ (8 * k) != 0) = true := by rw [Dw x k h0', hf]; rfl
      have hno : cO k xs = false := Ai hmem hf
      have HNO := Lib.hid hno
      clear hno hmem hf
      go_wp2_with (go_at_call 126; refine (HF.out _ hbr).mono ?_; rintro e w1 ⟨rfl, hR⟩)
      go_ret
      rw [HNO.out]
      exact ⟨rfl, hR⟩
    | true =>
      have hq : (x / 2 ^ (8 * k) != 0) = false := by rw [Dw x k h0', hf]; rfl
      have HFX := Lib.hid hf
      clear hmem hf
      go_wp2_with fail
      obtain ⟨wo, rfl⟩ : ∃ wo : World, wo = wr := ⟨_, rfl⟩
      go_loopw [7, 34] (fun v i wi => ∃ t : Nat, t <= k /\ i = .int .i64 t /\ v = .slice (some ⟨w.heap.size, 0, none⟩) (j * k + t) m /\
        wi.ownsRow w.heap.size 5 1 (.slice (some ⟨w.heap.size, 0, none⟩) (j * k + t) m) (j * k + t) (Lib.byteCells (aO k (xs.take j) ++ aD t x.toNat)) /\ Below w.heap.size w wi)
       (fun _ i _ => k - (intOf i).toNat)
      case atStart => exact ⟨0, Nat.zero_le _, rfl, rfl, by simpa [aD] using hown, hbr⟩
      case round =>
       obtain ⟨t, ht, rfl, rfl, hown1, hbi⟩ := hrel
       clear hown hbr
       by_cases htl : t < k
       ·have hroom : j * k + t + 1 <= m := by
         rw [HM.out]
         have : (j + 1) * k <= n * k := Nat.mul_le_mul_right _ hlt
         rw [Nat.add_mul, Nat.one_mul] at this
         rw [Nat.mul_comm k n]
         omega
        go_wp2_with (at_builtin; refine wpList_append_fits _ rfl _ _ 79 rfl w.heap.size 5 i0 1 Tryz.underlying79 hi hz1 w.heap.size (j * k + t) m _ rfl (hown1.alloc _) ⟨wr.heap.size, 0, none⟩ 1 1 [.int .u8 (x / 2 ^ (8 * t) % 256)] rfl rfl ?c1 ?c2 hroom ?_)
        case c1 =>
         intro a u ha
         match a, ha with
         | 0, ha => simp at ha; subst ha; simp [Addr.add]
        case c2 => intro u hu; simp at hu; subst hu; rfl
        intro w1 hown2 hgrow2
        have hb2 : Below w.heap.size w w1 := (hbi.alloc hbi.size _).grown hgrow2 (by have := hbi.size; simp; omega) (by simp)
        clear hown1 hbi hgrow2
        go_wp2
        go_roundw
        case rel => exact ⟨t + 1, by omega, by go_num, rfl, by rw [<- Ih _ _ _ h0']; exact hown2, hb2⟩
        case measure => simp [intOf]; omega
       ·obtain rfl : t = k := by omega
        have e1 : aO t (xs.take (j + 1)) = aO t (xs.take j) ++ aD t x.toNat := by
         rw [List.take_add_one, HXJ.out]
         simp [aO]
        have e2 : cO t (xs.take (j + 1)) = true := by
         rw [List.take_add_one, HXJ.out]
         simp only [Option.toList_some]
         rw [Dx, HFIT.out, HFX.out]
         rfl
        have e3 : (j + 1) * t = j * t + t := by rw [Nat.add_mul, Nat.one_mul]
        have E1 := Lib.hid e1
        have E2 := Lib.hid e2
        have E3 := Lib.hid e3
        clear e1 e2 e3 htl
        go_wp2
        go_roundw
        case rel => exact ⟨j + 1, by omega, by go_num, by rw [E3.out], E2.out, by rw [E1.out, E3.out]; exact hown1, hbi⟩
        case measure => simp [intOf]; omega
  ·obtain rfl : j = n := by omega
   have htk : xs.take j = xs := List.take_of_length_le (by rw [<- HN.out]; exact Nat.le_refl _)
   have hlb : (aO k xs).length = j * k := by rw [dG, <- HN.out]
   rw [htk] at hown
   have hcv := run_convert_bytes_back (P := Tryz.prog) wr 79 9 5 ⟨w.heap.size, 0, none⟩ m (aO k xs) Tryz.underlying79 Tryz.underlying5 Tryz.underlying9
    (fun i hi => hown.cells (g := w.heap.size) rfl i _ (by simp [Lib.byteCells, List.getElem?_eq_getElem hi]))
   rw [hlb] at hcv
   have HFIT2 := Lib.hid (show cO k xs = true by rw [<- HFIT.out, htk])
   clear hown htk hlb
   go_wp2_with (go_at_call 128; refine (HL.out _ hbr).mono ?_; rintro e w1 ⟨rfl, hR⟩)
   go_ret
   rw [HFIT2.out]
   exact ⟨rfl, hR⟩
set_option maxRecDepth 100000
set_option maxHeartbeats 2000000
def bD (l : List ByteArray) : List UInt8 := l.flatMap cC
theorem nV {l : List ByteArray} {j : Nat} {x : ByteArray} (h : l[j]? = some x) : bD (l.take (j + 1)) = bD (l.take j) ++ cC x := by
 rw [List.take_add_one, h]; simp [bD]
theorem xP {l : List ByteArray} {j : Nat} {x : ByteArray} (h : l[j]? = some x) : (bD (l.take j)).length + 2 + x.size <= (bD l).length := by
 have e : bD l = bD (l.take (j + 1)) ++ bD (l.drop (j + 1)) := by unfold bD; rw [<- List.flatMap_append, List.take_append_drop]
 rw [e, nV h, List.length_append, List.length_append, cC, List.length_append, aL, Lib.size_eq]
 omega
theorem zU {l : List ByteArray} {j : Nat} {x : ByteArray} (h : l[j]? = some x) (h1 : eB (l.take j) = true) (h2 : x.size <= 65535) : eB (l.take (j + 1)) = true := by
 rw [List.take_add_one, h]
 unfold eB at h1 ⊢
 simp [h2]
 simpa using h1
theorem Fe {l : List ByteArray} {x : ByteArray} (h : x ∈ l) (hx : 65535 < x.size) : eB l = false := by
 unfold eB
 rw [List.all_eq_false]
 exact ⟨x, h, by simp; omega⟩
theorem Ii (l : List UInt8) (x : ByteArray) (h : x.size <= 65535) :
  Lib.byteCells l ++ [Value.int .u8 ((x.size : Int) % 256)] ++ [Value.int .u8 ((x.size : Int) / 256)] ++ Lib.strCells x = Lib.byteCells (l ++ cC x) := by
 have e : (x.size : Int) / 256 = ((x.size / 256 % 256 : Nat) : Int) := by omega
 rw [e]
 simp [Lib.byteCells, Lib.strCells, cC, aD, Nat.toUInt8]
theorem Nk (q : Option Addr) (A : Option Addr) (c : Nat) (xs : List ByteArray) (w : World) (hx : dL w w.heap.size A xs) (hlen : xs.length <= 140737488351232) (hsum : (aW xs).length <= 140737488351232)
  (R : World -> Prop)
  (hlay : ∀ w1, Below w.heap.size w w1 -> Calls Tryz.prog 128 #[.pointer q, .string ⟨(aW xs).toArray⟩] w1 fun e w' => e = .returned (.pointer q) /\ R w') :
  Calls Tryz.prog 104 #[.pointer q, .slice A xs.length c] w fun e w' => e = .returned (.pointer q) /\ R w' := by
 have HX := Lib.hid hx
 have HL := Lib.hid hlay
 have HS := Lib.hid hsum
 clear hx hlay hsum
 obtain ⟨n, hn⟩ : ∃ n, n = xs.length := ⟨_, rfl⟩
 rw [<- hn] at hlen ⊢
 have HN := Lib.hid hn
 clear hn
 go_enter Tryz.func104, Tryz.ntmps104
 go_wp2_with fail
 have hb0 : Lib.IsBuilderF 81 5 w.heap.size w.heap.size (Lib.byteCells []) (w.alloc (.cells #[.pointer none, .slice none 0 0] 81)) := Lib.IsBuilderF.of (Lib.fresh_isBuilder _ _ w)
 go_loopw [10] (fun i wr => ∃ j : Nat, j <= n /\ i = .int .i64 j /\ Lib.IsBuilderF 81 5 w.heap.size w.heap.size (Lib.byteCells (aW (xs.take j))) wr /\ Below w.heap.size w wr)
  (fun i _ => n - (intOf i).toNat)
 case atStart => exact ⟨0, Nat.zero_le _, rfl, by simpa [aW] using hb0, (Below.refl _ _).alloc (Nat.le_refl _) _⟩
 case round =>
  obtain ⟨j, hj, rfl, hB, hbr⟩ := hrel
  clear hb0
  by_cases hlt : j < n
  ·have hxl : j < xs.length := by rw [<- HN.out]; exact hlt
   obtain ⟨b, off, hA, hbB, hc⟩ := HX.out (by omega)
   obtain ⟨x, hx⟩ : ∃ x, x = xs[j] := ⟨_, rfl⟩
   have hxj : xs[j]? = some x := by rw [hx]; exact List.getElem?_eq_getElem hxl
   have hcx : wr.cell? ⟨b, off + j, none⟩ = some (.string x) := (hbr.cell (p := ⟨b, off + j, none⟩) hbB).trans (hc j x hxj)
   have hsz := kH hxj
   have hsum := HS.out
   have e1 := gM hxj
   have HB := Lib.hid hB
   have hl1 : (Lib.byteCells (aW (xs.take j))).length + x.size <= 140737488355328 := by rw [Lib.byteCells_length]; omega
   have E1 := Lib.hid e1
   have HSZ := Lib.hid hl1
   clear hxj hc hx hsz hsum e1 hB hl1
   subst hA
   go_wp2_with (go_at_call 34; refine (tG w.heap.size w.heap.size _ x _ HB.out HSZ.out hbr.size).mono ?_; rintro e w1 ⟨rfl, hB1, hb1, _⟩)
   go_roundw
   case rel => exact ⟨j + 1, by omega, by go_num, .inr (by rw [E1.out]; simpa [Lib.byteCells, Lib.strCells] using hB1), hbr.trans hb1⟩
   case measure => simp [intOf]; omega
  ·obtain rfl : j = n := by omega
   have htk : xs.take j = xs := List.take_of_length_le (by rw [<- HN.out]; exact Nat.le_refl _)
   rw [htk] at hB
   clear htk
   go_wp2_with (first
    | (go_at_call 35; refine (Cm w.heap.size w.heap.size (aW xs) _ hB hbr.size).mono ?_; rintro e w1 ⟨rfl, _, hb1, _⟩)
    | (go_at_call 128; refine (HL.out _ (hbr.trans hb1)).mono ?_; rintro e w2 ⟨rfl, hR⟩))
   go_ret
   exact ⟨rfl, hR⟩
theorem Ij (q : Option Addr) (A : Option Addr) (c : Nat) (xs : List ByteArray) (w : World) (hx : dL w w.heap.size A xs) (hlen : xs.length <= 140737488351232) (hsum : (bD xs).length <= 140737488351232)
  (R : Bool -> World -> Prop)
  (hfail : ∀ w1, Below w.heap.size w w1 -> Calls Tryz.prog 126 #[.pointer q, .int .i64 2] w1 fun e w' => e = .returned (.pointer q) /\ R false w')
  (hlay : ∀ w1, Below w.heap.size w w1 -> Calls Tryz.prog 128 #[.pointer q, .string ⟨(bD xs).toArray⟩] w1 fun e w' => e = .returned (.pointer q) /\ R true w') :
  Calls Tryz.prog 84 #[.pointer q, .slice A xs.length c] w fun e w' => e = .returned (.pointer q) /\ R (eB xs) w' := by
 have HX := Lib.hid hx
 have HF := Lib.hid hfail
 have HL := Lib.hid hlay
 have HS := Lib.hid hsum
 clear hx hfail hlay hsum
 obtain ⟨n, hn⟩ : ∃ n, n = xs.length := ⟨_, rfl⟩
 rw [<- hn] at hlen ⊢
 have HN := Lib.hid hn
 clear hn
 go_enter Tryz.func84, Tryz.ntmps84
 go_wp2_with fail
 have hb0 : Lib.IsBuilderF 81 5 w.heap.size w.heap.size (Lib.byteCells []) (w.alloc (.cells #[.pointer none, .slice none 0 0] 81)) := Lib.IsBuilderF.of (Lib.fresh_isBuilder _ _ w)
 go_loopw [10] (fun i wr => ∃ j : Nat, j <= n /\ i = .int .i64 j /\ eB (xs.take j) = true /\ Lib.IsBuilderF 81 5 w.heap.size w.heap.size (Lib.byteCells (bD (xs.take j))) wr /\ Below w.heap.size w wr)
  (fun i _ => n - (intOf i).toNat)
 case atStart => exact ⟨0, Nat.zero_le _, rfl, by simp [eB], by simpa [bD] using hb0, (Below.refl _ _).alloc (Nat.le_refl _) _⟩
 case round =>
  obtain ⟨j, hj, rfl, hfit, hB, hbr⟩ := hrel
  have HFIT := Lib.hid hfit
  clear hb0 hfit
  by_cases hlt : j < n
  ·have hxl : j < xs.length := by rw [<- HN.out]; exact hlt
   obtain ⟨b, off, hA, hbB, hc⟩ := HX.out (by omega)
   obtain ⟨x, hx⟩ : ∃ x, x = xs[j] := ⟨_, rfl⟩
   have hxj : xs[j]? = some x := by rw [hx]; exact List.getElem?_eq_getElem hxl
   have hmem : x ∈ xs := by rw [hx]; exact List.getElem_mem hxl
   have hcx : wr.cell? ⟨b, off + j, none⟩ = some (.string x) := (hbr.cell (p := ⟨b, off + j, none⟩) hbB).trans (hc j x hxj)
   have HXJ := Lib.hid hxj
   clear hc hx
   subst hA
   by_cases hbig : 65535 < x.size
   ·have HNO := Lib.hid (Fe hmem hbig)
    clear hxj hmem hB
    go_wp2_with (go_at_call 126; refine (HF.out _ hbr).mono ?_; rintro e w1 ⟨rfl, hR⟩)
    go_ret
    rw [HNO.out]
    exact ⟨rfl, hR⟩
   ·have hsz := xP hxj
    have hsum := HS.out
    have hl1 : (Lib.byteCells (bD (xs.take j))).length + 2 + x.size <= 140737488355328 := by rw [Lib.byteCells_length]; omega
    have E1 := Lib.hid (nV hxj)
    have E2 := Lib.hid (zU hxj HFIT.out (by omega))
    have E3 := Lib.hid (Ii (bD (xs.take j)) x (by omega))
    have HSZ := Lib.hid hl1
    have HB := Lib.hid hB
    have hxs : x.size <= 65535 := by omega
    clear hxj hmem hsz hsum hl1 hB hbig
    go_wp2_with fail
    refine (Lj w.heap.size w.heap.size _ _ _ HB.out (by have := HSZ.out; omega) hbr.size).mono ?_
    rintro e w1 ⟨rfl, hB1, hb1, _⟩
    have hbr1 := hbr.trans hb1
    have hcx1 : w1.cell? ⟨b, off + j, none⟩ = some (.string x) := (hb1.cell (p := ⟨b, off + j, none⟩) hbB).trans hcx
    have HB1 := Lib.hid hB1
    clear hB1 hb1 hbr hcx
    go_wp2_with fail
    refine (Lj w.heap.size w.heap.size _ _ _ (.inr HB1.out) (by have := HSZ.out; rw [List.length_append]; simp; omega) hbr1.size).mono ?_
    rintro e w2 ⟨rfl, hB2, hb2, _⟩
    have hbr2 := hbr1.trans hb2
    have hcx2 : w2.cell? ⟨b, off + j, none⟩ = some (.string x) := (hb2.cell (p := ⟨b, off + j, none⟩) hbB).trans hcx1
    have HB2 := Lib.hid hB2
    clear hB2 hb2 hbr1 hcx1
    go_wp2_with fail
    refine (tG w.heap.size w.heap.size _ x _ (.inr HB2.out) (by have := HSZ.out; rw [List.length_append, List.length_append]; simp; omega) hbr2.size).mono ?_
    rintro e w3 ⟨rfl, hB3, hb3, _⟩
    have hbr3 := hbr2.trans hb3
    have HB3 := Lib.hid hB3
    clear hB3 hb3 hbr2 hcx2
    go_wp2_with fail
    go_roundw
    case rel => exact ⟨j + 1, by omega, by go_num, E2.out, .inr (by rw [E1.out, <- E3.out]; exact HB3.out), hbr3⟩
    case measure => simp [intOf]; omega
  ·obtain rfl : j = n := by omega
   have htk : xs.take j = xs := List.take_of_length_le (by rw [<- HN.out]; exact Nat.le_refl _)
   rw [htk] at hB
   have HFIT2 := Lib.hid (show eB xs = true by rw [<- HFIT.out, htk])
   clear htk
   go_wp2_with (first
    | (go_at_call 35; refine (Cm w.heap.size w.heap.size (bD xs) _ hB hbr.size).mono ?_; rintro e w1 ⟨rfl, _, hb1, _⟩)
    | (go_at_call 128; refine (HL.out _ (hbr.trans hb1)).mono ?_; rintro e w2 ⟨rfl, hR⟩))
   go_ret
   rw [HFIT2.out]
   exact ⟨rfl, hR⟩
set_option maxRecDepth 100000
set_option maxHeartbeats 2000000
theorem Ff (c : Nat) : Lib.repeatL [0] c = List.replicate c (0 : UInt8) := by
 induction c with
 | zero => rfl
 | succ c ih => rw [Lib.repeatL, ih, List.replicate_succ]; rfl
theorem Ln (o : Nat) (s : Wr) (n : Int) (w : World) (h : bF w o s) (hs : s.l.length <= 140737488351232) :
  Calls Tryz.prog 105 #[.pointer (some ⟨o, 0, none⟩), .int .i64 n] w fun e w' => e = .returned (.pointer (some ⟨o, 0, none⟩)) /\ bF w' o (s.pad n) /\ w.grownBy w' (some o) := by
 have H := Lib.hid h
 obtain ⟨p, r, h1, h2, h3⟩ := h
 have c1 := h1.cell 1
 simp at c1
 clear h1 h2 h3
 by_cases h0 : n < 0
 ·have R : s.pad n = s.fail 1 := by unfold Wr.pad; rw [if_pos (.inl h0)]
  rw [R]
  clear R
  go_enter Tryz.func105, Tryz.ntmps105
  go_wp2_with (go_at_call 126; refine (oK o s 1 _ H.out).mono ?_; rintro e w1 ⟨rfl, h1, hg1⟩)
  go_ret
  exact ⟨rfl, h1, hg1⟩
 ·obtain ⟨m, rfl⟩ := Int.eq_ofNat_of_zero_le (show 0 <= n by omega)
  clear h0
  by_cases hb : 65536 < m
  ·have R : s.pad m = s.fail 1 := by unfold Wr.pad; rw [if_pos (.inr (by omega))]
   rw [R]
   clear R
   go_enter Tryz.func105, Tryz.ntmps105
   go_wp2_with (go_at_call 126; refine (oK o s 1 _ H.out).mono ?_; rintro e w1 ⟨rfl, h1, hg1⟩)
   go_ret
   exact ⟨rfl, h1, hg1⟩
  ·have hb' : m <= 65536 := by omega
   clear hb
   by_cases hl : m < s.l.length
   ·have R : s.pad m = s.fail 2 := by unfold Wr.pad; rw [if_neg (by omega), if_pos (by omega)]
    rw [R]
    clear R
    go_enter Tryz.func105, Tryz.ntmps105
    go_wp2_with (go_at_call 126; refine (oK o s 2 _ H.out).mono ?_; rintro e w1 ⟨rfl, h1, hg1⟩)
    go_ret
    exact ⟨rfl, h1, hg1⟩
   ·have hl' : s.l.length <= m := by omega
    have R : s.pad m = s.lay (List.replicate (m - s.l.length) 0) := by unfold Wr.pad; rw [if_neg (by omega), if_neg (by omega)]; rfl
    rw [R]
    clear R hl
    have e1 : (⟨(Lib.repeatL (ByteArray.mk #[0]).data.toList (m - s.l.length)).toArray⟩ : ByteArray).data.toList = List.replicate (m - s.l.length) 0 := by
     show Lib.repeatL [0] _ = _
     exact Ff _
    have E1 := Lib.hid e1
    clear e1
    go_enter Tryz.func105, Tryz.ntmps105
    go_wp2_with fail
    rw [show ((m : Int) - (s.l.length : Int)) = ((m - s.l.length : Nat) : Int) from by omega]
    refine (qL ⟨#[0]⟩ (m - s.l.length) _ (by omega) (by show 1 * _ <= _; omega)).mono ?_
    rintro e w1 ⟨rfl, hb1⟩
    go_wp2_with (go_at_call 128; refine (wD o s _ w1 (H.out.below hb1) (by rw [Lib.size_eq, E1.out]; simp; omega)).mono ?_; rintro e w2 ⟨rfl, h2, hg2⟩)
    go_ret
    exact ⟨rfl, by rw [E1.out] at h2; exact h2, dH (cT hb1 (Nat.le_refl _)) hg2⟩
theorem nE (o : Nat) (s : Wr) (w : World) (h : bF w o s) (hok : s.ok) (hs : s.l.length <= 140737488351232) :
  Calls Tryz.prog 85 #[.pointer (some ⟨o, 0, none⟩)] w fun e w' => e = .returned (.tuple #[.string ⟨s.l.toArray⟩, .int .i64 s.e]) /\ bF w' o s /\ Below w.heap.size w w' := by
 have H := Lib.hid h
 obtain ⟨p, r, h1, h2, h3⟩ := h
 have c0 := h1.cell 0
 have c1 := h1.cell 1
 have c2 := h1.cell 2
 simp at c0 c1 c2
 have hl := h1.lt
 have H2 := Lib.hid h2
 have H3 := Lib.hid h3
 clear h1 h2 h3
 by_cases he : s.e = 0
 ·have HE := Lib.hid he
  rw [he] at c2
  clear he hok
  obtain ⟨i0, hi, hz0, hz1, hz2⟩ := info_parts (show (Tryz.prog.info? 5).map (fun i => (i.zero, i.size, i.bytes)) = some (some (.int .u8 0), 1, 1) by kernel_rfl)
  obtain ⟨n, hn⟩ : ∃ n, n = s.l.length := ⟨_, rfl⟩
  rw [<- hn] at hs c1
  have HN := Lib.hid hn
  clear hn
  obtain ⟨M, hM⟩ : ∃ M, M = madeCells (Value.int .u8 0).cells (((n : Nat) : Int).toNat * i0.size) := ⟨_, rfl⟩
  have hMs : M.size = n := by rw [hM, size_madeCells, hz1]; simp
  have hmk : ∀ W : World, (Instr.makeSlice 79 (.int .i64 (n : Int)) (.int .i64 (n : Int))).run Tryz.prog W = .ok (.slice (some ⟨W.heap.size, 0, none⟩) n n) (W.alloc (.cells M 5)) := fun W => by
   have h := run_make (P := Tryz.prog) W 79 5 i0 (.int .u8 0) Tryz.underlying79 hi hz0 .i64 .i64 (n : Int) (n : Int) (by omega) (by omega) (by rw [hz2]; omega) (by omega)
   rw [<- hM] at h
   simpa using h
  have HMS := Lib.hid hMs
  clear hM hMs
  go_enter Tryz.func85, Tryz.ntmps85
  go_wp2_with fail
  go_loopw [5, 6] (fun a v wr => ∃ (rem : List (Nat × ByteArray)) (pc : Option Addr) (tail : List UInt8) (cur : Array Value), xO w o pc rem /\ Qu rem ++ tail = s.l /\ a = .int .i64 (Qu rem).length /\ v = .pointer pc /\
    wr.heap[w.heap.size]? = some (.cells cur 5 (0, 0)) /\ cur.size = n /\ cur.toList.drop (Qu rem).length = Lib.byteCells tail /\ Below w.heap.size w wr)
   (fun a _ _ => (intOf a).toNat)
  case atStart =>
   refine ⟨r, p, [], M, H2.out, by rw [H3.out]; simp, by rw [H3.out, HN.out], rfl, heap_alloc_new w _, HMS.out, ?_, (Below.refl _ _).alloc (Nat.le_refl _) _⟩
   rw [List.drop_of_length_le (by rw [H3.out, Array.length_toList, HMS.out, HN.out]; exact Nat.le_refl _)]
   rfl
  case round =>
   obtain ⟨rem, pc, tail, cur, hch, hcat, rfl, rfl, hcur, hcsz, hdrop, hbr⟩ := hrel
   have HCAT := Lib.hid hcat
   have HDROP := Lib.hid hdrop
   clear hcat hdrop
   match rem, hch with
   | [], hch =>
     obtain rfl : pc = none := hch
     have htl : tail = s.l := HCAT.out
     have hcl : cur.toList = Lib.byteCells s.l := by rw [<- htl]; exact HDROP.out
     have hcv := run_convert_bytes_back (P := Tryz.prog) wr 79 9 5 ⟨w.heap.size, 0, none⟩ n s.l Tryz.underlying79 Tryz.underlying5 Tryz.underlying9
      (fun i hi => Lib.cells_of_row hcur s.l.length i _ (by rw [List.take_of_length_le (by rw [hcl, Lib.byteCells_length]; exact Nat.le_refl _), hcl]; simp [Lib.byteCells, List.getElem?_eq_getElem hi]))
     rw [<- HN.out] at hcv
     clear htl hcl hcur hcsz
     go_wp2_with fail
     go_ret2
     exact ⟨by rw [HE.out]; rfl, H.out.below hbr, hbr⟩
   | (qb, sb) :: rem', hch =>
     obtain ⟨rfl, hqo, hsz, p', hq, hch'⟩ := hch
     have hq' := hq.below hbr hq.lt
     have d0 := hq'.cell 0
     have d1 := hq'.cell 1
     simp at d0 d1
     have hlen : (Qu ((qb, sb) :: rem')).length = (Qu rem').length + sb.size := by rw [Qu, List.length_append, Lib.size_eq]
     have hle : (Qu ((qb, sb) :: rem')).length <= n := by
      have := congrArg List.length HCAT.out
      rw [List.length_append] at this
      rw [HN.out]
      omega
     obtain ⟨a', ha'⟩ : ∃ a', a' = (Qu rem').length := ⟨_, rfl⟩
     rw [hlen, <- ha'] at hle ⊢
     have HA := Lib.hid ha'
     have HLEN := Lib.hid hlen
     have hcp := Lib.run_copy_row_string (P := Tryz.prog) wr.drew 79 9 3 5 w.heap.size a' (n - a') (n - a') sb cur 5 Tryz.underlying79 (by rw [hi]; simp [hz1]) hcur (by omega) (by rw [hcsz]; omega)
     obtain ⟨Y, hY⟩ : ∃ Y, Y = (cur.toList.take a' ++ Lib.byteCells sb.data.toList ++ cur.toList.drop (a' + sb.size)).toArray := ⟨_, rfl⟩
     rw [<- hY] at hcp
     have HY := Lib.hid hY
     have HCH := Lib.hid hch'
     have HCS := Lib.hid hcsz
     have hqne : qb ≠ w.heap.size := by have := hq.lt; omega
     have hd0 : (wr.drew.setRow w.heap.size Y).cell? ⟨qb, 0, none⟩ = some (.pointer p') :=
      (World.cell?_of_block (w := wr.drew) (setRow_other wr.drew w.heap.size qb Y hqne)).trans d0
     have hb' : Below w.heap.size w (wr.drew.setRow w.heap.size Y) := below_setRow hbr.drew (Nat.le_refl _) Y
     have hcur' : (wr.drew.setRow w.heap.size Y).heap[w.heap.size]? = some (.cells Y 5 (0, 0)) := setRow_heap wr.drew w.heap.size cur Y 5 (0, 0) hcur
     have HCUR := Lib.hid hcur'
     clear ha' hlen hY hq hq' hch' hcsz hcur'
     go_wp2_with fail
     go_region
     go_wp2_with fail
     go_roundw
     case rel =>
      refine ⟨rem', p', sb.data.toList ++ tail, Y, HCH.out, ?_, by rw [HA.out], rfl, HCUR.out, ?_, ?_, hb'⟩
      ·rw [<- HCAT.out, Qu, List.append_assoc]
      ·rw [HY.out, <- Array.length_toList, List.toList_toArray, List.length_append, List.length_append, List.length_take, List.length_drop, Array.length_toList, HCS.out, Lib.byteCells_length, <- Lib.size_eq]
       omega
      ·have hd := HDROP.out
       rw [HLEN.out] at hd
       rw [<- HA.out] at hd ⊢
       rw [HY.out, List.toList_toArray, List.append_assoc, List.drop_append_of_le_length (by rw [List.length_take, Array.length_toList, HCS.out]; omega),
        List.drop_of_length_le (by rw [List.length_take]; omega), List.nil_append, hd, Lib.byteCells_append]
     case measure => simp [intOf]; omega
 ·have hl0 : s.l = [] := hok he
  have hc : (s.e != 0) = true := by rw [bne_iff_ne]; exact he
  rw [hl0]
  go_enter Tryz.func85, Tryz.ntmps85
  go_wp2_with fail
  go_quiet (fail)
  go_wp2_with fail
  go_ret2
  have hb : Below w.heap.size w (w.drewN nq) := ⟨rfl, rfl, rfl, Nat.le_refl _, fun _ _ => rfl⟩
  exact ⟨rfl, H.out.below hb, hb⟩
set_option maxHeartbeats 400000
def fD (xs : List Int) : Prop := ∀ x ∈ xs, -9223372036854775808 <= x /\ x <= 9223372036854775807
theorem lP (k : Nat) (hk : k <= 8) (o : Nat) (s : Wr) (A : Option Addr) (n c : Nat) (xs : List Int) (w : World) (hn : xs.length = n) (hx : dZ w w.heap.size A xs) (hlen : xs.length * 8 <= 140737488351232) (hr : fD xs) (h : bF w o s) (hs : s.l.length <= 140737488351232) :
  Calls Tryz.prog 125 #[.pointer (some ⟨o, 0, none⟩), .int .i64 k, .slice A n c] w fun e w' => e = .returned (.pointer (some ⟨o, 0, none⟩)) /\ bF w' o (s.nums k xs) /\ w.grownBy w' (some o) := by
 subst hn
 have hm : xs.length * k <= xs.length * 8 := Nat.mul_le_mul_left _ hk
 have key := Cw (some ⟨o, 0, none⟩) k hk A c xs w hx hlen hr (fun ok w' => bF w' o (if ok = true then s.lay (aO k xs) else s.fail 1) /\ w.grownBy w' (some o))
  (fun w1 hb => (oK o s 1 w1 (h.below hb)).mono fun e w' ⟨he, h1, h2⟩ => ⟨he, by simpa using h1, dH (cT hb (Nat.le_refl _)) h2⟩)
  (fun w1 hb => (wD o s _ w1 (h.below hb) (by rw [Lib.size_eq]; show _ + (aO k xs).length <= _; rw [dG]; omega)).mono fun e w' ⟨he, h1, h2⟩ => ⟨he, by simpa using h1, dH (cT hb (Nat.le_refl _)) h2⟩)
 exact key
theorem oJ (o : Nat) (s : Wr) (A : Option Addr) (n c : Nat) (xs : List Int) (w : World) (hn : xs.length = n) (hx : dZ w w.heap.size A xs) (hlen : xs.length * 8 <= 140737488351232) (hr : fD xs) (h : bF w o s) (hs : s.l.length <= 140737488351232) :
  Calls Tryz.prog 82 #[.pointer (some ⟨o, 0, none⟩), .slice A n c] w fun e w' => e = .returned (.pointer (some ⟨o, 0, none⟩)) /\ bF w' o (s.nums 1 xs) /\ w.grownBy w' (some o) := by
 have H := Lib.hid (lP 1 (by omega) o s A n c xs w hn hx hlen hr h hs)
 clear hn hx hlen hr h hs
 go_enter Tryz.func82, Tryz.ntmps82
 go_wp2_with (go_at_call 125; refine H.out.mono ?_; rintro e w1 ⟨rfl, h1, hg1⟩)
 go_ret
 exact ⟨rfl, h1, hg1⟩
theorem mP (o : Nat) (s : Wr) (A : Option Addr) (n c : Nat) (xs : List Int) (w : World) (hn : xs.length = n) (hx : dZ w w.heap.size A xs) (hlen : xs.length * 8 <= 140737488351232) (hr : fD xs) (h : bF w o s) (hs : s.l.length <= 140737488351232) :
  Calls Tryz.prog 83 #[.pointer (some ⟨o, 0, none⟩), .slice A n c] w fun e w' => e = .returned (.pointer (some ⟨o, 0, none⟩)) /\ bF w' o (s.nums 2 xs) /\ w.grownBy w' (some o) := by
 have H := Lib.hid (lP 2 (by omega) o s A n c xs w hn hx hlen hr h hs)
 clear hn hx hlen hr h hs
 go_enter Tryz.func83, Tryz.ntmps83
 go_wp2_with (go_at_call 125; refine H.out.mono ?_; rintro e w1 ⟨rfl, h1, hg1⟩)
 go_ret
 exact ⟨rfl, h1, hg1⟩
theorem Sg (o : Nat) (s : Wr) (A : Option Addr) (n c : Nat) (xs : List Int) (w : World) (hn : xs.length = n) (hx : dZ w w.heap.size A xs) (hlen : xs.length * 8 <= 140737488351232) (hr : fD xs) (h : bF w o s) (hs : s.l.length <= 140737488351232) :
  Calls Tryz.prog 130 #[.pointer (some ⟨o, 0, none⟩), .slice A n c] w fun e w' => e = .returned (.pointer (some ⟨o, 0, none⟩)) /\ bF w' o (s.nums 4 xs) /\ w.grownBy w' (some o) := by
 have H := Lib.hid (lP 4 (by omega) o s A n c xs w hn hx hlen hr h hs)
 clear hn hx hlen hr h hs
 go_enter Tryz.func130, Tryz.ntmps130
 go_wp2_with (go_at_call 125; refine H.out.mono ?_; rintro e w1 ⟨rfl, h1, hg1⟩)
 go_ret
 exact ⟨rfl, h1, hg1⟩
theorem Fd (o : Nat) (s : Wr) (A : Option Addr) (n c : Nat) (xs : List Int) (w : World) (hn : xs.length = n) (hx : dZ w w.heap.size A xs) (hlen : xs.length * 8 <= 140737488351232) (hr : fD xs) (h : bF w o s) (hs : s.l.length <= 140737488351232) :
  Calls Tryz.prog 200 #[.pointer (some ⟨o, 0, none⟩), .slice A n c] w fun e w' => e = .returned (.pointer (some ⟨o, 0, none⟩)) /\ bF w' o (s.nums 8 xs) /\ w.grownBy w' (some o) := by
 have H := Lib.hid (lP 8 (by omega) o s A n c xs w hn hx hlen hr h hs)
 clear hn hx hlen hr h hs
 go_enter Tryz.func200, Tryz.ntmps200
 go_wp2_with (go_at_call 125; refine H.out.mono ?_; rintro e w1 ⟨rfl, h1, hg1⟩)
 go_ret
 exact ⟨rfl, h1, hg1⟩
theorem Sh (o : Nat) (s : Wr) (A : Option Addr) (n c : Nat) (xs : List ByteArray) (w : World) (hn : xs.length = n) (hx : dL w w.heap.size A xs) (hlen : xs.length <= 140737488351232) (hsum : (bD xs).length <= 140737488351232) (h : bF w o s) (hs : s.l.length <= 140737488351232) :
  Calls Tryz.prog 84 #[.pointer (some ⟨o, 0, none⟩), .slice A n c] w fun e w' => e = .returned (.pointer (some ⟨o, 0, none⟩)) /\ bF w' o (s.texts xs) /\ w.grownBy w' (some o) := by
 subst hn
 have key := Ij (some ⟨o, 0, none⟩) A c xs w hx hlen hsum (fun ok w' => bF w' o (if ok = true then s.lay (bD xs) else s.fail 2) /\ w.grownBy w' (some o))
  (fun w1 hb => (oK o s 2 w1 (h.below hb)).mono fun e w' ⟨he, h1, h2⟩ => ⟨he, by simpa using h1, dH (cT hb (Nat.le_refl _)) h2⟩)
  (fun w1 hb => (wD o s _ w1 (h.below hb) (by rw [Lib.size_eq]; show _ + (bD xs).length <= _; omega)).mono fun e w' ⟨he, h1, h2⟩ => ⟨he, by simpa using h1, dH (cT hb (Nat.le_refl _)) h2⟩)
 exact key
theorem Cv (o : Nat) (s : Wr) (A : Option Addr) (n c : Nat) (xs : List ByteArray) (w : World) (hn : xs.length = n) (hx : dL w w.heap.size A xs) (hlen : xs.length <= 140737488351232) (hsum : (aW xs).length <= 140737488351232) (h : bF w o s) (hs : s.l.length <= 140737488351232) :
  Calls Tryz.prog 104 #[.pointer (some ⟨o, 0, none⟩), .slice A n c] w fun e w' => e = .returned (.pointer (some ⟨o, 0, none⟩)) /\ bF w' o (s.raws xs) /\ w.grownBy w' (some o) := by
 subst hn
 have key := Nk (some ⟨o, 0, none⟩) A c xs w hx hlen hsum (fun w' => bF w' o (s.lay (aW xs)) /\ w.grownBy w' (some o))
  (fun w1 hb => (wD o s _ w1 (h.below hb) (by rw [Lib.size_eq]; show _ + (aW xs).length <= _; omega)).mono fun e w' ⟨he, h1, h2⟩ => ⟨he, by simpa using h1, dH (cT hb (Nat.le_refl _)) h2⟩)
 exact key
theorem Si (w : World) (xs : List Int) : dZ (w.alloc (.cells (xs.map (Value.int .i64)).toArray 3)) (w.alloc (.cells (xs.map (Value.int .i64)).toArray 3)).heap.size (some ⟨w.heap.size, 0, none⟩) xs := by
 intro _
 refine ⟨w.heap.size, 0, rfl, by simp, fun j x hx => ?_⟩
 have := (aG.new w 3 (xs.map (Value.int .i64)).toArray).cell (0 + j)
 rw [this]
 simp [hx]
theorem gP {n : Int} (h0 : -9223372036854775808 <= n) (h1 : n <= 9223372036854775807) : fD [n] := by
 intro x hx
 simp at hx
 subst hx
 exact ⟨h0, h1⟩
theorem Wq (w : World) (cs : Array Value) (xs : List Int) (g : Nat) (hg : w.heap.size = g) (hcs : cs = (xs.map (Value.int .i64)).toArray) :
  dZ (w.alloc (.cells cs 3)) (w.alloc (.cells cs 3)).heap.size (some ⟨g, 0, none⟩) xs := by
 subst hg; subst hcs
 exact Si w xs
theorem Wr.ok_zero (l : List UInt8) : (Wr.mk l 0).ok := fun h => (h rfl).elim
end Go.Proofs.YtingkbeifohihaaGreatDoor
