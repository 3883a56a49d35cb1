/-
  crc.Seal, whatever is handed over.
-/
import Derived.Test.YtingkbeifohihaaGreatDoorCrcPure
import Derived.Test.YtingkbeifohihaaGreatDoorOuts
import Derived.Test.YtingkbeifohihaaGreatDoorOneMix
import Derived.Test.YtingkbeifohihaaGreatDoorMarkSmall
namespace Go.Proofs.YtingkbeifohihaaGreatDoor
structure HD where
 seq : Int
 full : Bool
 ts : List Int
def iD : Int -> List Int -> Bool
 | _, [] => true
 | least, x :: r => decide (least <= x) && decide (x < 2000) && iD (x + 1) r
def HD.validB (h : HD) : Bool := decide (0 <= h.seq /\ h.seq <= 1099511627776) && (if h.full then decide (1 <= h.ts.length /\ h.ts.length <= 110) && iD 0 h.ts else decide (h.ts.length = 0))
def jF (b : Bool) : Nat := if b then 1 else 0
def HD.bytes (h : HD) : List UInt8 := aD 1 7 ++ (aD 1 (jF h.full) ++ (aD 8 h.seq.toNat ++ (aD 2 h.ts.length ++ aO 2 h.ts)))
def HD.text (h : HD) : List UInt8 := gU 256 h.bytes ++ aD 4 (tB (gU 256 h.bytes))
theorem uW : ∀ (l : List Int) (least : Int), 0 <= least -> iD least l = true -> ∀ x ∈ l, 0 <= x /\ x < 2000
 | [], _, _, _, x, hx => by cases hx
 | y :: r, least, h0, h, x, hx => by
   simp only [iD, Bool.and_eq_true, decide_eq_true_eq] at h
   rcases List.mem_cons.1 hx with rfl | hx
   ·exact ⟨by omega, h.1.2⟩
   ·exact uW r (y + 1) (by omega) h.2 x hx
structure HD.Valid (h : HD) : Prop where
 seq : 0 <= h.seq /\ h.seq <= 1099511627776
 few : h.ts.length <= 110
 range : ∀ x ∈ h.ts, 0 <= x /\ x < 2000
theorem HD.valid_of {h : HD} (hv : h.validB = true) : h.Valid := by
 unfold HD.validB at hv
 rw [Bool.and_eq_true, decide_eq_true_eq] at hv
 obtain ⟨h1, h2⟩ := hv
 split at h2
 ·rw [Bool.and_eq_true, decide_eq_true_eq] at h2
  exact ⟨h1, h2.1.2, uW _ 0 (by omega) h2.2⟩
 ·have h2 := of_decide_eq_true h2
  have : h.ts = [] := List.eq_nil_of_length_eq_zero h2
  exact ⟨h1, by omega, by rw [this]; simp⟩
theorem HD.len (h : HD) : h.bytes.length = 12 + h.ts.length * 2 := by
 unfold HD.bytes
 simp only [List.length_append, aL, dG]
 omega
theorem wI (b : Bool) : jF b < 256 := by cases b <;> decide
theorem HD.Valid.small {h : HD} (hv : h.Valid) : (h.bytes.length : Int) <= 256 - 4 := by rw [h.len]; have := hv.few; omega
theorem HD.Valid.body_len {h : HD} (hv : h.Valid) : (gU 256 h.bytes).length = 252 := by have := lU hv.small; omega
theorem HD.Valid.text_len {h : HD} (hv : h.Valid) : h.text.length = 256 := by
 unfold HD.text
 rw [List.length_append, hv.body_len, aL]
theorem HD.Valid.sealed {h : HD} (hv : h.Valid) : oW 256 h.bytes = (h.text, 0) := sK (by omega) (by omega) hv.small
theorem HD.opened (h : HD) : fJ h.text = (gU 256 h.bytes, 0) := yH _
theorem HD.Valid.fit {h : HD} (hv : h.Valid) : cO 2 h.ts = true := by
 unfold cO
 rw [List.all_eq_true]
 intro x hx
 have := hv.range x hx
 exact (fR 2 x).2 ⟨this.1, by omega⟩
theorem HD.text_first (h : HD) : ∃ r, h.text = 7 :: r := ⟨_, rfl⟩
def gJ (h : HD) : Nat -> Wr
 | 0 | 1 => ⟨[], 0⟩
 | 2 => Wr.nums ⟨[], 0⟩ 1 [7, (jF h.full : Int)]
 | 3 => (Wr.nums ⟨[], 0⟩ 1 [7, (jF h.full : Int)]).nums 8 [h.seq]
 | 4 => ((Wr.nums ⟨[], 0⟩ 1 [7, (jF h.full : Int)]).nums 8 [h.seq]).nums 2 [(h.ts.length : Int)]
 | _ => (((Wr.nums ⟨[], 0⟩ 1 [7, (jF h.full : Int)]).nums 8 [h.seq]).nums 2 [(h.ts.length : Int)]).nums 2 h.ts
theorem yE (h : HD) : gJ h 2 = ⟨aD 1 7 ++ aD 1 (jF h.full), 0⟩ := by
 show Wr.nums ⟨[], 0⟩ 1 [((7 : Nat) : Int), (jF h.full : Int)] = _
 rw [lT _ _ _ (Xi (by omega) (by have := wI h.full; omega)), Xh, List.nil_append]
theorem sI {h : HD} (hv : h.Valid) : gJ h 3 = ⟨aD 1 7 ++ aD 1 (jF h.full) ++ aD 8 h.seq.toNat, 0⟩ := by
 obtain ⟨n, hn⟩ : ∃ n : Nat, h.seq = (n : Int) := ⟨h.seq.toNat, by have := hv.seq; omega⟩
 show Wr.nums (gJ h 2) 8 [h.seq] = _
 have hb : n < 256 ^ 8 := by have := hv.seq; omega
 rw [yE, hn, lT _ _ _ (pS hb), wJ, Int.toNat_natCast]
theorem uX {h : HD} (hv : h.Valid) : gJ h 4 = ⟨aD 1 7 ++ aD 1 (jF h.full) ++ aD 8 h.seq.toNat ++ aD 2 h.ts.length, 0⟩ := by
 show Wr.nums (gJ h 3) 2 [(h.ts.length : Int)] = _
 rw [sI hv, lT _ _ _ (pS (by have := hv.few; omega)), wJ]
theorem Ga {h : HD} (hv : h.Valid) : gJ h 5 = ⟨h.bytes, 0⟩ := by
 show Wr.nums (gJ h 4) 2 h.ts = _
 rw [uX hv, lT _ _ _ hv.fit]
 unfold HD.bytes
 simp only [List.append_assoc]
theorem Xd (h : HD) : ∃ z, gU 256 h.bytes = aD 1 7 ++ (aD 1 (jF h.full) ++ (aD 8 h.seq.toNat ++ (aD 2 h.ts.length ++ (aO 2 h.ts ++ z)))) := by
 refine ⟨List.replicate ((256 - 4 : Int).toNat - h.bytes.length) 0, ?_⟩
 unfold gU
 generalize List.replicate ((256 - 4 : Int).toNat - h.bytes.length) (0 : UInt8) = z
 rw [HD.bytes]
 simp only [List.append_assoc]
theorem zX (k : Nat) (x : Int) (r : List Int) : aO k (x :: r) = aD k x.toNat ++ aO k r := by simp [aO]
theorem yF : ∀ (l : List Int) (least x : Int), iD least l = true -> (∀ y ∈ l, y < x) -> least <= x -> x < 2000 -> iD least (l ++ [x]) = true
 | [], least, x, _, _, h1, h2 => by simp [iD, h1, h2]
 | y :: r, least, x, h, hy, h1, h2 => by
   simp only [iD, Bool.and_eq_true, decide_eq_true_eq, List.cons_append] at h ⊢
   exact ⟨h.1, yF r (y + 1) x h.2 (fun z hz => hy z (by simp [hz])) (by have := hy y (by simp); omega) h2⟩
open Go.RowKit
set_option maxRecDepth 100000
set_option maxHeartbeats 1000000
theorem Ji (A : Option Addr) (n c : Nat) (l : List Int) (w : World) (hn : l.length = n) (hx : dZ w w.heap.size A l) (hb : n <= 1000000000000) :
  Calls Tryz.prog 214 #[.slice A n c] w fun e w' => e = .returned (.bool (iD 0 l)) /\ w = w' := by
 have HX := Lib.hid hx
 have HN := Lib.hid hn
 obtain ⟨R, hR⟩ : ∃ R, R = iD 0 l := ⟨_, rfl⟩
 rw [<- hR]
 have HR := Lib.hid hR
 have hnI : (n : Int) <= 1000000000000 := by omega
 clear hx hn hR
 go_enter Tryz.func214, Tryz.ntmps214
 go_wp2_with fail
 go_loopw [3, 8] (fun v i wr => ∃ (j : Nat) (least : Int), j <= n /\ i = .int .i64 j /\ v = .int .i64 least /\ 0 <= least /\ least <= 2000 /\ R = iD least (l.drop j) /\ w = wr) (fun _ i _ => n - (intOf i).toNat)
 case atStart => exact ⟨0, 0, Nat.zero_le _, rfl, rfl, by omega, by omega, HR.out, rfl⟩
 case round =>
  obtain ⟨j, least, hj, rfl, rfl, l0, l1, hq, rfl⟩ := hrel
  have HQ := Lib.hid hq
  clear hq
  by_cases hlt : j < n
  ·have hjl : j < l.length := by rw [HN.out]; exact hlt
   obtain ⟨b, off, rfl, hbB, hc⟩ := HX.out (by omega)
   obtain ⟨x, hx⟩ : ∃ x, x = l[j] := ⟨_, rfl⟩
   have hcx := hc j x (by rw [hx]; exact List.getElem?_eq_getElem hjl)
   have hdrop : l.drop j = x :: l.drop (j + 1) := by rw [List.drop_eq_getElem_cons hjl, hx]
   have hjI : (j : Int) < (n : Int) := by omega
   by_cases h1 : x < least
   ·have HF : Hid (R = false) := Lib.hid (by rw [HQ.out, hdrop]; simp [iD]; omega)
    clear hc hx hdrop hjl
    go_wp2_with fail
    go_ret
    rw [HF.out]
    exact ⟨rfl, rfl⟩
   ·have h1' : least <= x := by omega
    by_cases h2 : x < 2000
    ·have HS : Hid (R = iD (x + 1) (l.drop (j + 1))) := Lib.hid (by rw [HQ.out, hdrop]; simp [iD, h1', h2])
     have hlen : j + 1 <= n := hlt
     have hx0 : 0 <= x := by omega
     clear hc hx hdrop hjl
     go_wp2_with fail
     go_roundw
     case rel => exact ⟨j + 1, x + 1, hlen, by go_num, rfl, by omega, by omega, HS.out, trivial⟩
     case measure => simp [intOf]; omega
    ·have h2' : 2000 <= x := by omega
     have HF : Hid (R = false) := Lib.hid (by rw [HQ.out, hdrop]; simp [iD, h2])
     clear hc hx hdrop hjl
     go_wp2_with fail
     go_ret
     rw [HF.out]
     exact ⟨rfl, rfl⟩
  ·obtain rfl : j = n := by omega
   have HF : Hid (R = true) := Lib.hid (by rw [HQ.out, List.drop_of_length_le (by rw [HN.out]; exact Nat.le_refl _)]; rfl)
   go_wp2_with fail
   go_ret
   rw [HF.out]
   exact ⟨rfl, rfl⟩
def HD.val (h : HD) (A : Option Addr) (c : Nat) : Value := .agg #[.int .i64 h.seq, .bool h.full, .slice A h.ts.length c]
structure HD.At (h : HD) (w : World) (A : Option Addr) (c : Nat) : Prop where
 lie : dZ w w.heap.size A h.ts
 few : h.ts.length <= 1000000
theorem HD.At.below {h : HD} {w w' : World} {A : Option Addr} {c : Nat} (ha : h.At w A c) (hb : Below w.heap.size w w') : h.At w' A c := ⟨(ha.lie.below hb).more hb.size, ha.few⟩
theorem yD (h : HD) (A : Option Addr) (c : Nat) (w : World) (ha : h.At w A c) :
  Calls Tryz.prog 199 #[h.val A c] w fun e w' => e = .returned (.bool h.validB) /\ Below w.heap.size w w' := by
 obtain ⟨seq, full, ts⟩ := h
 obtain ⟨hlie, hfew⟩ := ha
 simp only at hlie hfew
 unfold HD.val HD.validB
 simp only
 obtain ⟨n, hn⟩ : ∃ n, n = ts.length := ⟨_, rfl⟩
 rw [<- hn]
 have HRI : Hid (∀ W, Below w.heap.size w W -> Calls Tryz.prog 214 #[.slice A n c] W fun e w' => e = .returned (.bool (iD 0 ts)) /\ W = w') := Lib.hid (fun W hb => Ji A n c ts W hn.symm ((hlie.below hb).more hb.size) (by omega))
 obtain ⟨R, hR⟩ : ∃ R, R = iD 0 ts := ⟨_, rfl⟩
 rw [<- hR] at HRI ⊢
 have hnI : (n : Int) <= 1000000 := by omega
 have HB : Hid (∀ o : Obj, Below w.heap.size w (w.alloc o)) := Lib.hid (fun o => (Below.refl _ _).alloc (Nat.le_refl _) _)
 clear hlie hfew hn hR
 by_cases h0 : seq < 0
 ·have e1 : decide (0 <= seq /\ seq <= 1099511627776) = false := decide_eq_false (by omega)
  rw [e1, Bool.false_and]
  go_enter Tryz.func199, Tryz.ntmps199
  go_wp2_with fail
  go_ret
  exact ⟨rfl, HB.out _⟩
 ·have h0' : 0 <= seq := by omega
  by_cases h1 : seq <= 1099511627776
  ·have e1 : decide (0 <= seq /\ seq <= 1099511627776) = true := decide_eq_true (by omega)
   rw [e1, Bool.true_and]
   cases full with
   | false =>
     simp only [Bool.false_eq_true, if_false]
     clear e1
     by_cases hz : n = 0
     ·subst hz
      go_enter Tryz.func199, Tryz.ntmps199
      go_wp2_with fail
      go_ret
      exact ⟨rfl, HB.out _⟩
     ·have hz1 : ((n : Int) == 0) = false := beq_eq_false_iff_ne.2 (by omega)
      have hz2 : decide (n = 0) = false := decide_eq_false hz
      have hz3 : ¬ (n : Int) = 0 := by omega
      rw [hz2]
      clear hz2
      go_enter Tryz.func199, Tryz.ntmps199
      go_wp2_with fail
      go_ret
      exact ⟨rfl, HB.out _⟩
   | true =>
     simp only [if_true]
     clear e1
     by_cases n1 : 1 <= n
     ·by_cases n2 : n <= 110
      ·have e2 : decide (1 <= n /\ n <= 110) = true := decide_eq_true ⟨n1, n2⟩
       rw [e2, Bool.true_and]
       have n1I : (1 : Int) <= (n : Int) := by omega
       have n2I : (n : Int) <= 110 := by omega
       clear e2
       go_enter Tryz.func199, Tryz.ntmps199
       go_wp2_with fail
       refine (HRI.out _ (HB.out _)).mono ?_
       rintro e w1 ⟨rfl, rfl⟩
       go_wp2_with fail
       go_ret
       exact ⟨rfl, HB.out _⟩
      ·have e2 : decide (1 <= n /\ n <= 110) = false := decide_eq_false (by omega)
       rw [e2, Bool.false_and]
       have n1I : (1 : Int) <= (n : Int) := by omega
       have n2I : (110 : Int) < (n : Int) := by omega
       clear e2
       go_enter Tryz.func199, Tryz.ntmps199
       go_wp2_with fail
       go_ret
       exact ⟨rfl, HB.out _⟩
     ·have e2 : decide (1 <= n /\ n <= 110) = false := decide_eq_false (by omega)
      rw [e2, Bool.false_and]
      obtain rfl : n = 0 := by omega
      clear e2
      go_enter Tryz.func199, Tryz.ntmps199
      go_wp2_with fail
      go_ret
      exact ⟨rfl, HB.out _⟩
  ·have e1 : decide (0 <= seq /\ seq <= 1099511627776) = false := decide_eq_false (by omega)
   rw [e1, Bool.false_and]
   have h1' : 1099511627776 < seq := by omega
   clear e1
   go_enter Tryz.func199, Tryz.ntmps199
   go_wp2_with fail
   go_ret
   exact ⟨rfl, HB.out _⟩
theorem eY {W : World} {g : Nat} {q : Int} {f : Bool} {A : Option Addr} {n c : Nat} (hb : aG W g 160 #[.int .i64 q, .bool f, .slice A n c]) :
  (loadVar 160 ⟨g, 0, none⟩).run Tryz.prog W = .ok (.agg #[.int .i64 q, .bool f, .slice A n c]) W :=
 aT (off := 0) hb (fun j v h => by rw [Nat.zero_add]; exact h) (fun w => by kernel_rfl) (fun w => by kernel_rfl)
theorem Bq (h : HD) (A : Option Addr) (c : Nat) (w : World) :
  Calls Tryz.prog 137 #[h.val A c] w fun e w' => e = .returned ((HD.mk h.seq false []).val none 0) /\ Below w.heap.size w w' := by
 obtain ⟨seq, full, ts⟩ := h
 unfold HD.val
 simp only [List.length_nil]
 go_enter Tryz.func137, Tryz.ntmps137
 go_wp2_with fail
 have b1 : aG ((w.alloc (.cells #[.int .i64 seq, .bool full, .slice A ts.length c] 160)).alloc (.cells #[.int .i64 seq, .bool false, .slice none 0 0] 160)) (w.heap.size + 1) 160 #[.int .i64 seq, .bool false, .slice none 0 0] := by
  have := aG.new (w.alloc (.cells #[.int .i64 seq, .bool full, .slice A ts.length c] 160)) 160 #[.int .i64 seq, .bool false, .slice none 0 0]
  rwa [show (w.alloc (.cells #[.int .i64 seq, .bool full, .slice A ts.length c] 160)).heap.size = w.heap.size + 1 by simp] at this
 refine dV rfl rfl (eY b1) rfl ?_
 exact ⟨rfl, ((Below.refl _ _).alloc (Nat.le_refl _) _).alloc (by simp) _⟩
set_option maxRecDepth 100000
set_option maxHeartbeats 1000000
theorem Xl {a b : Int} (h : a = b) : Ending.returned (.int .u32 a) = .returned (.int .u32 b) := by rw [h]
theorem Lx (x : Nat) (h : x < 4294967296) : bits .and .u32 (x : Int) 1 = ((x % 2 : Nat) : Int) := by
 show bits .and .u32 (x : Int) ((1 : Nat) : Int) = _
 rw [u32_and_nat x 1 h (by omega), Nat.and_one_is_mod]
theorem Bs (x : Nat) : (x : Int) / 2 = ((x / 2 : Nat) : Int) := by omega
theorem Ol (x : Nat) (h : x < 4294967296) : bits .xor .u32 (((x / 2 : Nat) : Int)) 3988292384 = (((x / 2) ^^^ 3988292384 : Nat) : Int) := u32_xor_nat (x / 2) 3988292384 (by omega) (by omega)
theorem Jm {x : Nat} (h : x % 2 = 1) : oU x = (x / 2) ^^^ 3988292384 := by unfold oU; rw [if_pos h]
theorem Gb {x : Nat} (h : ¬ x % 2 = 1) : oU x = x / 2 := by unfold oU; rw [if_neg h]
theorem Tv (x : Nat) (w : World) (hx : x < 4294967296) :
  Calls Tryz.prog 173 #[.int .u32 x] w fun e w' => e = .returned (.int .u32 (nN 8 x)) /\ w = w' := by
 go_enter Tryz.func173, Tryz.ntmps173
 go_wp2
 go_loop [0, 4] (fun v i => ∃ j : Nat, j <= 8 /\ i = .int .i64 j /\ v = .int .u32 (nN j x)) (fun _ i => 8 - (intOf i).toNat)
 case atStart => exact ⟨0, Nat.zero_le _, rfl, rfl⟩
 case round =>
  obtain ⟨j, hj, rfl, rfl⟩ := hrel
  by_cases hlt : j < 8
  ·have hy := Br j hx
   have hs : nN (j + 1) x = oU (nN j x) := rfl
   have HS := Lib.hid hs
   clear hs
   generalize nN j x = y at *
   by_cases ho : y % 2 = 1
   ·have e1 : (bits .and .u32 (y : Int) 1 != 0) = true := by rw [Lx y hy, ho]; rfl
    have HO := Lib.hid (Jm ho)
    clear ho
    go_wp2
    go_round
    case rel => exact ⟨j + 1, by omega, by go_num, by rw [HS.out, HO.out, Bs, Ol y hy]⟩
    case measure => simp [intOf]; omega
   ·have e1 : (bits .and .u32 (y : Int) 1 != 0) = false := by rw [Lx y hy, show y % 2 = 0 by omega]; rfl
    have HO := Lib.hid (Gb ho)
    clear ho
    go_wp2
    go_round
    case rel => exact ⟨j + 1, by omega, by go_num, by rw [HS.out, HO.out, Bs]⟩
    case measure => simp [intOf]; omega
  ·obtain rfl : j = 8 := by omega
   go_wp2
   go_ret
   exact ⟨rfl, rfl⟩
theorem Om (x : Nat) (b : UInt8) (h : x < 4294967296) : bits .xor .u32 (x : Int) ((b.toNat : Int) % 4294967296) = ((x ^^^ b.toNat : Nat) : Int) := by
 have hb := b.toNat_lt
 rw [Int.emod_eq_of_lt (by omega) (by omega), u32_xor_nat x b.toNat h (by omega)]
theorem Oo {x : ByteArray} {k : Nat} (s : Nat) (hk : k < x.size) : fF s (x.data.toList.take (k + 1)) = sJ (fF s (x.data.toList.take k)) x[k] := by
 rw [List.take_succ_eq_append_getElem (by rw [Array.length_toList]; exact hk), Dd]
 rfl
theorem yJ (x : Nat) (b : UInt8) : sJ x b = nN 8 (x ^^^ b.toNat) := rfl
theorem Tw (x : Nat) (h : x < 4294967296) : bits .xor .u32 (x : Int) 4294967295 = ((x ^^^ 4294967295 : Nat) : Int) := by
 show bits .xor .u32 (x : Int) ((4294967295 : Nat) : Int) = _
 rw [u32_xor_nat x 4294967295 h (by omega)]
theorem Tx (l : List ByteArray) : ((fF 4294967295 (aW l) ^^^ 4294967295 : Nat) : Int) = (tB (aW l) : Int) := rfl
theorem Ty (A : Option Addr) (n c : Nat) (xs : List ByteArray) (w : World) (hn : xs.length = n) (hx : dL w w.heap.size A xs) (hlen : xs.length <= 140737488351232) (hsz : ∀ x ∈ xs, x.size <= 140737488351232) :
  Calls Tryz.prog 131 #[.slice A n c] w fun e w' => e = .returned (.int .u32 (tB (aW xs))) /\ w = w' := by
 have HX := Lib.hid hx
 have HZ := Lib.hid hsz
 rw [hn] at hlen
 have HN := Lib.hid hn
 clear hx hsz hn
 go_enter Tryz.func131, Tryz.ntmps131
 go_wp2
 go_loop [3, 9] (fun v i => ∃ j : Nat, j <= n /\ i = .int .i64 j /\ v = .int .u32 (fF 4294967295 (aW (xs.take j)))) (fun _ i => n - (intOf i).toNat)
 case atStart => exact ⟨0, Nat.zero_le _, rfl, rfl⟩
 case round =>
  obtain ⟨j, hj, rfl, rfl⟩ := hrel
  have hs := qV (aW (xs.take j)) (x := 4294967295) (by omega)
  by_cases hlt : j < n
  ·have hxl : j < xs.length := by rw [HN.out]; exact hlt
   obtain ⟨b, off, hA, hbB, hc⟩ := HX.out (by omega)
   obtain ⟨x, hx⟩ : ∃ x, x = xs[j] := ⟨_, rfl⟩
   have hxj : xs[j]? = some x := by rw [hx]; exact List.getElem?_eq_getElem hxl
   have hcx : w.cell? ⟨b, off + j, none⟩ = some (.string x) := hc j x hxj
   have hsx := HZ.out x (by rw [hx]; exact List.getElem_mem hxl)
   have E1 := Lib.hid (gM hxj)
   clear hxj hc hx
   subst hA
   obtain ⟨s, hs0⟩ : ∃ s, s = fF 4294967295 (aW (xs.take j)) := ⟨_, rfl⟩
   rw [<- hs0] at hs ⊢
   have HS := Lib.hid hs0
   clear hs0
   go_wp2
   go_loop [3, 15] (fun v i => ∃ k : Nat, k <= x.size /\ i = .int .i64 k /\ v = .int .u32 (fF s (x.data.toList.take k))) (fun _ i => x.size - (intOf i).toNat)
   case atStart => exact ⟨0, Nat.zero_le _, rfl, rfl⟩
   case round =>
    obtain ⟨k, hk, rfl, rfl⟩ := hrel
    have ht := qV (x.data.toList.take k) hs
    by_cases hkx : k < x.size
    ·have hf := Oo s hkx
     obtain ⟨t, ht0⟩ : ∃ t, t = fF s (x.data.toList.take k) := ⟨_, rfl⟩
     rw [<- ht0] at ht hf ⊢
     have HF := Lib.hid hf
     have HB := Lib.hid (Om t x[k] ht)
     have hl := uY x[k] ht
     clear ht0 hf
     go_wp2_with fail
     rw [HB.out]
     refine (Tv _ _ hl).mono ?_
     rintro e w1 ⟨rfl, rfl⟩
     go_wp2_with fail
     go_round
     case rel => exact ⟨k + 1, by omega, by go_num, by rw [HF.out, yJ]⟩
     case measure => simp [intOf]; omega
    ·have hk2 : x.data.toList.take k = x.data.toList := List.take_of_length_le (by rw [Array.length_toList]; show x.size <= k; omega)
     rw [hk2]
     clear hk2
     go_wp2
     go_round
     case rel => exact ⟨j + 1, by omega, by go_num, by rw [E1.out, oV, HS.out]⟩
     case measure => simp [intOf]; omega
  ·obtain rfl : j = n := by omega
   have htk : xs.take j = xs := List.take_of_length_le (by rw [HN.out]; exact Nat.le_refl _)
   rw [htk] at hs ⊢
   have HL := Lib.hid (Tw _ hs)
   clear htk
   go_wp2
   go_ret
   exact ⟨Xl (by rw [HL.out, Tx]), rfl⟩
def Gc (n : Int) (l : List UInt8) : Bool := decide ((l.length : Int) <= n)
theorem Xm (n : Int) (A : Option Addr) (m c : Nat) (xs : List ByteArray) (w : World) (hm : xs.length = m) (hx : dL w w.heap.size A xs) (hlen : xs.length <= 140737488351232) (hsz : ∀ x ∈ xs, x.size <= 140737488351232) (h0 : 0 <= n) (h1 : n <= 65536) :
  Calls Tryz.prog 129 #[.int .i64 n, .slice A m c] w fun e w' => e = .returned (.bool (Gc n (aW xs))) /\ w = w' := by
 have HX := Lib.hid hx
 have HZ := Lib.hid hsz
 rw [hm] at hlen
 have HM := Lib.hid hm
 clear hx hsz hm
 go_enter Tryz.func129, Tryz.ntmps129
 go_wp2
 go_loop [0, 9] (fun v i => ∃ (j r : Nat), j <= m /\ i = .int .i64 j /\ v = .int .i64 r /\ r + (aW (xs.take j)).length = n.toNat) (fun _ i => m - (intOf i).toNat)
 case atStart => exact ⟨0, n.toNat, Nat.zero_le _, rfl, by rw [Int.toNat_of_nonneg h0], by simp [aW]⟩
 case round =>
  obtain ⟨j, r, hj, rfl, rfl, hr⟩ := hrel
  have hrb : r <= 65536 := by omega
  have HR := Lib.hid hr
  clear hr
  by_cases hlt : j < m
  ·have hxl : j < xs.length := by rw [HM.out]; exact hlt
   obtain ⟨b, off, hA, hbB, hc⟩ := HX.out (by omega)
   obtain ⟨x, hx⟩ : ∃ x, x = xs[j] := ⟨_, rfl⟩
   have hxj : xs[j]? = some x := by rw [hx]; exact List.getElem?_eq_getElem hxl
   have hcx : w.cell? ⟨b, off + j, none⟩ = some (.string x) := hc j x hxj
   have hsx := HZ.out x (by rw [hx]; exact List.getElem_mem hxl)
   have E1 := Lib.hid (gM hxj)
   have E2 := Lib.hid (kH hxj)
   clear hxj hc hx
   subst hA
   by_cases hbig : r < x.size
   ·have hno : Gc n (aW xs) = false := decide_eq_false (by have := E2.out; have := HR.out; omega)
    have HNO := Lib.hid hno
    clear hno
    go_wp2
    go_ret
    rw [HNO.out]
    exact ⟨rfl, rfl⟩
   ·have hsm : x.size <= r := by omega
    clear hbig
    go_wp2
    go_round
    case rel => exact ⟨j + 1, r - x.size, by omega, by go_num, by rw [Int.ofNat_sub hsm], by rw [E1.out, List.length_append, <- Lib.size_eq]; have := HR.out; omega⟩
    case measure => simp [intOf]; omega
  ·obtain rfl : j = m := by omega
   have htk : xs.take j = xs := List.take_of_length_le (by rw [HM.out]; exact Nat.le_refl _)
   have hyes : Gc n (aW xs) = true := decide_eq_true (by have := HR.out; rw [htk] at this; omega)
   have HYES := Lib.hid hyes
   clear htk hyes
   go_wp2
   go_ret
   rw [HYES.out]
   exact ⟨rfl, rfl⟩
set_option maxRecDepth 100000
set_option maxHeartbeats 1000000
def kT (n : Int) (l : List UInt8) : Value := .tuple #[.string ⟨(oW n l).1.toArray⟩, .int .i64 (oW n l).2]
theorem Tr (xs : List ByteArray) : (Wr.mk [] 0).raws xs = ⟨aW xs, 0⟩ := by unfold Wr.raws Wr.lay; rw [if_pos rfl]; rfl
theorem Xj {n : Int} {l : List UInt8} (h1 : n <= 65536) (h : (l.length : Int) <= n - 4) : (Wr.mk l 0).pad (n - 4) = ⟨gU n l, 0⟩ := by
 unfold Wr.pad
 rw [if_neg (by omega), if_neg (by simp only []; omega)]
 unfold Wr.lay
 rw [if_pos rfl]
 rfl
theorem Ts (l : List UInt8) {k : Nat} (h : k < 4294967296) : (Wr.mk l 0).nums 4 [(k : Int)] = ⟨l ++ aD 4 k, 0⟩ := by
 have hf : cO 4 [(k : Int)] = true := by
  unfold cO
  rw [List.all_cons, List.all_nil, Bool.and_true, fR]
  omega
 unfold Wr.nums
 rw [if_pos hf]
 unfold Wr.lay
 rw [if_pos rfl]
 have e : aO 4 [(k : Int)] = aD 4 k := by unfold aO; rw [List.flatMap_cons, List.flatMap_nil, List.append_nil]; rfl
 rw [e]
theorem Oj {n : Int} {l : List UInt8} (h : (l.length : Int) <= n) : Gc n l = true := decide_eq_true h
theorem Tt {n : Int} {l : List UInt8} (h : ¬ (l.length : Int) <= n) : Gc n l = false := decide_eq_false h
theorem Tu (n : Int) (A : Option Addr) (m c : Nat) (l : List UInt8) (w : World) (h : n < 4 \/ 65536 < n) :
  Calls Tryz.prog 86 #[.int .i64 n, .slice A m c] w fun e w' => e = .returned (kT n l) /\ w = w' := by
 have E : kT n l = .tuple #[.string .empty, .int .i64 1] := by unfold kT; rw [Oi h]; rfl
 rw [E]
 clear E
 by_cases h1 : n < 4
 ·go_enter Tryz.func86, Tryz.ntmps86
  go_wp2_with fail
  go_ret2
  exact ⟨rfl, rfl⟩
 ·have h2 : 65536 < n := by omega
  clear h
  go_enter Tryz.func86, Tryz.ntmps86
  go_wp2_with fail
  go_ret2
  exact ⟨rfl, rfl⟩
theorem Xk (n : Int) (A : Option Addr) (m c : Nat) (xs : List ByteArray) (w : World) (hm : xs.length = m) (hx : dL w w.heap.size A xs) (hf : oD xs) (h0 : 4 <= n) (h1 : n <= 65536) :
  Calls Tryz.prog 86 #[.int .i64 n, .slice A m c] w fun e w' => e = .returned (kT n (aW xs)) /\ Below w.heap.size w w' := by
 have hl : xs.length <= 140737488351232 := by have := hf.1; omega
 have hz : ∀ x ∈ xs, x.size <= 140737488351232 := fun x hx => by have := hf.2 x hx; omega
 have hs : (aW xs).length <= 140737488351232 := by
  have := Hp xs 100000 hf.2
  have := Nat.mul_le_mul_right 100000 hf.1
  omega
 have HFit := Lib.hid (Xm (n - 4) A m c xs w hm hx hl hz (by omega) (by omega))
 have HX := Lib.hid hx
 have HM := Lib.hid hm
 have HS := Lib.hid hs
 have HL := Lib.hid hl
 clear hx hf hm hz hs hl
 by_cases hbig : (↑(aW xs).length : Int) <= n - 4
 ·have E : kT n (aW xs) = .tuple #[.string ⟨(gU n (aW xs) ++ aD 4 (tB (gU n (aW xs)))).toArray⟩, .int .i64 0] := by unfold kT; rw [sK h0 h1 hbig]
  rw [E]
  have HR := Lib.hid (Oj hbig)
  have hbl := lU hbig
  have HP := Lib.hid (Xj h1 hbig)
  obtain ⟨B, hB⟩ : ∃ B, B = gU n (aW xs) := ⟨_, rfl⟩
  rw [<- hB] at hbl ⊢
  have hbl2 : B.length <= 65532 := by omega
  have HB := Lib.hid hB
  clear E hB hbl hbig
  go_enter Tryz.func86, Tryz.ntmps86
  go_wp2_with fail
  refine HFit.out.mono ?_
  rintro e w1 ⟨rfl, rfl⟩
  rw [HR.out]
  go_wp2_with fail
  with_reducible refine (Cv w.heap.size ⟨[], 0⟩ A m c xs _ HM.out ?_ HL.out HS.out ?_ (by simp)).mono ?_
  ·exact (HX.out.below ((Below.refl _ _).alloc (Nat.le_refl _) _)).more (by simp)
  ·exact bF.new w
  rintro e w1 ⟨rfl, h2, hg2⟩
  have hb2 : Below w.heap.size w w1 := aH ((Below.refl _ w).alloc (Nat.le_refl _) _) hg2 (Nat.le_refl _)
  rw [Tr] at h2
  clear hg2
  go_wp2_with fail
  with_reducible refine (Ln w.heap.size ⟨aW xs, 0⟩ (n - 4) _ h2 HS.out).mono ?_
  rintro e w2 ⟨rfl, h3, hg3⟩
  have hb3 : Below w.heap.size w w2 := aH hb2 hg3 (Nat.le_refl _)
  rw [HP.out, <- HB.out] at h3
  clear hg3 hb2 h2
  go_wp2_with fail
  with_reducible refine (nE w.heap.size ⟨B, 0⟩ _ h3 (Wr.ok_zero _) (by simp only []; omega)).mono ?_
  rintro e w3 ⟨rfl, h4, hb4⟩
  have hb5 : Below w.heap.size w w3 := hb3.trans (hb4.mono hb3.size)
  clear hb4 hb3 h3
  go_wp2_with fail
  with_reducible refine (Ty (some ⟨w3.heap.size, 0, none⟩) 1 1 [⟨B.toArray⟩] _ rfl ?_ (by simp) ?_).mono ?_
  ·exact jU w3 _ [⟨B.toArray⟩] _ rfl rfl
  ·intro x hx
   rw [List.mem_singleton.1 hx, Lib.size_eq]
   show B.length <= _
   omega
  rintro e w4 ⟨rfl, rfl⟩
  have e1 : tB (aW [⟨B.toArray⟩]) = tB B := by rw [eW]
  have hcl := Jk B
  rw [e1]
  have HW := Lib.hid (Ts B hcl)
  obtain ⟨K, hK⟩ : ∃ K, K = tB B := ⟨_, rfl⟩
  rw [<- hK] at hcl ⊢
  have HK := Lib.hid hK
  clear e1 hK
  go_wp2_with fail
  with_reducible refine (Sg w.heap.size ⟨B, 0⟩ (some ⟨w3.heap.size + 1, 0, none⟩) 1 1 [(K : Int)] _ rfl ?_ (by simp) ?_ ?_ (by simp only []; omega)).mono ?_
  ·exact Wq _ _ [(K : Int)] _ (by simp) rfl
  ·exact gP (by omega) (by omega)
  ·exact h4.below (((Below.refl _ w3).alloc (Nat.le_refl _) _).alloc (by simp) _)
  rintro e w5 ⟨rfl, h6, hg6⟩
  have hb6 : Below w.heap.size w w5 := aH ((hb5.alloc hb5.size _).alloc (by have := hb5.size; simp; omega) _) hg6 (Nat.le_refl _)
  rw [HK.out, HW.out] at h6
  clear hg6 h4 hb5
  go_wp2_with fail
  with_reducible refine (nE w.heap.size ⟨B ++ aD 4 (tB B), 0⟩ _ h6 (Wr.ok_zero _) (by simp only [List.length_append, aL]; omega)).mono ?_
  rintro e w6 ⟨rfl, h7, hb7⟩
  have hb8 : Below w.heap.size w w6 := hb6.trans (hb7.mono hb6.size)
  clear hb7 h7 h6 hb6
  go_wp2_with fail
  go_ret2
  exact ⟨rfl, hb8⟩
 ·have E : kT n (aW xs) = .tuple #[.string .empty, .int .i64 2] := by unfold kT; rw [Jl h0 h1 (by omega)]; rfl
  rw [E]
  have HR := Lib.hid (Tt hbig)
  clear E hbig
  go_enter Tryz.func86, Tryz.ntmps86
  go_wp2_with fail
  refine HFit.out.mono ?_
  rintro e w1 ⟨rfl, rfl⟩
  rw [HR.out]
  go_wp2_with fail
  go_ret2
  exact ⟨rfl, Below.refl _ _⟩
theorem yI (n : Int) (A : Option Addr) (m c : Nat) (xs : List ByteArray) (w : World) (hm : xs.length = m) (hx : dL w w.heap.size A xs) (hf : oD xs) :
  Calls Tryz.prog 86 #[.int .i64 n, .slice A m c] w fun e w' => e = .returned (kT n (aW xs)) /\ Below w.heap.size w w' := by
 by_cases h : n < 4 \/ 65536 < n
 ·exact (Tu n A m c (aW xs) w h).mono fun e w' ⟨he, hw⟩ => ⟨he, hw ▸ Below.refl _ _⟩
 ·exact Xk n A m c xs w hm hx hf (by omega) (by omega)
end Go.Proofs.YtingkbeifohihaaGreatDoor
