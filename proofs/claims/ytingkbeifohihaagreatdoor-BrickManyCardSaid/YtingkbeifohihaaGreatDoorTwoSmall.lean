/-
  SHA-256: words turned, the numbers of the rounds: the document's own.
-/
import Derived.Test.YtingkbeifohihaaGreatDoorBookTexts
import Derived.Test.YtingkbeifohihaaGreatDoorRegionApp
import Derived.Test.YtingkbeifohihaaGreatDoorBytes
namespace Go.Proofs.YtingkbeifohihaaGreatDoor
open Go.RowKit
set_option maxRecDepth 100000
set_option maxHeartbeats 4000000
def Zb : St := ⟨0, 0, 0, 0, 0⟩
theorem Wg (A : Option Addr) (m c : Nat) (xs : List ByteArray) (w : World) (hm : xs.length = m) (hx : dL w w.heap.size A xs) (hl : m <= 1000000) (hs : (aW xs).length <= 1000000) :
  Calls Tryz.prog 101 #[.slice A m c] w fun e w' => e = .returned (.string ⟨(Cn (aW xs)).toArray⟩) /\ Below w.heap.size w w' := by
 have HX := Lib.hid hx
 have HM := Lib.hid hm
 have HS := Lib.hid hs
 clear hx hm hs
 obtain ⟨Z, hZ⟩ : ∃ Z, Z = aN Zb (fun _ => 0) 0 := ⟨_, rfl⟩
 have hz : ∀ w, (zeroValue 207).run Tryz.prog w = .ok (.agg Z) w := fun w => by rw [hZ]; kernel_rfl
 obtain ⟨D, hD⟩ : ∃ D, D = aN St.init (fun _ => 0) 0 := ⟨_, rfl⟩
 have hZD : D.size = Z.size := by rw [hZ, hD, fT, fT]
 have h1 : D.all (·.oneCell') = true := by rw [hD]; decide +kernel
 have hsz : ∀ w, (sizeOf 207).run Tryz.prog w = .ok D.size w := fun w => by rw [hD, fT]; kernel_rfl
 go_enter Tryz.func101, Tryz.ntmps101
 go_upto_region 1 with fail
 refine wp_region_lit ?_
 refine aK (v := .agg (aJ St.init)) (w' := w) rfl (by kernel_rfl) ?_
 refine aK (v := .agg D) (w' := w) rfl (by rw [hD]; kernel_rfl) ?_
 refine aK (v := .pointer (some ⟨w.heap.size, 0, none⟩)) (w' := w.alloc (.cells Z 207)) rfl (by go_simp) ?_
 refine cL rfl rfl rfl rfl (cN (aG.new w _ Z) hZD h1 hsz) ?_
 have hb1 : Below w.heap.size w ((w.alloc (.cells Z 207)).setRow w.heap.size D) := below_setRow ((Below.refl _ _).alloc (Nat.le_refl _) _) (Nat.le_refl _) _
 have hB : aG ((w.alloc (.cells Z 207)).setRow w.heap.size D) w.heap.size 207 D := bQ (aG.new w _ Z) D
 obtain ⟨W1, hW1⟩ : ∃ W1, W1 = (w.alloc (.cells Z 207)).setRow w.heap.size D := ⟨_, rfl⟩
 rw [<- hW1] at hb1 hB
 rw [<- hW1]
 have HD : Hid (rP W1 w.heap.size []) := Lib.hid ⟨fun _ => 0, fun t h => (by cases h), by rw [hD] at hB; exact hB⟩
 have HB := Lib.hid hb1
 clear hW1 hb1 hB hD hZ hZD h1 hsz hz
 go_wp2_with fail
 go_loopw [10] (fun i wr => ∃ j : Nat, j <= m /\ i = .int .i64 j /\ rP wr w.heap.size (aW (xs.take j)) /\ Below w.heap.size w wr) (fun i _ => m - (intOf i).toNat)
 case atStart => exact ⟨0, Nat.zero_le _, rfl, HD.out, HB.out⟩
 case round =>
  clear HD HB
  obtain ⟨j, hj, rfl, hD, hbr⟩ := hrel
  have HD := Lib.hid hD
  have HBR := Lib.hid hbr
  clear hD
  by_cases hlt : j < m
  ·have hxl : j < xs.length := by rw [HM.out]; exact hlt
   obtain ⟨b, off, hA, hbB, hc⟩ := HX.out (by omega)
   obtain ⟨x, hx⟩ : ∃ x, x = xs[j] := ⟨_, rfl⟩
   have hxj : xs[j]? = some x := by rw [hx]; exact List.getElem?_eq_getElem hxl
   have hcx : wr.cell? ⟨b, off + j, none⟩ = some (.string x) := (hbr.cell (p := ⟨b, off + j, none⟩) hbB).trans (hc j x hxj)
   have E1 := Lib.hid (gM hxj)
   have hlen := kH hxj
   have hS := HS.out
   have HT := Lib.hid (fun w1 hd => Ar w.heap.size (aW (xs.take j)) x w1 hd (by omega))
   clear hxj hc hx hlen hS hbr
   subst hA
   go_wp2_with (go_at_call 149; refine (HT.out _ HD.out).mono ?_; rintro e w1 ⟨rfl, hd1, hg1⟩)
   have HD1 := Lib.hid hd1
   have HB1 := Lib.hid (aH HBR.out hg1 (Nat.le_refl _))
   clear hd1 hg1
   go_wp2_with fail
   go_roundw
   case rel => exact ⟨j + 1, by omega, by go_num, by rw [E1.out]; exact HD1.out, HB1.out⟩
   case measure => simp [intOf] <;> omega
  ·obtain rfl : j = m := by omega
   clear hbr
   have HD2 : Hid (rP wr w.heap.size (aW xs)) := Lib.hid (by
    have := HD.out
    rwa [List.take_of_length_le (by rw [HM.out]; exact Nat.le_refl _)] at this)
   clear HD
   obtain ⟨M, hM⟩ : ∃ M, M = aW xs := ⟨_, rfl⟩
   rw [<- hM] at HD2 HS
   have HMM := Lib.hid hM
   clear hM
   obtain ⟨n, hn⟩ : ∃ n, n = M.length := ⟨_, rfl⟩
   have hcn : wr.cell? ⟨w.heap.size, 69, none⟩ = some (.int .i64 (n : Int)) := by
    obtain ⟨p, _, hb⟩ := HD2.out
    rw [hb.cell, hn]
    unfold aN
    rw [List.getElem?_toArray]
    exact kM
   have hn1 : n <= 1000000 := by rw [hn]; exact HS.out
   have HN := Lib.hid hn
   have HP := Lib.hid (fun w => Ej n w (by omega))
   have hpl : (gC n).length <= 72 := by have := jZ n; rw [jA]; omega
   obtain ⟨PB, hPB⟩ : ∃ PB : ByteArray, PB = ⟨(gC n).toArray⟩ := ⟨_, rfl⟩
   have hps : PB.size <= 72 := by rw [hPB]; show (gC n).toArray.size <= 72; simpa using hpl
   have hpd : PB.data.toList = gC n := by rw [hPB]
   rw [<- hPB] at HP
   have HPD := Lib.hid hpd
   have HT := Lib.hid (fun w1 hd => Ar w.heap.size M PB w1 hd (by omega))
   have HG := Lib.hid (show w.heap.size < wr.heap.size by obtain ⟨p, _, hb⟩ := HD2.out; exact hb.lt)
   clear hn hpl hPB hps hpd hn1
   go_wp2_with (go_at_call 150; refine (HP.out _).mono ?_; rintro e w1 ⟨rfl, hb1⟩)
   have HB1 := Lib.hid hb1
   have HD3 : Hid (rP w1 w.heap.size M) := Lib.hid (by
    obtain ⟨p, hp, hb⟩ := HD2.out
    exact ⟨p, hp, hb.below HB1.out hb.lt⟩)
   clear hb1 hcn
   go_wp2_with (go_at_call 149; refine (HT.out _ HD3.out).mono ?_; rintro e w2 ⟨rfl, hd2, hg2⟩)
   obtain ⟨p, hp, hb⟩ := hd2
   have HBk := Lib.hid hb
   have HG2 := Lib.hid hg2
   clear hp hb hg2
   go_wp2_with (go_at_call 151; refine (Rk _ _ _ _ _ HBk.out).mono ?_; rintro e w3 ⟨rfl, hb3⟩)
   have HB3 := Lib.hid hb3
   clear hb3
   go_wp2_with fail
   go_ret
   refine ⟨?_, ?_⟩
   ·rw [<- HMM.out]
    unfold Cn
    rw [<- HN.out, <- HPD.out, List.length_append, <- Lib.size_eq, <- HN.out]
    rfl
   ·have k1 : Below w.heap.size w w1 := HBR.out.trans (HB1.out.mono (Nat.le_of_lt HG.out))
    have k2 : Below w.heap.size w w2 := aH k1 HG2.out (Nat.le_refl _)
    exact k2.trans (HB3.out.mono k2.size)
set_option maxRecDepth 100000
set_option maxHeartbeats 2000000
theorem xL (n : Nat) (w : World) (hn : n <= 1099511627776) :
  Calls Tryz.prog 71 #[.int .i64 n] w fun e w' => e = .returned (.string ⟨(gC n).toArray⟩) /\ Below w.heap.size w w' := by
 obtain ⟨z, hz⟩ : ∃ z, z = oE n := ⟨_, rfl⟩
 have hz64 : z < 64 := by rw [hz]; exact jZ n
 have hm1 : Int.tmod (n : Int) 64 = ((n % 64 : Nat) : Int) := by rw [Int.tmod_eq_emod_of_nonneg (by omega)]; omega
 have hm2 : Int.tmod (119 - ((n % 64 : Nat) : Int)) 64 = (z : Int) := by rw [Int.tmod_eq_emod_of_nonneg (by omega), hz]; unfold oE; omega
 obtain ⟨q, hq⟩ : ∃ q, q = n % 64 := ⟨_, rfl⟩
 rw [<- hq] at hm1 hm2
 have hq64 : q < 64 := by omega
 obtain ⟨N, hN⟩ : ∃ N, N = 8 * n := ⟨_, rfl⟩
 have hNI : (8 : Int) * (n : Int) = (N : Int) := by omega
 have hNs : N <= 8796093022208 := by omega
 obtain ⟨Z, hZ⟩ : ∃ Z, Z = aY z := ⟨_, rfl⟩
 have hZs : Z.size = z := by rw [hZ]; exact gD z
 obtain ⟨B, hB⟩ : ∃ B : ByteArray, B = ⟨(aX N 8).toArray⟩ := ⟨_, rfl⟩
 have hBs : B.size = 8 := by rw [hB]; show (aX N 8).toArray.size = 8; simp [cF]
 obtain ⟨A, hA⟩ : ∃ A, A = (⟨#[128]⟩ : ByteArray) ++ Z := ⟨_, rfl⟩
 have hAs : A.size = z + 1 := by rw [hA, ByteArray.size_append, hZs]; show 1 + z = z + 1; omega
 have HR : Hid (A ++ B = ⟨(gC n).toArray⟩) := Lib.hid (by
  rw [hA, hB, hZ, hN, hz]
  apply ByteArray.ext
  rw [ByteArray.data_append, ByteArray.data_append]
  refine Array.toList_inj.1 ?_
  rw [Array.toList_append, Array.toList_append, mZ]
  rfl)
 have HZ : Hid (∀ w, Calls Tryz.prog 39 #[.int .i64 (z : Int)] w fun e w' => e = .returned (.string Z) /\ Below w.heap.size w w') := Lib.hid (fun w => by rw [hZ]; exact Ao z w (by omega))
 have HB : Hid (∀ w, Calls Tryz.prog 74 #[.int .u64 (N : Int), .int .i64 8] w fun e w' => e = .returned (.string B) /\ Below w.heap.size w w') := Lib.hid (fun w => by rw [hB]; exact wT N 8 w (by omega) (by omega) (by omega))
 have ha : (⟨#[128]⟩ : ByteArray) ++ Z = A := hA.symm
 have hl1 : (⟨#[128]⟩ : ByteArray).size + Z.size <= 9223372036854775807 := by rw [hZs]; show 1 + z <= _; omega
 have hl2 : A.size + B.size <= 9223372036854775807 := by omega
 clear hz hq hN hZ hB hA hZs hBs hAs
 go_enter Tryz.func71, Tryz.ntmps71
 go_wp2_with (go_at_call 39; refine (HZ.out _).mono ?_; rintro e w1 ⟨rfl, hb1⟩)
 go_wp2_with (go_at_call 74; refine (HB.out _).mono ?_; rintro e w2 ⟨rfl, hb2⟩)
 go_wp2_with fail
 go_ret
 exact ⟨by rw [<- HR.out]; rfl, hb1.trans (hb2.mono hb1.size)⟩
open Go
def zS (e : Nat) : Nat := bY e 26 ^^^ bY e 21 ^^^ bY e 7
def Cs (a : Nat) : Nat := bY a 30 ^^^ bY a 19 ^^^ bY a 10
def rU (x : Nat) : Nat := bY x 25 ^^^ bY x 14 ^^^ x >>> 3
def xM (x : Nat) : Nat := bY x 15 ^^^ bY x 13 ^^^ x >>> 10
def Wk (e f g : Nat) : Nat := (e &&& f) ^^^ ((4294967295 ^^^ e) &&& g)
def Ib (a b c : Nat) : Nat := (a &&& b) ^^^ (a &&& c) ^^^ (b &&& c)
def oI : List Nat := [1116352408, 1899447441, 3049323471, 3921009573, 961987163, 1508970993, 2453635748, 2870763221, 3624381080, 310598401, 607225278, 1426881987, 1925078388, 2162078206, 2614888103, 3248222580] ++ [3835390401, 4022224774, 264347078, 604807628, 770255983, 1249150122, 1555081692, 1996064986, 2554220882, 2821834349, 2952996808, 3210313671, 3336571891, 3584528711, 113926993, 338241895] ++ [666307205, 773529912, 1294757372, 1396182291, 1695183700, 1986661051, 2177026350, 2456956037, 2730485921, 2820302411, 3259730800, 3345764771, 3516065817, 3600352804, 4094571909, 275423344] ++ [430227734, 506948616, 659060556, 883997877, 958139571, 1322822218, 1537002063, 1747873779, 1955562222, 2024104815, 2227730452, 2361852424, 2428436474, 2756734187, 3204031479, 3329325298]
structure S8 where
 a : Nat
 b : Nat
 c : Nat
 d : Nat
 e : Nat
 f : Nat
 g : Nat
 h : Nat
def S8.words (s : S8) : List Nat := [s.a, s.b, s.c, s.d, s.e, s.f, s.g, s.h]
def S8.ok (s : S8) : Prop := (s.a < 4294967296 /\ s.b < 4294967296 /\ s.c < 4294967296 /\ s.d < 4294967296) /\ (s.e < 4294967296 /\ s.f < 4294967296 /\ s.g < 4294967296 /\ s.h < 4294967296)
def Mz (k x : Nat) (s : S8) : Nat := bB (bB (bB (bB s.h (zS s.e)) (Wk s.e s.f s.g)) k) x
def Na (s : S8) : Nat := bB (Cs s.a) (Ib s.a s.b s.c)
def Et (k x : Nat) (s : S8) : S8 := ⟨bB (Mz k x s) (Na s), s.a, s.b, s.c, bB s.d (Mz k x s), s.e, s.f, s.g⟩
def iN (l : List Nat) : Nat -> S8 -> S8
 | 0, s => s
 | n + 1, s => Et (oI.getD n 0) (l.getD n 0) (iN l n s)
def kO (p : Nat -> UInt8) (l : List Nat) (t : Nat) : Nat :=
 if t < 16 then mK p t else bB (bB (bB (l.getD (t - 16) 0) (l.getD (t - 7) 0)) (rU (l.getD (t - 15) 0))) (xM (l.getD (t - 2) 0))
def bT (p : Nat -> UInt8) : Nat -> List Nat
 | 0 => []
 | n + 1 => bT p n ++ [kO p (bT p n) n]
def S8.plus (s z : S8) : S8 := ⟨bB s.a z.a, bB s.b z.b, bB s.c z.c, bB s.d z.d, bB s.e z.e, bB s.f z.f, bB s.g z.g, bB s.h z.h⟩
def Eu (p : Nat -> UInt8) (s : S8) : S8 := s.plus (iN (bT p 64) 64 s)
def S8.init : S8 := ⟨1779033703, 3144134277, 1013904242, 2773480762, 1359893119, 2600822924, 528734635, 1541459225⟩
def hU (m : List UInt8) : Nat -> S8
 | 0 => S8.init
 | k + 1 => Eu (bN m k) (hU m k)
def S8.text (s : S8) : List UInt8 := s.words.flatMap fun x => aX x 4
def zT (m : List UInt8) : List UInt8 := (hU (m ++ gC m.length) ((m ++ gC m.length).length / 64)).text
theorem jL {a b : Nat} (ha : a < 4294967296) (hb : b < 4294967296) : a ^^^ b < 4294967296 := Nat.xor_lt_two_pow (n := 32) ha hb
theorem iA (a : Nat) {b : Nat} (hb : b < 4294967296) : a &&& b < 4294967296 := Nat.and_lt_two_pow (n := 32) _ hb
theorem Ct {a : Nat} (n : Nat) (ha : a < 4294967296) : a >>> n < 4294967296 := by rw [Nat.shiftRight_eq_div_pow]; exact Nat.lt_of_le_of_lt (Nat.div_le_self _ _) ha
theorem Rz {k x : Nat} {s : S8} (h : s.ok) : (Et k x s).ok := ⟨⟨dU _ _, h.1.1, h.1.2.1, h.1.2.2.1⟩, ⟨dU _ _, h.2.1, h.2.2.1, h.2.2.2.1⟩⟩
theorem Bb (l : List Nat) (n : Nat) {s : S8} (h : s.ok) : (iN l n s).ok := by
 induction n with
 | zero => exact h
 | succ n ih => exact Rz ih
theorem Ev (s z : S8) : (s.plus z).ok := ⟨⟨dU _ _, dU _ _, dU _ _, dU _ _⟩, ⟨dU _ _, dU _ _, dU _ _, dU _ _⟩⟩
theorem xN : S8.init.ok := by unfold S8.ok S8.init; decide
theorem Ew (m : List UInt8) (k : Nat) : (hU m k).ok := by
 cases k with
 | zero => exact xN
 | succ k => exact Ev _ _
theorem Sa {p : Nat -> UInt8} {l : List Nat} (t : Nat) : kO p l t < 4294967296 := by
 unfold kO
 split
 ·exact Eb _ _
 ·exact dU _ _
theorem Bc (p : Nat -> UInt8) (n : Nat) : ∀ x ∈ bT p n, x < 4294967296 := by
 induction n with
 | zero => intro x hx; cases hx
 | succ n ih =>
   intro x hx
   unfold bT at hx
   rcases List.mem_append.1 hx with h | h
   ·exact ih x h
   ·rw [List.mem_singleton.1 h]; exact Sa n
theorem cD (p : Nat -> UInt8) (n : Nat) : (bT p n).length = n := by
 induction n with
 | zero => rfl
 | succ n ih => unfold bT; rw [List.length_append, ih]; rfl
theorem jD (p : Nat -> UInt8) (n : Nat) : bT p (n + 1) = bT p n ++ [kO p (bT p n) n] := rfl
theorem Ex {p q : Nat -> UInt8} (h : ∀ t, t < 64 -> p t = q t) (l : List Nat) (n : Nat) : kO p l n = kO q l n := by
 unfold kO
 by_cases hn : n < 16
 ·rw [if_pos hn, if_pos hn, uA h hn]
 ·rw [if_neg hn, if_neg hn]
theorem Cu {p q : Nat -> UInt8} (h : ∀ t, t < 64 -> p t = q t) (n : Nat) : bT p n = bT q n := by
 induction n with
 | zero => rfl
 | succ n ih => rw [jD, jD, ih, Ex h]
theorem qQ {p q : Nat -> UInt8} (h : ∀ t, t < 64 -> p t = q t) (s : S8) : Eu p s = Eu q s := by unfold Eu; rw [Cu h]
theorem nD (m : List UInt8) (k : Nat) : hU m (k + 1) = Eu (bN m k) (hU m k) := rfl
theorem Ey {m m' : List UInt8} (k : Nat) : (∀ i, i < 64 * k -> m.getD i 0 = m'.getD i 0) -> hU m k = hU m' k := by
 induction k with
 | zero => intro _; rfl
 | succ k ih =>
   intro h
   rw [nD, nD, ih (fun i hi => h i (by omega))]
   exact qQ (fun t ht => h _ (by omega)) _
theorem Nb (m s : List UInt8) (k : Nat) (h : 64 * k <= m.length) : hU (m ++ s) k = hU m k := Ey k fun i hi => wY m s i (by omega)
theorem rV (s : S8) : s.text.length = 32 := by unfold S8.text S8.words; simp [cF]
theorem Ez (m : List UInt8) : (zT m).length = 32 := rV _
theorem rW : oI.length = 64 := rfl
set_option maxRecDepth 100000
set_option maxHeartbeats 1000000
theorem fV (x n : Nat) (w : World) (hx : x < 4294967296) (hn : n = 7 \/ n = 10 \/ n = 13 \/ n = 14 \/ n = 15 \/ n = 19 \/ n = 21 \/ n = 25 \/ n = 26 \/ n = 30) :
  Calls Tryz.prog 73 #[.int .u32 x, .int .i64 n] w fun e w' => e = .returned (.int .u32 (bY x n)) /\ ∃ d, w' = w.drewN d := by
 rcases hn with rfl | rfl | rfl | rfl | rfl | rfl | rfl | rfl | rfl | rfl
 ·go_enter Tryz.func73, Tryz.ntmps73
  go_wp2_with fail
  go_quiet (fail)
  go_wp2
  go_ret
  exact ⟨bG (bK x 7 128 33554432 128 33554432 rfl rfl hx rfl rfl), _, rfl⟩
 ·go_enter Tryz.func73, Tryz.ntmps73
  go_wp2_with fail
  go_quiet (fail)
  go_wp2
  go_ret
  exact ⟨bG (bK x 10 1024 4194304 1024 4194304 rfl rfl hx rfl rfl), _, rfl⟩
 ·go_enter Tryz.func73, Tryz.ntmps73
  go_wp2_with fail
  go_quiet (fail)
  go_wp2
  go_ret
  exact ⟨bG (bK x 13 8192 524288 8192 524288 rfl rfl hx rfl rfl), _, rfl⟩
 ·go_enter Tryz.func73, Tryz.ntmps73
  go_wp2_with fail
  go_quiet (fail)
  go_wp2
  go_ret
  exact ⟨bG (bK x 14 16384 262144 16384 262144 rfl rfl hx rfl rfl), _, rfl⟩
 ·go_enter Tryz.func73, Tryz.ntmps73
  go_wp2_with fail
  go_quiet (fail)
  go_wp2
  go_ret
  exact ⟨bG (bK x 15 32768 131072 32768 131072 rfl rfl hx rfl rfl), _, rfl⟩
 ·go_enter Tryz.func73, Tryz.ntmps73
  go_wp2_with fail
  go_quiet (fail)
  go_wp2
  go_ret
  exact ⟨bG (bK x 19 524288 8192 524288 8192 rfl rfl hx rfl rfl), _, rfl⟩
 ·go_enter Tryz.func73, Tryz.ntmps73
  go_wp2_with fail
  go_quiet (fail)
  go_wp2
  go_ret
  exact ⟨bG (bK x 21 2097152 2048 2097152 2048 rfl rfl hx rfl rfl), _, rfl⟩
 ·go_enter Tryz.func73, Tryz.ntmps73
  go_wp2_with fail
  go_quiet (fail)
  go_wp2
  go_ret
  exact ⟨bG (bK x 25 33554432 128 33554432 128 rfl rfl hx rfl rfl), _, rfl⟩
 ·go_enter Tryz.func73, Tryz.ntmps73
  go_wp2_with fail
  go_quiet (fail)
  go_wp2
  go_ret
  exact ⟨bG (bK x 26 67108864 64 67108864 64 rfl rfl hx rfl rfl), _, rfl⟩
 ·go_enter Tryz.func73, Tryz.ntmps73
  go_wp2_with fail
  go_quiet (fail)
  go_wp2
  go_ret
  exact ⟨bG (bK x 30 1073741824 4 1073741824 4 rfl rfl hx rfl rfl), _, rfl⟩
def dM : Array Value := (oI.map fun x : Nat => Value.int .u32 (x : Int)).toArray
theorem rT {i : Nat} (h : i < 64) : dM[i]? = some (.int .u32 ((oI.getD i 0 : Nat) : Int)) := by
 unfold dM
 rw [List.getElem?_toArray, List.getElem?_map, List.getElem?_eq_getElem (by rw [rW]; exact h), List.getD_eq_getElem?_getD, List.getElem?_eq_getElem (by rw [rW]; exact h)]
 rfl
theorem Ry (w : World) :
  Calls Tryz.prog 75 #[] w fun e w' => e = .returned (.slice (some ⟨w.heap.size, 0, none⟩) 64 64) /\ w' = w.alloc (.cells dM 132) := by
 go_enter Tryz.func75, Tryz.ntmps75
 go_wp2_with fail
 go_ret
 exact ⟨rfl, rfl⟩
end Go.Proofs.YtingkbeifohihaaGreatDoor
