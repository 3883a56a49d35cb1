/-
  Package chain's Put. No statement is proved here.
-/
import Derived.Test.YtingkbeifohihaaGreatDoorOuts
import Derived.Test.YtingkbeifohihaaGreatDoorHeadNextOwn
import Derived.Test.YtingkbeifohihaaGreatDoorLinkSmall
import Derived.Deep.SlicePairs
import Derived.Deep.Slices
import Derived.Lib.SmallJoins
namespace Go.Proofs.YtingkbeifohihaaGreatDoor
open Go.ChangeShapes Go.WideShapes Go.ChangeAt Go.RowKit
open Go.WideMaps Go.WideElems
theorem Qj : Tryz.prog.cellsOf 3 = 1 := by kernel_rfl
structure Vf (w : World) (A : Option Addr) (m c : Nat) (l : List Int) : Prop where
 len : l.length = m
 lie : dZ w w.heap.size A l
 nil_ : A = none -> m = 0 /\ c = 0
 few : m <= 9223372036854775807
theorem Qk {H : Type} {enc : TypeId × Value -> H} {W : World} {a : Option Addr} {n c : Nat} {d : DataW H} {p : List MemPlace} (h : DataW.Trod enc Tryz.prog W 0 (fun _ => true) true 33 (.slice a n c) d p) :
  ∃ l : List Int, Vf W a n c l := by
 obtain ⟨fuel, hf⟩ := h
 rcases open_ints Tryz.underlying33 Tryz.underlying3 Qj hf with ⟨hcs, _⟩ | ⟨a', len, cap, zs, hcs, _, hl, hcap, hz, _, hc, hw⟩
 ·simp [Value.cells] at hcs
  obtain ⟨rfl, rfl, rfl⟩ := hcs
  exact ⟨[], rfl, dZ.nil _ _ _, fun _ => ⟨rfl, rfl⟩, by omega⟩
 ·simp [Value.cells] at hcs
  obtain ⟨rfl, rfl, rfl⟩ := hcs
  simp only [if_true] at hz
  have hmax : maxLen = 9223372036854775807 := rfl
  have hlen : (zs.take n).length = n := by rw [List.length_take]; omega
  refine ⟨zs.take n, hlen, ?_, (fun e => by cases e), by omega⟩
  intro hpos
  rw [hlen] at hpos
  obtain ⟨b, off, rfl, hb, hc'⟩ := Gq hc (by omega)
  refine ⟨b, off, rfl, hb, fun j x hx => ?_⟩
  rw [List.getElem?_take] at hx
  split at hx
  ·have := hc' j (by omega)
   rw [this, List.getD_eq_getElem?_getD, hx]
   rfl
  ·cases hx
open Go.RowKit
noncomputable def pH (H : List Int) : Nat := by classical exact if h : ∃ k, gS H k then h.choose else 0
theorem pI {n : Nat} {H : List Int} (ho : oZ n H) : gS H (pH H) := by
 have e := Ub ho
 unfold pH
 rw [dif_pos e]
 exact e.choose_spec
section
variable {N : Nat} {K : KD} {h : List ByteArray} {c : Nat}
end
section
variable {w0 w w' : World} {g gd m N : Nat} {K : KD} {h : List ByteArray} {c : Nat} {Ms : List MK}
end
theorem Kv (K : KD) : nW K K.F K.H = K := rfl
set_option maxRecDepth 100000
set_option maxHeartbeats 16000000
def Sm (gen tag : Int) (b : ByteArray) (n : Nat) (nx : Int) : LK := ⟨gen, tag, n, if n = 0 then 1 else 0, nx, jN b n, 0⟩
noncomputable def mQ (N : Nat) (gen tag : Int) (b : ByteArray) : Nat -> KD -> Int -> Option (KD × Int)
 | 0, K, nx => some (K, nx)
 | n + 1, K, nx => if pH K.H < N - 111 then mQ N gen tag b n (nJ K (pH K.H) (bs (Sm gen tag b n nx).text)) (pH K.H) else none
theorem Zf {gen tag : Int} {b : ByteArray} {n : Nat} {nx : Int} (hf : lR gen tag = true) (hn : n < 40) (hx : 0 <= nx /\ nx < 65536) : (Sm gen tag b n nx).Ok := by
 refine ⟨of_decide_eq_true hf, ⟨by show 0 <= (n : Int); omega, by show (n : Int) < 256; omega⟩, ?_, hx, ?_⟩
 ·show 0 <= (if n = 0 then (1 : Int) else 0) /\ (if n = 0 then (1 : Int) else 0) <= 60000
  split <;> omega
 ·show (jN b n).size <= 236
  rw [lS]
  omega
inductive wF (w0 w' : World) (g gd m N : Nat) (K : KD) (Ms : List MK) (h : List ByteArray) (c : Nat) (gen tag : Int) (b : ByteArray) (e : Ending) : Prop
 | arg (hf : lR gen tag = false) (he : e = .returned (.tuple #[.int .i64 0, .int .i64 1])) (hs : eK w0 w' g gd m N K Ms)
 | long (hf : lR gen tag = true) (hb : 9440 < b.size) (he : e = .returned (.tuple #[.int .i64 0, .int .i64 2])) (hs : eK w0 w' g gd m N K Ms)
 | full (hf : lR gen tag = true) (hb : b.size <= 9440) (hp : mQ N gen tag b (dP b.size) K 0 = none) (he : e = .returned (.tuple #[.int .i64 0, .int .i64 20])) (hs : eK w0 w' g gd m N K Ms)
 | done (hf : lR gen tag = true) (hb : b.size <= 9440) (K' : KD) (t : Int) (hp : mQ N gen tag b (dP b.size) K 0 = some (K', t)) (he : e = .returned (.tuple #[.int .i64 t, .int .i64 0])) (hs : eK w0 w' g gd m N K' Ms) (hr : bU N K' h c)
theorem xR {w0 w : World} {g gd m N : Nat} {K : KD} {Ms : List MK} {h : List ByteArray} {c : Nat} (s : eK w0 w g gd m N K Ms) (r : bU N K h c) (hm : m <= 900000) (gen tag : Int) (b : ByteArray) (hb : b.size <= 100000) :
  Calls Tryz.prog 23 #[.pointer (some ⟨g, 0, none⟩), .int .i64 gen, .int .i64 tag, .string b] w fun e w' => wF w0 w' g gd (m + 40) N K Ms h c gen tag b e := by
 have HFT := Lib.hid (zH gen tag)
 obtain ⟨ft, hft⟩ : ∃ ft, ft = lR gen tag := ⟨_, rfl⟩
 rw [<- hft] at HFT
 have HS := Lib.hid s
 have HR := Lib.hid r
 have HF := Lib.hid hft
 obtain ⟨sz, hsz⟩ : ∃ sz, sz = b.size := ⟨_, rfl⟩
 have HSZ := Lib.hid hsz
 have hsB : (b.size : Int) = (sz : Int) := by rw [hsz]
 have hszI : (sz : Int) <= 100000 := by rw [hsz]; omega
 have HM := Lib.hid hm
 clear s r hft hsz hb hm
 cases ft with
 | false =>
   go_enter Tryz.func23, Tryz.ntmps23
   go_wp2_with (go_at_call 44; refine (HFT.out _).mono ?_; rintro e w1 ⟨rfl, rfl⟩)
   go_ret2
   exact .arg HF.out.symm rfl (HS.out.mono (by omega))
 | true =>
 by_cases hbig : 9440 < sz
 ·have hbI : 9440 < (sz : Int) := by omega
  have HBG := Lib.hid hbig
  clear hbig
  go_enter Tryz.func23, Tryz.ntmps23
  go_wp2_with (go_at_call 44; refine (HFT.out _).mono ?_; rintro e w1 ⟨rfl, rfl⟩)
  go_ret2
  exact .long HF.out.symm (by rw [<- HSZ.out]; exact HBG.out) rfl (HS.out.mono (by omega))
 have hbI : ¬ 9440 < (sz : Int) := by omega
 have HBS : Hid (b.size <= 9440) := Lib.hid (by rw [<- HSZ.out]; omega)
 have HNE : Hid (∀ w1, Calls Tryz.prog 46 #[.int .i64 (sz : Int)] w1 fun e w' => e = .returned (.int .i64 (dP sz : Int)) /\ w' = w1) := Lib.hid (fun w1 => by
  have := Kt (sz : Int) w1 (by omega)
  rwa [show zI (sz : Int) = (dP sz : Int) from by unfold zI; rw [if_neg (by omega), Int.toNat_natCast]] at this)
 obtain ⟨q, hq⟩ : ∃ q, q = dP sz := ⟨_, rfl⟩
 rw [<- hq] at HNE
 have hq40 : q <= 40 := by rw [hq]; exact (xT (by omega)).2
 have hq1 : 1 <= q := by rw [hq]; exact (xT (n := sz) (by omega)).1
 have HQ : Hid (q = dP b.size) := Lib.hid (by rw [hq, HSZ.out])
 have HQS : Hid (∀ j : Nat, j < q -> j * 236 <= sz) := Lib.hid (fun j hj => by rw [hq] at hj; unfold dP at hj; split at hj <;> omega)
 have hqw : IntKind.i64.wrap ((q : Int) - 1) = (q : Int) - 1 := by rw [IntKind.wrap_i64]; omega
 clear hq hbig
 go_enter Tryz.func23, Tryz.ntmps23
 go_wp2_with (go_at_call 44; refine (HFT.out _).mono ?_; rintro e w1 ⟨rfl, rfl⟩)
 refine (Su HS.out HR.out).mono ?_
 rintro e w2 ⟨st, rfl, hs2, -⟩
 have HS2 := Lib.hid (hs2.hold (w' := w2.alloc (.cells #[.pointer (some ⟨st, 0, none⟩)] 100)) ((Below.refl _ _).alloc (Nat.le_refl _) _) (Nat.le_refl _) (aG.new w2 100 #[.pointer (some ⟨st, 0, none⟩)]))
 clear hs2 HS
 go_wp2_with (go_at_call 46; refine (HNE.out _).mono ?_; rintro e w3 ⟨rfl, rfl⟩)
 go_loopw [11, 12] (fun x i wr => ∃ (j m' : Nat) (K' : KD) (nx : Int), j <= q /\ m' + j = m + q /\ i = .int .i64 ((j : Int) - 1) /\ x = .int .i64 nx /\ 0 <= nx /\ nx < 65536 /\ bU N K' h c /\ (∃ F H, K' = nW K F H) /\ mQ N gen tag b q K 0 = mQ N gen tag b j K' nx /\ eK w0 wr g gd m' N K' (.held w2.heap.size (.cells #[.pointer (some ⟨st, 0, none⟩)] 100) :: .mark st K.syncs K.F K.H :: Ms)) (fun _ i _ => (intOf i + 1).toNat)
 case atStart => exact ⟨q, m, K, 0, Nat.le_refl _, rfl, rfl, rfl, by omega, by omega, HR.out, ⟨_, _, (Kv K).symm⟩, rfl, HS2.out⟩
 case round =>
  obtain ⟨j, m', K', nx, hj, hmm, rfl, rfl, hn0, hn1, hr, hbk, hpc, hs⟩ := hrel
  have HSR := Lib.hid hs
  have HRR := Lib.hid hr
  have HBK := Lib.hid hbk
  have HPC := Lib.hid hpc
  have HMM := Lib.hid hmm
  have HNX := Lib.hid (And.intro hn0 hn1)
  clear hs hr hbk hpc hmm hn0 hn1 HS2
  rcases Nat.eq_zero_or_pos j with rfl | hjp
  ·have HDN : Hid (mQ N gen tag b (dP b.size) K 0 = some (K', nx)) := Lib.hid (by rw [<- HQ.out, HPC.out]; rfl)
   go_wp2_with fail
   go_ret2
   exact .done HF.out.symm HBS.out K' nx HDN.out rfl ((HSR.out.less (fun M hM => by simp [hM])).mono (by have := HMM.out; omega)) HRR.out
  obtain ⟨i, rfl⟩ : ∃ i, j = i + 1 := ⟨j - 1, by omega⟩
  have HJQ := Lib.hid hj
  have hiI : (i : Int) < 40 := by omega
  have hi0 : ((i + 1 : Nat) : Int) - 1 = (i : Int) := by omega
  rw [hi0]
  obtain ⟨lo, hlo⟩ : ∃ lo, lo = i * 236 := ⟨_, rfl⟩
  obtain ⟨hi2, hhi⟩ : ∃ hi2, hi2 = min sz ((i + 1) * 236) := ⟨_, rfl⟩
  have hls : lo <= sz := by rw [hlo]; exact HQS.out i (by omega)
  have hlh : lo <= hi2 := by rw [hlo, hhi]; omega
  have hhs : hi2 <= sz := by rw [hhi]; omega
  have e1 : IntKind.i64.wrap ((i : Int) * 236) = (lo : Int) := by rw [IntKind.wrap_i64]; omega
  have e2 : IntKind.i64.wrap ((i : Int) + 1) = (i : Int) + 1 := by rw [IntKind.wrap_i64]; omega
  have e3 : IntKind.i64.wrap (((i : Int) + 1) * 236) = ((i : Int) + 1) * 236 := by rw [IntKind.wrap_i64]; omega
  have e4 : min (sz : Int) (((i : Int) + 1) * 236) = (hi2 : Int) := by omega
  obtain ⟨B, hB⟩ : ∃ B, B = b.extract lo hi2 := ⟨_, rfl⟩
  have HPB : Hid (B = jN b i) := Lib.hid (by rw [hB, hlo, hhi, HSZ.out]; rfl)
  have HOK : Hid ((Sm gen tag b i nx).Ok) := Lib.hid (Zf HF.out.symm (by omega) HNX.out)
  have HLAY : Hid (∀ w1, Calls Tryz.prog 48 #[.agg #[.int .i64 gen, .int .i64 tag, .int .i64 (i : Int), .int .i64 (if i = 0 then 1 else 0), .int .i64 nx, .string B, .int .i64 0]] w1 fun e w' => e = .returned (.string (bs (Sm gen tag b i nx).text)) /\ Below w1.heap.size w1 w') := Lib.hid (fun w1 => by
   have := Bi (Sm gen tag b i nx) w1 HOK.out
   rw [HPB.out]
   exact this)
  obtain ⟨X, hX⟩ : ∃ X, X = bs (Sm gen tag b i nx).text := ⟨_, rfl⟩
  rw [<- hX] at HLAY
  have HXS : Hid (X.size = 256) := Lib.hid (by rw [hX, dO, HOK.out.text_len])
  have HXE := Lib.hid hX
  have HLS := Lib.hid (pI HRR.out.hok)
  obtain ⟨k, hk⟩ : ∃ k, k = pH K'.H := ⟨_, rfl⟩
  rw [<- hk] at HLS
  have HSTEP : Hid (mQ N gen tag b q K 0 = if k < N - 111 then mQ N gen tag b i (nJ K' k X) k else none) := Lib.hid (by rw [HPC.out, mQ, <- hk, hX])
  have HBE : Hid (B = b.extract lo hi2) := Lib.hid hB
  have HLO := Lib.hid hlo
  have HHI : Hid (hi2 = min sz ((i + 1) * 236)) := Lib.hid hhi
  have e5 : IntKind.i64.wrap ((i : Int) - 1) = (i : Int) - 1 := by rw [IntKind.wrap_i64]; omega
  have hsl : (lo : Int) <= (hi2 : Int) := by omega
  have hsl2 : (hi2 : Int) <= (sz : Int) := by omega
  clear hB hX hk hlo hhi hjp hi0
  have HNEW : Hid (∀ (w1 : World), Below wr.heap.size wr w1 -> Calls Tryz.prog 47 #[.pointer (some ⟨g, 0, none⟩), .string X] w1 fun e w' =>
   (k = N - 111 /\ e = .returned (.tuple #[.int .i64 0, .int .i64 20]) /\ eK w0 w' g gd (m' + 1) N K' (.held w2.heap.size (.cells #[.pointer (some ⟨st, 0, none⟩)] 100) :: .mark st K.syncs K.F K.H :: Ms)) \/
   (k < N - 111 /\ e = .returned (.tuple #[.int .i64 (k : Int), .int .i64 0]) /\ eK w0 w' g gd (m' + 1) N (nJ K' k X) (.held w2.heap.size (.cells #[.pointer (some ⟨st, 0, none⟩)] 100) :: .mark st K.syncs K.F K.H :: Ms))) := Lib.hid (fun w1 hb1 => Xa (HSR.out.below hb1) HRR.out (by have := HMM.out; have := HM.out; omega) HLS.out HXS.out)
  by_cases hi00 : i = 0
  ·subst hi00
   obtain rfl : lo = 0 := by have := HLO.out; omega
   have e6 : min (sz : Int) 236 = (hi2 : Int) := by have := HHI.out; omega
   have hi20 : (0 : Int) <= (hi2 : Int) := by omega
   have HLAY1 : Hid (∀ w1, Calls Tryz.prog 48 #[.agg #[.int .i64 gen, .int .i64 tag, .int .i64 0, .int .i64 1, .int .i64 nx, .string B, .int .i64 0]] w1 fun e w' => e = .returned (.string X) /\ Below w1.heap.size w1 w') := HLAY
   clear HLAY e1 e2 e3 e4 e5 hsl hiI
   go_wp2_with fail
   rw [<- HBE.out]
   refine (HLAY1.out _).mono ?_
   rintro e w4 ⟨rfl, hb4⟩
   have HB4 : Hid (Below wr.heap.size wr w4) := Lib.hid (((Below.refl wr.heap.size wr).alloc (Nat.le_refl _) (.cells #[.int .i64 gen, .int .i64 tag, .int .i64 0, .int .i64 1, .int .i64 nx, .string B, .int .i64 0] 83)).trans (hb4.mono (by simp)))
   clear hb4 HLAY1
   go_wp2_with fail
   refine (HNEW.out _ HB4.out).mono ?_
   rintro e w5 (⟨hkk, rfl, hs5⟩ | ⟨hkk, rfl, hs5⟩)
   ·have HS5 := Lib.hid hs5
    have HKK := Lib.hid hkk
    have cm := aG.cell (show aG w5 w2.heap.size 100 #[.pointer (some ⟨st, 0, none⟩)] from hs5.held (by simp)) 0
    simp at cm
    have HBA : Hid (Calls Tryz.prog 49 #[.pointer (some ⟨g, 0, none⟩), .agg #[.pointer (some ⟨st, 0, none⟩)]] w5 fun e w' => e = .returned (.tuple #[]) /\ eK w0 w' g gd (m' + 1) N K (.held w2.heap.size (.cells #[.pointer (some ⟨st, 0, none⟩)] 100) :: .mark st K.syncs K.F K.H :: Ms)) := Lib.hid (by
     obtain ⟨F, H, hbk⟩ := HBK.out
     have := Fj HS5.out HRR.out (st := st) (sy := K.syncs) (F := K.F) (H := K.H) (by simp) (by rw [hbk]; rfl)
     rw [show nW K' K.F K.H = K by rw [hbk]; rfl] at this
     exact this)
    clear hs5 hkk HNEW HB4
    go_wp2_with fail
    clear cm
    refine HBA.out.mono ?_
    rintro e w6 ⟨rfl, hs6⟩
    have HS6 := Lib.hid hs6
    clear hs6
    go_wp2_with fail
    go_ret2
    exact .full HF.out.symm HBS.out (by rw [<- HQ.out, HSTEP.out, if_neg (by have := HKK.out; omega)]) rfl ((HS6.out.less (fun M hM => by simp [hM])).mono (by have := HMM.out; omega))
   ·have HS5 := Lib.hid hs5
    have HKK := Lib.hid hkk
    have HRN : Hid (bU N (nJ K' k X) h c) := Lib.hid (HRR.out.new HLS.out hkk HXS.out)
    have HBN : Hid (∃ F H, nJ K' k X = nW K F H) := Lib.hid (by obtain ⟨F, H, hbk⟩ := HBK.out; exact ⟨_, _, by rw [hbk]; rfl⟩)
    have HPN : Hid (mQ N gen tag b q K 0 = mQ N gen tag b 0 (nJ K' k X) k) := Lib.hid (by rw [HSTEP.out, if_pos hkk])
    have hdim : Hid (N <= 400) := Lib.hid HRR.out.ok.dim.2
    clear hs5 hkk HNEW HB4
    go_wp2_with fail
    refine ⟨⟨0, m' + 1, nJ K' k X, (k : Int), by have := HJQ.out; omega, by have := HMM.out; omega, by go_num, rfl, by omega, by have := HKK.out; have := hdim.out; omega, HRN.out, HBN.out, HPN.out, HS5.out⟩, ?_⟩
    simp [intOf]
    try omega
  ·have hi0 : ((i : Int) == 0) = false := by simp; omega
   have HLAY1 : Hid (∀ w1, Calls Tryz.prog 48 #[.agg #[.int .i64 gen, .int .i64 tag, .int .i64 (i : Int), .int .i64 0, .int .i64 nx, .string B, .int .i64 0]] w1 fun e w' => e = .returned (.string X) /\ Below w1.heap.size w1 w') := Lib.hid (by have := HLAY.out; rwa [if_neg hi00] at this)
   clear hi00 HLAY
   go_wp2_with fail
   rw [<- HBE.out]
   refine (HLAY1.out _).mono ?_
   rintro e w4 ⟨rfl, hb4⟩
   have HB4 : Hid (Below wr.heap.size wr w4) := Lib.hid (((Below.refl _ _).alloc (Nat.le_refl _) _).trans (hb4.mono (by simp)))
   clear hb4 HLAY1
   go_wp2_with fail
   refine (HNEW.out _ HB4.out).mono ?_
   rintro e w5 (⟨hkk, rfl, hs5⟩ | ⟨hkk, rfl, hs5⟩)
   ·have HS5 := Lib.hid hs5
    have HKK := Lib.hid hkk
    have cm := aG.cell (show aG w5 w2.heap.size 100 #[.pointer (some ⟨st, 0, none⟩)] from hs5.held (by simp)) 0
    simp at cm
    have HBA : Hid (Calls Tryz.prog 49 #[.pointer (some ⟨g, 0, none⟩), .agg #[.pointer (some ⟨st, 0, none⟩)]] w5 fun e w' => e = .returned (.tuple #[]) /\ eK w0 w' g gd (m' + 1) N K (.held w2.heap.size (.cells #[.pointer (some ⟨st, 0, none⟩)] 100) :: .mark st K.syncs K.F K.H :: Ms)) := Lib.hid (by
     obtain ⟨F, H, hbk⟩ := HBK.out
     have := Fj HS5.out HRR.out (st := st) (sy := K.syncs) (F := K.F) (H := K.H) (by simp) (by rw [hbk]; rfl)
     rw [show nW K' K.F K.H = K by rw [hbk]; rfl] at this
     exact this)
    clear hs5 hkk HNEW HB4
    go_wp2_with fail
    clear cm
    refine HBA.out.mono ?_
    rintro e w6 ⟨rfl, hs6⟩
    have HS6 := Lib.hid hs6
    clear hs6
    go_wp2_with fail
    go_ret2
    exact .full HF.out.symm HBS.out (by rw [<- HQ.out, HSTEP.out, if_neg (by have := HKK.out; omega)]) rfl ((HS6.out.less (fun M hM => by simp [hM])).mono (by have := HMM.out; omega))
   ·have HS5 := Lib.hid hs5
    have HKK := Lib.hid hkk
    have HRN : Hid (bU N (nJ K' k X) h c) := Lib.hid (HRR.out.new HLS.out hkk HXS.out)
    have HBN : Hid (∃ F H, nJ K' k X = nW K F H) := Lib.hid (by obtain ⟨F, H, hbk⟩ := HBK.out; exact ⟨_, _, by rw [hbk]; rfl⟩)
    have HPN : Hid (mQ N gen tag b q K 0 = mQ N gen tag b i (nJ K' k X) k) := Lib.hid (by rw [HSTEP.out, if_pos hkk])
    have hdim : Hid (N <= 400) := Lib.hid HRR.out.ok.dim.2
    clear hs5 hkk HNEW HB4
    go_wp2_with fail
    refine ⟨⟨i, m' + 1, nJ K' k X, (k : Int), by have := HJQ.out; omega, by have := HMM.out; omega, by go_num, rfl, by omega, by have := HKK.out; have := hdim.out; omega, HRN.out, HBN.out, HPN.out, HS5.out⟩, ?_⟩
    simp [intOf]
    try omega
end Go.Proofs.YtingkbeifohihaaGreatDoor
