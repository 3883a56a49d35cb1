/-
  What Put, Drop and Refs leave of a chain, as plain data. No statement is proved here.
-/
import Derived.Test.YtnamokngiebicaaGreatDoorLinkSmall
import Derived.Test.YtnamokngiebicaaGreatDoorDeskSame
namespace Go.Proofs.YtnamokngiebicaaGreatDoor
open Go.RowKit

/-- The link that Put lays at number n, where the next one stands at nx. -/
def lkB (gen tag : Int) (b : ByteArray) (n : Nat) (nx : Int) : LK := ⟨gen, tag, n, if n = 0 then 1 else 0, nx, pieceC b n, 0⟩
/-- What is put from number n down, the last one first. -/
noncomputable def putC (N : Nat) (gen tag : Int) (b : ByteArray) : Nat → KD → Int → Option (KD × Int)
  | 0, K, nx => some (K, nx)
  | n + 1, K, nx => if leastN K.H < N - 111 then putC N gen tag b n (newK K (leastN K.H) (bs (lkB gen tag b n nx).text)) (leastN K.H) else none
theorem lkB_ok {gen tag : Int} {b : ByteArray} {n : Nat} {nx : Int} (hf : fitsC gen tag = true) (hn : n < 40) (hx : 0 ≤ nx ∧ nx < 65536) : (lkB gen tag b n nx).Ok := by
  refine ⟨of_decide_eq_true hf, ⟨by show 0 ≤ (n : Int); omega, by show (n : Int) < 256; omega⟩, ?_, hx, ?_⟩
  · show 0 ≤ (if n = 0 then (1 : Int) else 0) ∧ (if n = 0 then (1 : Int) else 0) ≤ 60000
    split <;> omega
  · show (pieceC b n).size ≤ 236
    rw [pieceC_size]
    omega
/-- What Put leaves, and tells. -/
inductive PutSays (w0 w' : World) (g gd m N : Nat) (K : KD) (Ms : List MK) (h : List ByteArray) (c : Nat) (gen tag : Int) (b : ByteArray) (e : Ending) : Prop
  | arg (hf : fitsC gen tag = false) (he : e = .returned (.tuple #[.int .i64 0, .int .i64 1])) (hs : DMk w0 w' g gd m N K Ms)
  | long (hf : fitsC gen tag = true) (hb : 9440 < b.size) (he : e = .returned (.tuple #[.int .i64 0, .int .i64 2])) (hs : DMk w0 w' g gd m N K Ms)
  | full (hf : fitsC gen tag = true) (hb : b.size ≤ 9440) (hp : putC N gen tag b (needN b.size) K 0 = none) (he : e = .returned (.tuple #[.int .i64 0, .int .i64 20])) (hs : DMk w0 w' g gd m N K Ms)
  | done (hf : fitsC gen tag = true) (hb : b.size ≤ 9440) (K' : KD) (t : Int) (hp : putC N gen tag b (needN b.size) K 0 = some (K', t)) (he : e = .returned (.tuple #[.int .i64 t, .int .i64 0])) (hs : DMk w0 w' g gd m N K' Ms) (hr : Run11 N K' h c)
set_option maxRecDepth 100000 in
set_option maxHeartbeats 16000000 in
theorem kput_chain {w0 w : World} {g gd m N : Nat} {K : KD} {Ms : List MK} {h : List ByteArray} {c : Nat} (s : DMk w0 w g gd m N K Ms) (r : Run11 N K h c) (hm : m ≤ 900000) (gen tag : Int) (b : ByteArray) (hb : b.size ≤ 100000) :
    Calls Tryz.prog 37 #[.pointer (some ⟨g, 0, none⟩), .int .i64 gen, .int .i64 tag, .string b] w fun e w' => PutSays w0 w' g gd (m + 40) N K Ms h c gen tag b e := by
  have HFT := Lib.hid (lkfits_any gen tag)
  obtain ⟨ft, hft⟩ : ∃ ft, ft = fitsC gen tag := ⟨_, rfl⟩
  rw [← hft] at HFT
  have HS := Lib.hid s
  have HR := Lib.hid r
  have HF := Lib.hid hft
  obtain ⟨sz, hsz⟩ : ∃ sz, sz = b.size := ⟨_, rfl⟩
  have HSZ := Lib.hid hsz
  have hsB : (b.size : Int) = (sz : Int) := by rw [hsz]
  have hszI : (sz : Int) ≤ 100000 := by rw [hsz]; omega
  have HM := Lib.hid hm
  clear s r hft hsz hb hm
  cases ft with
  | false =>
    go_enter Tryz.func37, Tryz.ntmps37
    go_wp2_with (go_at_call 76; refine (HFT.out _).mono ?_; rintro e w1 ⟨rfl, rfl⟩)
    go_ret2
    exact .arg HF.out.symm rfl (HS.out.mono (by omega))
  | true =>
  by_cases hbig : 9440 < sz
  · have hbI : 9440 < (sz : Int) := by omega
    have HBG := Lib.hid hbig
    clear hbig
    go_enter Tryz.func37, Tryz.ntmps37
    go_wp2_with (go_at_call 76; refine (HFT.out _).mono ?_; rintro e w1 ⟨rfl, rfl⟩)
    go_ret2
    exact .long HF.out.symm (by rw [← HSZ.out]; exact HBG.out) rfl (HS.out.mono (by omega))
  have hbI : ¬ 9440 < (sz : Int) := by omega
  have HBS : Hid (b.size ≤ 9440) := Lib.hid (by rw [← HSZ.out]; omega)
  have HNE : Hid (∀ w1, Calls Tryz.prog 47 #[.int .i64 (sz : Int)] w1 fun e w' => e = .returned (.int .i64 (needN sz : Int)) ∧ w' = w1) := Lib.hid (fun w1 => by
    have := lkneed_any (sz : Int) w1 (by omega)
    rwa [show needI (sz : Int) = (needN sz : Int) from by unfold needI; rw [if_neg (by omega), Int.toNat_natCast]] at this)
  obtain ⟨q, hq⟩ : ∃ q, q = needN sz := ⟨_, rfl⟩
  rw [← hq] at HNE
  have hq40 : q ≤ 40 := by rw [hq]; exact (needN_le (by omega)).2
  have hq1 : 1 ≤ q := by rw [hq]; exact (needN_le (n := sz) (by omega)).1
  have HQ : Hid (q = needN b.size) := Lib.hid (by rw [hq, HSZ.out])
  have HQS : Hid (∀ j : Nat, j < q → j * 236 ≤ sz) := Lib.hid (fun j hj => by rw [hq] at hj; unfold needN at hj; split at hj <;> omega)
  have hqw : IntKind.i64.wrap ((q : Int) - 1) = (q : Int) - 1 := by rw [IntKind.wrap_i64]; omega
  clear hq hbig
  go_enter Tryz.func37, Tryz.ntmps37
  go_wp2_with (go_at_call 76; refine (HFT.out _).mono ?_; rintro e w1 ⟨rfl, rfl⟩)
  refine (dmk_mark HS.out HR.out).mono ?_
  rintro e w2 ⟨st, rfl, hs2, -⟩
  have HS2 := Lib.hid (hs2.hold (w' := w2.alloc (.cells #[.pointer (some ⟨st, 0, none⟩)] 46)) ((Below.refl _ _).alloc (Nat.le_refl _) _) (Nat.le_refl _) (Blk.new w2 46 #[.pointer (some ⟨st, 0, none⟩)]))
  clear hs2 HS
  go_wp2_with (go_at_call 47; refine (HNE.out _).mono ?_; rintro e w3 ⟨rfl, rfl⟩)
  go_loopw [11, 12] (fun x i wr => ∃ (j m' : Nat) (K' : KD) (nx : Int), j ≤ q ∧ m' + j = m + q ∧ i = .int .i64 ((j : Int) - 1) ∧ x = .int .i64 nx ∧ 0 ≤ nx ∧ nx < 65536 ∧ Run11 N K' h c ∧ (∃ F H, K' = backK K F H) ∧ putC N gen tag b q K 0 = putC N gen tag b j K' nx ∧ DMk w0 wr g gd m' N K' (.held w2.heap.size (.cells #[.pointer (some ⟨st, 0, none⟩)] 46) :: .mark st K.syncs K.F K.H :: Ms)) (fun _ i _ => (intOf i + 1).toNat)
  case atStart => exact ⟨q, m, K, 0, Nat.le_refl _, rfl, rfl, rfl, by omega, by omega, HR.out, ⟨_, _, (backK_self K).symm⟩, rfl, HS2.out⟩
  case round =>
    obtain ⟨j, m', K', nx, hj, hmm, rfl, rfl, hn0, hn1, hr, hbk, hpc, hs⟩ := hrel
    have HSR := Lib.hid hs
    have HRR := Lib.hid hr
    have HBK := Lib.hid hbk
    have HPC := Lib.hid hpc
    have HMM := Lib.hid hmm
    have HNX := Lib.hid (And.intro hn0 hn1)
    clear hs hr hbk hpc hmm hn0 hn1 HS2
    rcases Nat.eq_zero_or_pos j with rfl | hjp
    · have HDN : Hid (putC N gen tag b (needN b.size) K 0 = some (K', nx)) := Lib.hid (by rw [← HQ.out, HPC.out]; rfl)
      go_wp2_with fail
      go_ret2
      exact .done HF.out.symm HBS.out K' nx HDN.out rfl ((HSR.out.less (fun M hM => by simp [hM])).mono (by have := HMM.out; omega)) HRR.out
    obtain ⟨i, rfl⟩ : ∃ i, j = i + 1 := ⟨j - 1, by omega⟩
    have HJQ := Lib.hid hj
    have hiI : (i : Int) < 40 := by omega
    have hi0 : ((i + 1 : Nat) : Int) - 1 = (i : Int) := by omega
    rw [hi0]
    obtain ⟨lo, hlo⟩ : ∃ lo, lo = i * 236 := ⟨_, rfl⟩
    obtain ⟨hi2, hhi⟩ : ∃ hi2, hi2 = min sz ((i + 1) * 236) := ⟨_, rfl⟩
    have hls : lo ≤ sz := by rw [hlo]; exact HQS.out i (by omega)
    have hlh : lo ≤ hi2 := by rw [hlo, hhi]; omega
    have hhs : hi2 ≤ sz := by rw [hhi]; omega
    have e1 : IntKind.i64.wrap ((i : Int) * 236) = (lo : Int) := by rw [IntKind.wrap_i64]; omega
    have e2 : IntKind.i64.wrap ((i : Int) + 1) = (i : Int) + 1 := by rw [IntKind.wrap_i64]; omega
    have e3 : IntKind.i64.wrap (((i : Int) + 1) * 236) = ((i : Int) + 1) * 236 := by rw [IntKind.wrap_i64]; omega
    have e4 : min (sz : Int) (((i : Int) + 1) * 236) = (hi2 : Int) := by omega
    obtain ⟨B, hB⟩ : ∃ B, B = b.extract lo hi2 := ⟨_, rfl⟩
    have HPB : Hid (B = pieceC b i) := Lib.hid (by rw [hB, hlo, hhi, HSZ.out]; rfl)
    have HOK : Hid ((lkB gen tag b i nx).Ok) := Lib.hid (lkB_ok HF.out.symm (by omega) HNX.out)
    have HLAY : Hid (∀ w1, Calls Tryz.prog 77 #[.agg #[.int .i64 gen, .int .i64 tag, .int .i64 (i : Int), .int .i64 (if i = 0 then 1 else 0), .int .i64 nx, .string B, .int .i64 0]] w1 fun e w' => e = .returned (.string (bs (lkB gen tag b i nx).text)) ∧ Below w1.heap.size w1 w') := Lib.hid (fun w1 => by
      have := lklay_any (lkB gen tag b i nx) w1 HOK.out
      rw [HPB.out]
      exact this)
    obtain ⟨X, hX⟩ : ∃ X, X = bs (lkB gen tag b i nx).text := ⟨_, rfl⟩
    rw [← hX] at HLAY
    have HXS : Hid (X.size = 256) := Lib.hid (by rw [hX, bs_size, HOK.out.text_len])
    have HXE := Lib.hid hX
    have HLS := Lib.hid (leastN_spec HRR.out.hok)
    obtain ⟨k, hk⟩ : ∃ k, k = leastN K'.H := ⟨_, rfl⟩
    rw [← hk] at HLS
    have HSTEP : Hid (putC N gen tag b q K 0 = if k < N - 111 then putC N gen tag b i (newK K' k X) k else none) := Lib.hid (by rw [HPC.out, putC, ← hk, hX])
    have HBE : Hid (B = b.extract lo hi2) := Lib.hid hB
    have HLO := Lib.hid hlo
    have HHI : Hid (hi2 = min sz ((i + 1) * 236)) := Lib.hid hhi
    have e5 : IntKind.i64.wrap ((i : Int) - 1) = (i : Int) - 1 := by rw [IntKind.wrap_i64]; omega
    have hsl : (lo : Int) ≤ (hi2 : Int) := by omega
    have hsl2 : (hi2 : Int) ≤ (sz : Int) := by omega
    clear hB hX hk hlo hhi hjp hi0
    have HNEW : Hid (∀ (w1 : World), Below wr.heap.size wr w1 → Calls Tryz.prog 14 #[.pointer (some ⟨g, 0, none⟩), .string X] w1 fun e w' =>
      (k = N - 111 ∧ e = .returned (.tuple #[.int .i64 0, .int .i64 20]) ∧ DMk w0 w' g gd (m' + 1) N K' (.held w2.heap.size (.cells #[.pointer (some ⟨st, 0, none⟩)] 46) :: .mark st K.syncs K.F K.H :: Ms)) ∨
      (k < N - 111 ∧ e = .returned (.tuple #[.int .i64 (k : Int), .int .i64 0]) ∧ DMk w0 w' g gd (m' + 1) N (newK K' k X) (.held w2.heap.size (.cells #[.pointer (some ⟨st, 0, none⟩)] 46) :: .mark st K.syncs K.F K.H :: Ms))) := Lib.hid (fun w1 hb1 => dmk_new (HSR.out.below hb1) HRR.out (by have := HMM.out; have := HM.out; omega) HLS.out HXS.out)
    by_cases hi00 : i = 0
    · subst hi00
      obtain rfl : lo = 0 := by have := HLO.out; omega
      have e6 : min (sz : Int) 236 = (hi2 : Int) := by have := HHI.out; omega
      have hi20 : (0 : Int) ≤ (hi2 : Int) := by omega
      have HLAY1 : Hid (∀ w1, Calls Tryz.prog 77 #[.agg #[.int .i64 gen, .int .i64 tag, .int .i64 0, .int .i64 1, .int .i64 nx, .string B, .int .i64 0]] w1 fun e w' => e = .returned (.string X) ∧ Below w1.heap.size w1 w') := HLAY
      clear HLAY e1 e2 e3 e4 e5 hsl hiI
      go_wp2_with fail
      rw [← HBE.out]
      refine (HLAY1.out _).mono ?_
      rintro e w4 ⟨rfl, hb4⟩
      have HB4 : Hid (Below wr.heap.size wr w4) := Lib.hid (((Below.refl wr.heap.size wr).alloc (Nat.le_refl _) (.cells #[.int .i64 gen, .int .i64 tag, .int .i64 0, .int .i64 1, .int .i64 nx, .string B, .int .i64 0] 118)).trans (hb4.mono (by simp)))
      clear hb4 HLAY1
      go_wp2_with fail
      refine (HNEW.out _ HB4.out).mono ?_
      rintro e w5 (⟨hkk, rfl, hs5⟩ | ⟨hkk, rfl, hs5⟩)
      · have HS5 := Lib.hid hs5
        have HKK := Lib.hid hkk
        have cm := Blk.cell (show Blk w5 w2.heap.size 46 #[.pointer (some ⟨st, 0, none⟩)] from hs5.held (by simp)) 0
        simp at cm
        have HBA : Hid (Calls Tryz.prog 23 #[.pointer (some ⟨g, 0, none⟩), .agg #[.pointer (some ⟨st, 0, none⟩)]] w5 fun e w' => e = .returned (.tuple #[]) ∧ DMk w0 w' g gd (m' + 1) N K (.held w2.heap.size (.cells #[.pointer (some ⟨st, 0, none⟩)] 46) :: .mark st K.syncs K.F K.H :: Ms)) := Lib.hid (by
          obtain ⟨F, H, hbk⟩ := HBK.out
          have := dmk_back HS5.out HRR.out (st := st) (sy := K.syncs) (F := K.F) (H := K.H) (by simp) (by rw [hbk]; rfl)
          rw [show backK K' K.F K.H = K by rw [hbk]; rfl] at this
          exact this)
        clear hs5 hkk HNEW HB4
        go_wp2_with fail
        clear cm
        refine HBA.out.mono ?_
        rintro e w6 ⟨rfl, hs6⟩
        have HS6 := Lib.hid hs6
        clear hs6
        go_wp2_with fail
        go_ret2
        exact .full HF.out.symm HBS.out (by rw [← HQ.out, HSTEP.out, if_neg (by have := HKK.out; omega)]) rfl ((HS6.out.less (fun M hM => by simp [hM])).mono (by have := HMM.out; omega))
      · have HS5 := Lib.hid hs5
        have HKK := Lib.hid hkk
        have HRN : Hid (Run11 N (newK K' k X) h c) := Lib.hid (HRR.out.new HLS.out hkk HXS.out)
        have HBN : Hid (∃ F H, newK K' k X = backK K F H) := Lib.hid (by obtain ⟨F, H, hbk⟩ := HBK.out; exact ⟨_, _, by rw [hbk]; rfl⟩)
        have HPN : Hid (putC N gen tag b q K 0 = putC N gen tag b 0 (newK K' k X) k) := Lib.hid (by rw [HSTEP.out, if_pos hkk])
        have hdim : Hid (N ≤ 400) := Lib.hid HRR.out.ok.dim.2
        clear hs5 hkk HNEW HB4
        go_wp2_with fail
        refine ⟨⟨0, m' + 1, newK K' k X, (k : Int), by have := HJQ.out; omega, by have := HMM.out; omega, by go_num, rfl, by omega, by have := HKK.out; have := hdim.out; omega, HRN.out, HBN.out, HPN.out, HS5.out⟩, ?_⟩
        simp [intOf]
        try omega
    · have hi0 : ((i : Int) == 0) = false := by simp; omega
      have HLAY1 : Hid (∀ w1, Calls Tryz.prog 77 #[.agg #[.int .i64 gen, .int .i64 tag, .int .i64 (i : Int), .int .i64 0, .int .i64 nx, .string B, .int .i64 0]] w1 fun e w' => e = .returned (.string X) ∧ Below w1.heap.size w1 w') := Lib.hid (by have := HLAY.out; rwa [if_neg hi00] at this)
      clear hi00 HLAY
      go_wp2_with fail
      rw [← HBE.out]
      refine (HLAY1.out _).mono ?_
      rintro e w4 ⟨rfl, hb4⟩
      have HB4 : Hid (Below wr.heap.size wr w4) := Lib.hid (((Below.refl _ _).alloc (Nat.le_refl _) _).trans (hb4.mono (by simp)))
      clear hb4 HLAY1
      go_wp2_with fail
      refine (HNEW.out _ HB4.out).mono ?_
      rintro e w5 (⟨hkk, rfl, hs5⟩ | ⟨hkk, rfl, hs5⟩)
      · have HS5 := Lib.hid hs5
        have HKK := Lib.hid hkk
        have cm := Blk.cell (show Blk w5 w2.heap.size 46 #[.pointer (some ⟨st, 0, none⟩)] from hs5.held (by simp)) 0
        simp at cm
        have HBA : Hid (Calls Tryz.prog 23 #[.pointer (some ⟨g, 0, none⟩), .agg #[.pointer (some ⟨st, 0, none⟩)]] w5 fun e w' => e = .returned (.tuple #[]) ∧ DMk w0 w' g gd (m' + 1) N K (.held w2.heap.size (.cells #[.pointer (some ⟨st, 0, none⟩)] 46) :: .mark st K.syncs K.F K.H :: Ms)) := Lib.hid (by
          obtain ⟨F, H, hbk⟩ := HBK.out
          have := dmk_back HS5.out HRR.out (st := st) (sy := K.syncs) (F := K.F) (H := K.H) (by simp) (by rw [hbk]; rfl)
          rw [show backK K' K.F K.H = K by rw [hbk]; rfl] at this
          exact this)
        clear hs5 hkk HNEW HB4
        go_wp2_with fail
        clear cm
        refine HBA.out.mono ?_
        rintro e w6 ⟨rfl, hs6⟩
        have HS6 := Lib.hid hs6
        clear hs6
        go_wp2_with fail
        go_ret2
        exact .full HF.out.symm HBS.out (by rw [← HQ.out, HSTEP.out, if_neg (by have := HKK.out; omega)]) rfl ((HS6.out.less (fun M hM => by simp [hM])).mono (by have := HMM.out; omega))
      · have HS5 := Lib.hid hs5
        have HKK := Lib.hid hkk
        have HRN : Hid (Run11 N (newK K' k X) h c) := Lib.hid (HRR.out.new HLS.out hkk HXS.out)
        have HBN : Hid (∃ F H, newK K' k X = backK K F H) := Lib.hid (by obtain ⟨F, H, hbk⟩ := HBK.out; exact ⟨_, _, by rw [hbk]; rfl⟩)
        have HPN : Hid (putC N gen tag b q K 0 = putC N gen tag b i (newK K' k X) k) := Lib.hid (by rw [HSTEP.out, if_pos hkk])
        have hdim : Hid (N ≤ 400) := Lib.hid HRR.out.ok.dim.2
        clear hs5 hkk HNEW HB4
        go_wp2_with fail
        refine ⟨⟨i, m' + 1, newK K' k X, (k : Int), by have := HJQ.out; omega, by have := HMM.out; omega, by go_num, rfl, by omega, by have := HKK.out; have := hdim.out; omega, HRN.out, HBN.out, HPN.out, HS5.out⟩, ?_⟩
        simp [intOf]
        try omega
end Go.Proofs.YtnamokngiebicaaGreatDoor

namespace Go.Proofs.YtnamokngiebicaaGreatDoor
open Go.RowKit

/-- What was put from number j down: the sectors, and all that is as it was. -/
structure PutOn (N : Nat) (gen tag : Int) (b : ByteArray) (j : Nat) (K : KD) (nx : Int) (K' : KD) (t : Int) (qs : List Int) : Prop where
  len : qs.length = j
  head : t = qs.getD 0 nx
  laid : ∀ i, i < j → K'.F (qs.getD i 0) = bs (lkB gen tag b i (qs.getD (i + 1) nx)).text
  fresh : ∀ p ∈ qs, p ∉ K.H ∧ 0 ≤ p ∧ p < ((N - 111 : Nat) : Int)
  once : qs.Nodup
  mem : ∀ z, z ∈ K'.H ↔ z ∈ K.H ∨ z ∈ qs
  rest : ∀ z, z ∉ qs → K'.F z = K.F z
  cnt : K'.H.length = K.H.length + j
  same : K' = backK K K'.F K'.H
theorem getD_snoc_lt {l : List Int} {x d : Int} {i : Nat} (h : i < l.length) : (l ++ [x]).getD i d = l.getD i d := by
  rw [List.getD_eq_getElem?_getD, List.getD_eq_getElem?_getD, List.getElem?_append_left h]
theorem getD_snoc_eq {l : List Int} {x d : Int} {i : Nat} (h : i = l.length) : (l ++ [x]).getD i d = x := by
  rw [List.getD_eq_getElem?_getD, List.getElem?_append_right (by omega), h, Nat.sub_self]
  rfl
theorem getD_ge {l : List Int} {d : Int} {i : Nat} (h : l.length ≤ i) : l.getD i d = d := by
  rw [List.getD_eq_getElem?_getD, List.getElem?_eq_none h]
  rfl
theorem getD_def {l : List Int} {d d' : Int} {i : Nat} (h : i < l.length) : l.getD i d = l.getD i d' := by
  rw [List.getD_eq_getElem?_getD, List.getD_eq_getElem?_getD, List.getElem?_eq_getElem h]
  rfl
section
variable {N : Nat} {gen tag : Int} {b : ByteArray} {h : List ByteArray} {c : Nat}
theorem put_on : ∀ (j : Nat) (K : KD) (nx : Int) (K' : KD) (t : Int), HOk (N - 111) K.H → putC N gen tag b j K nx = some (K', t) → ∃ qs, PutOn N gen tag b j K nx K' t qs
  | 0, K, nx, K', t, _, hp => by
    unfold putC at hp
    injection hp with hp
    injection hp with h1 h2
    subst h1 h2
    exact ⟨[], ⟨rfl, rfl, (fun i hi => by omega), (fun p hp => by cases hp), List.nodup_nil, (fun z => by simp), (fun z _ => rfl), rfl, rfl⟩⟩
  | j + 1, K, nx, K', t, ho, hp => by
    unfold putC at hp
    have hL := leastN_spec ho
    obtain ⟨k, hk⟩ : ∃ k, k = leastN K.H := ⟨_, rfl⟩
    rw [← hk] at hp hL
    split at hp
    · rename_i hlt
      have hkH : (k : Int) ∉ K.H := hL.not
      have ho1 : HOk (N - 111) (newK K k (bs (lkB gen tag b j nx).text)).H := ho.put (by omega) (by omega)
      obtain ⟨qs, q⟩ := put_on j (newK K k (bs (lkB gen tag b j nx).text)) k K' t ho1 hp
      have hm1 : ∀ z, z ∈ (newK K k (bs (lkB gen tag b j nx).text)).H ↔ z = (k : Int) ∨ z ∈ K.H := fun z => putL_mem _ _ _
      have hkq : (k : Int) ∉ qs := fun hm => (q.fresh _ hm).1 ((hm1 _).2 (.inl rfl))
      refine ⟨qs ++ [(k : Int)], ?_, ?_, ?_, ?_, ?_, ?_, ?_, ?_, ?_⟩
      · rw [List.length_append, q.len]
        rfl
      · rw [q.head]
        rcases Nat.eq_zero_or_pos qs.length with h0 | h0
        · rw [getD_ge (by omega), getD_snoc_eq (by omega)]
        · rw [getD_snoc_lt h0, getD_def h0]
      · intro i hi
        rcases Nat.lt_or_ge i j with h' | h'
        · have hil : i < qs.length := by rw [q.len]; exact h'
          rw [getD_snoc_lt hil, q.laid i h']
          congr 3
          rcases Nat.lt_or_ge (i + 1) qs.length with h2 | h2
          · rw [getD_snoc_lt h2, getD_def h2]
          · rw [getD_ge h2, getD_snoc_eq (by omega)]
        · obtain rfl : i = j := by omega
          rw [getD_snoc_eq q.len.symm, getD_ge (by rw [List.length_append, q.len]; simp), q.rest _ hkq]
          exact updF_same _ _ _
      · intro p hp
        rcases List.mem_append.1 hp with hp | hp
        · obtain ⟨a1, a2⟩ := q.fresh p hp
          exact ⟨fun hm => a1 ((hm1 _).2 (.inr hm)), a2⟩
        · rw [List.mem_singleton.1 hp]
          exact ⟨hkH, by omega, by omega⟩
      · rw [List.nodup_append]
        refine ⟨q.once, by simp, fun a ha b hb => ?_⟩
        rw [List.mem_singleton.1 hb]
        exact fun e => hkq (e ▸ ha)
      · intro z
        rw [q.mem, hm1]
        simp only [List.mem_append, List.mem_cons, List.not_mem_nil, or_false]
        constructor
        · rintro ((h | h) | h)
          · exact .inr (.inr h)
          · exact .inl h
          · exact .inr (.inl h)
        · rintro (h | h | h)
          · exact .inl (.inr h)
          · exact .inr h
          · exact .inl (.inl h)
      · intro z hz
        simp only [List.mem_append, List.mem_cons, List.not_mem_nil, or_false, not_or] at hz
        rw [q.rest z hz.1]
        exact updF_other _ _ hz.2
      · rw [q.cnt]
        show (putL (k : Int) K.H).length + j = _
        rw [putL_length _ _ hkH]
        omega
      · exact q.same
    · cases hp
/-- No room: none is put. -/
theorem put_none : ∀ (j : Nat) (K : KD) (nx : Int), HOk (N - 111) K.H → (putC N gen tag b j K nx = none ↔ N - 111 < K.H.length + j)
  | 0, K, nx, ho => by
    have := ho.few
    unfold putC
    constructor
    · intro h; cases h
    · intro h; omega
  | j + 1, K, nx, ho => by
    have hf := ho.few
    have hL := leastN_spec ho
    unfold putC
    obtain ⟨k, hk⟩ : ∃ k, k = leastN K.H := ⟨_, rfl⟩
    rw [← hk] at hL ⊢
    rcases Nat.lt_or_ge K.H.length (N - 111) with h' | h'
    · have hlt := least_lt ho hL h'
      rw [if_pos hlt, put_none j _ _ (ho.put (by omega) (by omega))]
      have : (newK K k (bs (lkB gen tag b j nx).text)).H.length = K.H.length + 1 := putL_length _ _ hL.not
      rw [this]
      omega
    · have e := hL.one (least_full ho (by omega))
      rw [if_neg (by omega)]
      constructor
      · intro _; omega
      · intro _; rfl
/-- A whole chain that was put. -/
theorem put_chain {K K' : KD} {t : Int} (hN : N ≤ 400) (ho : HOk (N - 111) K.H) (h0 : (0 : Int) ∈ K.H) (h1 : (1 : Int) ∈ K.H) (hf : fitsC gen tag = true) (hb : b.size ≤ 9440) (hp : putC N gen tag b (needN b.size) K 0 = some (K', t)) :
    ∃ ps, ChainOn K'.F gen tag 1 b ps ∧ t = ps.getD 0 0 ∧ PutOn N gen tag b (needN b.size) K 0 K' t ps := by
  obtain ⟨ps, q⟩ := put_on _ _ _ _ _ ho hp
  refine ⟨ps, ⟨of_decide_eq_true hf, by omega, hb, q.len, fun p hp => ?_, fun i hi => ?_⟩, q.head, q⟩
  · obtain ⟨a1, a2, a3⟩ := q.fresh p hp
    have : p ≠ 0 := fun e => a1 (e ▸ h0)
    have : p ≠ 1 := fun e => a1 (e ▸ h1)
    omega
  · rw [q.laid i (by rw [← q.len]; exact hi)]
    rfl
end
end Go.Proofs.YtnamokngiebicaaGreatDoor
