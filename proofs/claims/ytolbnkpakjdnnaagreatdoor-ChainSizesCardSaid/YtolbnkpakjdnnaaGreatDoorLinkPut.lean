/-
  Package chain's Put. No statement is proved here.
-/
import Derived.Test.YtolbnkpakjdnnaaGreatDoorLinkLay
import Derived.Test.YtolbnkpakjdnnaaGreatDoorLinkSmall
import Derived.Test.YtolbnkpakjdnnaaGreatDoorDeskSame
namespace Go.Proofs.YtolbnkpakjdnnaaGreatDoor
open Go.RowKit

/-- The link that Put lays at number n, where the next one stands at nx. -/
def lkB (gen tag : Int) (b : ByteArray) (n : Nat) (nx : Int) : LK := ⟨gen, tag, n, if n = 0 then 1 else 0, nx, pieceC b n, 0⟩
/-- What is put from number n down, the last one first. -/
noncomputable def putC (N : Nat) (gen tag : Int) (b : ByteArray) : Nat → KD → Int → Option (KD × Int)
  | 0, K, nx => some (K, nx)
  | n + 1, K, nx => if leastN K.H < N - 111 then putC N gen tag b n (newK K (leastN K.H) (bs (lkB gen tag b n nx).text)) (leastN K.H) else none
theorem lkB_ok {gen tag : Int} {b : ByteArray} {n : Nat} {nx : Int} (hf : fitsC gen tag = true) (hn : n < 40) (hx : 0 ≤ nx ∧ nx < 65536) : (lkB gen tag b n nx).Ok := by
  refine ⟨of_decide_eq_true hf, ⟨by show 0 ≤ (n : Int); omega, by show (n : Int) < 256; omega⟩, ?_, hx, ?_⟩
  · show 0 ≤ (if n = 0 then (1 : Int) else 0) ∧ (if n = 0 then (1 : Int) else 0) ≤ 60000
    split <;> omega
  · show (pieceC b n).size ≤ 236
    rw [pieceC_size]
    omega
/-- What Put leaves, and tells. -/
inductive PutSays (w0 w' : World) (g gd m N : Nat) (K : KD) (Ms : List MK) (h : List ByteArray) (c : Nat) (gen tag : Int) (b : ByteArray) (e : Ending) : Prop
  | arg (hf : fitsC gen tag = false) (he : e = .returned (.tuple #[.int .i64 0, .int .i64 1])) (hs : DMk w0 w' g gd m N K Ms)
  | long (hf : fitsC gen tag = true) (hb : 9440 < b.size) (he : e = .returned (.tuple #[.int .i64 0, .int .i64 2])) (hs : DMk w0 w' g gd m N K Ms)
  | full (hf : fitsC gen tag = true) (hb : b.size ≤ 9440) (hp : putC N gen tag b (needN b.size) K 0 = none) (he : e = .returned (.tuple #[.int .i64 0, .int .i64 20])) (hs : DMk w0 w' g gd m N K Ms)
  | done (hf : fitsC gen tag = true) (hb : b.size ≤ 9440) (K' : KD) (t : Int) (hp : putC N gen tag b (needN b.size) K 0 = some (K', t)) (he : e = .returned (.tuple #[.int .i64 t, .int .i64 0])) (hs : DMk w0 w' g gd m N K' Ms) (hr : Run11 N K' h c)
theorem PutSays.mono_m {w0 w' : World} {g gd m m' N : Nat} {K : KD} {Ms : List MK} {h : List ByteArray} {c : Nat} {gen tag : Int} {b : ByteArray} {e : Ending} (hm : m ≤ m') (p : PutSays w0 w' g gd m N K Ms h c gen tag b e) : PutSays w0 w' g gd m' N K Ms h c gen tag b e := by
  cases p with
  | arg a1 a2 a3 => exact .arg a1 a2 (a3.mono hm)
  | long a1 a2 a3 a4 => exact .long a1 a2 a3 (a4.mono hm)
  | full a1 a2 a3 a4 a5 => exact .full a1 a2 a3 a4 (a5.mono hm)
  | done a1 a2 K' t a3 a4 a5 a6 => exact .done a1 a2 K' t a3 a4 (a5.mono hm) a6
set_option maxRecDepth 100000 in
set_option maxHeartbeats 16000000 in
theorem kput_chain {w0 w : World} {g gd m N : Nat} {K : KD} {Ms : List MK} {h : List ByteArray} {c : Nat} (s : DMk w0 w g gd m N K Ms) (r : Run11 N K h c) (hm : m ≤ 900000) (gen tag : Int) (b : ByteArray) (hb : b.size ≤ 100000) :
    Calls Tryz.prog 14 #[.pointer (some ⟨g, 0, none⟩), .int .i64 gen, .int .i64 tag, .string b] w fun e w' => PutSays w0 w' g gd (m + 40) N K Ms h c gen tag b e := by
  have HFT := Lib.hid (lkfits_any gen tag)
  obtain ⟨ft, hft⟩ : ∃ ft, ft = fitsC gen tag := ⟨_, rfl⟩
  rw [← hft] at HFT
  have HS := Lib.hid s
  have HR := Lib.hid r
  have HF := Lib.hid hft
  obtain ⟨sz, hsz⟩ : ∃ sz, sz = b.size := ⟨_, rfl⟩
  have HSZ := Lib.hid hsz
  have hsB : (b.size : Int) = (sz : Int) := by rw [hsz]
  have hszI : (sz : Int) ≤ 100000 := by rw [hsz]; omega
  have HM := Lib.hid hm
  clear s r hft hsz hb hm
  cases ft with
  | false =>
    go_enter Tryz.func14, Tryz.ntmps14
    go_wp2_with (go_at_call 57; refine (HFT.out _).mono ?_; rintro e w1 ⟨rfl, rfl⟩)
    go_ret2
    exact .arg HF.out.symm rfl (HS.out.mono (by omega))
  | true =>
  by_cases hbig : 9440 < sz
  · have hbI : 9440 < (sz : Int) := by omega
    have HBG := Lib.hid hbig
    clear hbig
    go_enter Tryz.func14, Tryz.ntmps14
    go_wp2_with (go_at_call 57; refine (HFT.out _).mono ?_; rintro e w1 ⟨rfl, rfl⟩)
    go_ret2
    exact .long HF.out.symm (by rw [← HSZ.out]; exact HBG.out) rfl (HS.out.mono (by omega))
  have hbI : ¬ 9440 < (sz : Int) := by omega
  have HBS : Hid (b.size ≤ 9440) := Lib.hid (by rw [← HSZ.out]; omega)
  have HNE : Hid (∀ w1, Calls Tryz.prog 26 #[.int .i64 (sz : Int)] w1 fun e w' => e = .returned (.int .i64 (needN sz : Int)) ∧ w' = w1) := Lib.hid (fun w1 => by
    have := lkneed_any (sz : Int) w1 (by omega)
    rwa [show needI (sz : Int) = (needN sz : Int) from by unfold needI; rw [if_neg (by omega), Int.toNat_natCast]] at this)
  obtain ⟨q, hq⟩ : ∃ q, q = needN sz := ⟨_, rfl⟩
  rw [← hq] at HNE
  have hq40 : q ≤ 40 := by rw [hq]; exact (needN_le (by omega)).2
  have hq1 : 1 ≤ q := by rw [hq]; exact (needN_le (n := sz) (by omega)).1
  have HQ : Hid (q = needN b.size) := Lib.hid (by rw [hq, HSZ.out])
  have HQS : Hid (∀ j : Nat, j < q → j * 236 ≤ sz) := Lib.hid (fun j hj => by rw [hq] at hj; unfold needN at hj; split at hj <;> omega)
  have hqw : IntKind.i64.wrap ((q : Int) - 1) = (q : Int) - 1 := by rw [IntKind.wrap_i64]; omega
  clear hq hbig
  go_enter Tryz.func14, Tryz.ntmps14
  go_wp2_with (go_at_call 57; refine (HFT.out _).mono ?_; rintro e w1 ⟨rfl, rfl⟩)
  refine (dmk_mark HS.out HR.out).mono ?_
  rintro e w2 ⟨st, rfl, hs2, -⟩
  have HS2 := Lib.hid (hs2.hold (w' := w2.alloc (.cells #[.pointer (some ⟨st, 0, none⟩)] 79)) ((Below.refl _ _).alloc (Nat.le_refl _) _) (Nat.le_refl _) (Blk.new w2 79 #[.pointer (some ⟨st, 0, none⟩)]))
  clear hs2 HS
  go_wp2_with (go_at_call 26; refine (HNE.out _).mono ?_; rintro e w3 ⟨rfl, rfl⟩)
  go_loopw [11, 12] (fun x i wr => ∃ (j m' : Nat) (K' : KD) (nx : Int), j ≤ q ∧ m' + j = m + q ∧ i = .int .i64 ((j : Int) - 1) ∧ x = .int .i64 nx ∧ 0 ≤ nx ∧ nx < 65536 ∧ Run11 N K' h c ∧ (∃ F H, K' = backK K F H) ∧ putC N gen tag b q K 0 = putC N gen tag b j K' nx ∧ DMk w0 wr g gd m' N K' (.held w2.heap.size (.cells #[.pointer (some ⟨st, 0, none⟩)] 79) :: .mark st K.syncs K.F K.H :: Ms)) (fun _ i _ => (intOf i + 1).toNat)
  case atStart => exact ⟨q, m, K, 0, Nat.le_refl _, rfl, rfl, rfl, by omega, by omega, HR.out, ⟨_, _, (backK_self K).symm⟩, rfl, HS2.out⟩
  case round =>
    obtain ⟨j, m', K', nx, hj, hmm, rfl, rfl, hn0, hn1, hr, hbk, hpc, hs⟩ := hrel
    have HSR := Lib.hid hs
    have HRR := Lib.hid hr
    have HBK := Lib.hid hbk
    have HPC := Lib.hid hpc
    have HMM := Lib.hid hmm
    have HNX := Lib.hid (And.intro hn0 hn1)
    clear hs hr hbk hpc hmm hn0 hn1 HS2
    rcases Nat.eq_zero_or_pos j with rfl | hjp
    · have HDN : Hid (putC N gen tag b (needN b.size) K 0 = some (K', nx)) := Lib.hid (by rw [← HQ.out, HPC.out]; rfl)
      go_wp2_with fail
      go_ret2
      exact .done HF.out.symm HBS.out K' nx HDN.out rfl ((HSR.out.less (fun M hM => by simp [hM])).mono (by have := HMM.out; omega)) HRR.out
    obtain ⟨i, rfl⟩ : ∃ i, j = i + 1 := ⟨j - 1, by omega⟩
    have HJQ := Lib.hid hj
    have hiI : (i : Int) < 40 := by omega
    have hi0 : ((i + 1 : Nat) : Int) - 1 = (i : Int) := by omega
    rw [hi0]
    obtain ⟨lo, hlo⟩ : ∃ lo, lo = i * 236 := ⟨_, rfl⟩
    obtain ⟨hi2, hhi⟩ : ∃ hi2, hi2 = min sz ((i + 1) * 236) := ⟨_, rfl⟩
    have hls : lo ≤ sz := by rw [hlo]; exact HQS.out i (by omega)
    have hlh : lo ≤ hi2 := by rw [hlo, hhi]; omega
    have hhs : hi2 ≤ sz := by rw [hhi]; omega
    have e1 : IntKind.i64.wrap ((i : Int) * 236) = (lo : Int) := by rw [IntKind.wrap_i64]; omega
    have e2 : IntKind.i64.wrap ((i : Int) + 1) = (i : Int) + 1 := by rw [IntKind.wrap_i64]; omega
    have e3 : IntKind.i64.wrap (((i : Int) + 1) * 236) = ((i : Int) + 1) * 236 := by rw [IntKind.wrap_i64]; omega
    have e4 : min (sz : Int) (((i : Int) + 1) * 236) = (hi2 : Int) := by omega
    obtain ⟨B, hB⟩ : ∃ B, B = b.extract lo hi2 := ⟨_, rfl⟩
    have HPB : Hid (B = pieceC b i) := Lib.hid (by rw [hB, hlo, hhi, HSZ.out]; rfl)
    have HOK : Hid ((lkB gen tag b i nx).Ok) := Lib.hid (lkB_ok HF.out.symm (by omega) HNX.out)
    have HLAY : Hid (∀ w1, Calls Tryz.prog 58 #[.agg #[.int .i64 gen, .int .i64 tag, .int .i64 (i : Int), .int .i64 (if i = 0 then 1 else 0), .int .i64 nx, .string B, .int .i64 0]] w1 fun e w' => e = .returned (.string (bs (lkB gen tag b i nx).text)) ∧ Below w1.heap.size w1 w') := Lib.hid (fun w1 => by
      have := lklay_any (lkB gen tag b i nx) w1 HOK.out
      rw [HPB.out]
      exact this)
    obtain ⟨X, hX⟩ : ∃ X, X = bs (lkB gen tag b i nx).text := ⟨_, rfl⟩
    rw [← hX] at HLAY
    have HXS : Hid (X.size = 256) := Lib.hid (by rw [hX, bs_size, HOK.out.text_len])
    have HXE := Lib.hid hX
    have HLS := Lib.hid (leastN_spec HRR.out.hok)
    obtain ⟨k, hk⟩ : ∃ k, k = leastN K'.H := ⟨_, rfl⟩
    rw [← hk] at HLS
    have HSTEP : Hid (putC N gen tag b q K 0 = if k < N - 111 then putC N gen tag b i (newK K' k X) k else none) := Lib.hid (by rw [HPC.out, putC, ← hk, hX])
    have HBE : Hid (B = b.extract lo hi2) := Lib.hid hB
    have HLO := Lib.hid hlo
    have HHI : Hid (hi2 = min sz ((i + 1) * 236)) := Lib.hid hhi
    have e5 : IntKind.i64.wrap ((i : Int) - 1) = (i : Int) - 1 := by rw [IntKind.wrap_i64]; omega
    have hsl : (lo : Int) ≤ (hi2 : Int) := by omega
    have hsl2 : (hi2 : Int) ≤ (sz : Int) := by omega
    clear hB hX hk hlo hhi hjp hi0
    have HNEW : Hid (∀ (w1 : World), Below wr.heap.size wr w1 → Calls Tryz.prog 35 #[.pointer (some ⟨g, 0, none⟩), .string X] w1 fun e w' =>
      (k = N - 111 ∧ e = .returned (.tuple #[.int .i64 0, .int .i64 20]) ∧ DMk w0 w' g gd (m' + 1) N K' (.held w2.heap.size (.cells #[.pointer (some ⟨st, 0, none⟩)] 79) :: .mark st K.syncs K.F K.H :: Ms)) ∨
      (k < N - 111 ∧ e = .returned (.tuple #[.int .i64 (k : Int), .int .i64 0]) ∧ DMk w0 w' g gd (m' + 1) N (newK K' k X) (.held w2.heap.size (.cells #[.pointer (some ⟨st, 0, none⟩)] 79) :: .mark st K.syncs K.F K.H :: Ms))) := Lib.hid (fun w1 hb1 => dmk_new (HSR.out.below hb1) HRR.out (by have := HMM.out; have := HM.out; omega) HLS.out HXS.out)
    by_cases hi00 : i = 0
    · subst hi00
      obtain rfl : lo = 0 := by have := HLO.out; omega
      have e6 : min (sz : Int) 236 = (hi2 : Int) := by have := HHI.out; omega
      have hi20 : (0 : Int) ≤ (hi2 : Int) := by omega
      have HLAY1 : Hid (∀ w1, Calls Tryz.prog 58 #[.agg #[.int .i64 gen, .int .i64 tag, .int .i64 0, .int .i64 1, .int .i64 nx, .string B, .int .i64 0]] w1 fun e w' => e = .returned (.string X) ∧ Below w1.heap.size w1 w') := HLAY
      clear HLAY e1 e2 e3 e4 e5 hsl hiI
      go_wp2_with fail
      rw [← HBE.out]
      refine (HLAY1.out _).mono ?_
      rintro e w4 ⟨rfl, hb4⟩
      have HB4 : Hid (Below wr.heap.size wr w4) := Lib.hid (((Below.refl wr.heap.size wr).alloc (Nat.le_refl _) (.cells #[.int .i64 gen, .int .i64 tag, .int .i64 0, .int .i64 1, .int .i64 nx, .string B, .int .i64 0] 103)).trans (hb4.mono (by simp)))
      clear hb4 HLAY1
      go_wp2_with fail
      refine (HNEW.out _ HB4.out).mono ?_
      rintro e w5 (⟨hkk, rfl, hs5⟩ | ⟨hkk, rfl, hs5⟩)
      · have HS5 := Lib.hid hs5
        have HKK := Lib.hid hkk
        have cm := Blk.cell (show Blk w5 w2.heap.size 79 #[.pointer (some ⟨st, 0, none⟩)] from hs5.held (by simp)) 0
        simp at cm
        have HBA : Hid (Calls Tryz.prog 43 #[.pointer (some ⟨g, 0, none⟩), .agg #[.pointer (some ⟨st, 0, none⟩)]] w5 fun e w' => e = .returned (.tuple #[]) ∧ DMk w0 w' g gd (m' + 1) N K (.held w2.heap.size (.cells #[.pointer (some ⟨st, 0, none⟩)] 79) :: .mark st K.syncs K.F K.H :: Ms)) := Lib.hid (by
          obtain ⟨F, H, hbk⟩ := HBK.out
          have := dmk_back HS5.out HRR.out (st := st) (sy := K.syncs) (F := K.F) (H := K.H) (by simp) (by rw [hbk]; rfl)
          rw [show backK K' K.F K.H = K by rw [hbk]; rfl] at this
          exact this)
        clear hs5 hkk HNEW HB4
        go_wp2_with fail
        clear cm
        refine HBA.out.mono ?_
        rintro e w6 ⟨rfl, hs6⟩
        have HS6 := Lib.hid hs6
        clear hs6
        go_wp2_with fail
        go_ret2
        exact .full HF.out.symm HBS.out (by rw [← HQ.out, HSTEP.out, if_neg (by have := HKK.out; omega)]) rfl ((HS6.out.less (fun M hM => by simp [hM])).mono (by have := HMM.out; omega))
      · have HS5 := Lib.hid hs5
        have HKK := Lib.hid hkk
        have HRN : Hid (Run11 N (newK K' k X) h c) := Lib.hid (HRR.out.new HLS.out hkk HXS.out)
        have HBN : Hid (∃ F H, newK K' k X = backK K F H) := Lib.hid (by obtain ⟨F, H, hbk⟩ := HBK.out; exact ⟨_, _, by rw [hbk]; rfl⟩)
        have HPN : Hid (putC N gen tag b q K 0 = putC N gen tag b 0 (newK K' k X) k) := Lib.hid (by rw [HSTEP.out, if_pos hkk])
        have hdim : Hid (N ≤ 400) := Lib.hid HRR.out.ok.dim.2
        clear hs5 hkk HNEW HB4
        go_wp2_with fail
        refine ⟨⟨0, m' + 1, newK K' k X, (k : Int), by have := HJQ.out; omega, by have := HMM.out; omega, by go_num, rfl, by omega, by have := HKK.out; have := hdim.out; omega, HRN.out, HBN.out, HPN.out, HS5.out⟩, ?_⟩
        simp [intOf]
        try omega
    · have hi0 : ((i : Int) == 0) = false := by simp; omega
      have HLAY1 : Hid (∀ w1, Calls Tryz.prog 58 #[.agg #[.int .i64 gen, .int .i64 tag, .int .i64 (i : Int), .int .i64 0, .int .i64 nx, .string B, .int .i64 0]] w1 fun e w' => e = .returned (.string X) ∧ Below w1.heap.size w1 w') := Lib.hid (by have := HLAY.out; rwa [if_neg hi00] at this)
      clear hi00 HLAY
      go_wp2_with fail
      rw [← HBE.out]
      refine (HLAY1.out _).mono ?_
      rintro e w4 ⟨rfl, hb4⟩
      have HB4 : Hid (Below wr.heap.size wr w4) := Lib.hid (((Below.refl _ _).alloc (Nat.le_refl _) _).trans (hb4.mono (by simp)))
      clear hb4 HLAY1
      go_wp2_with fail
      refine (HNEW.out _ HB4.out).mono ?_
      rintro e w5 (⟨hkk, rfl, hs5⟩ | ⟨hkk, rfl, hs5⟩)
      · have HS5 := Lib.hid hs5
        have HKK := Lib.hid hkk
        have cm := Blk.cell (show Blk w5 w2.heap.size 79 #[.pointer (some ⟨st, 0, none⟩)] from hs5.held (by simp)) 0
        simp at cm
        have HBA : Hid (Calls Tryz.prog 43 #[.pointer (some ⟨g, 0, none⟩), .agg #[.pointer (some ⟨st, 0, none⟩)]] w5 fun e w' => e = .returned (.tuple #[]) ∧ DMk w0 w' g gd (m' + 1) N K (.held w2.heap.size (.cells #[.pointer (some ⟨st, 0, none⟩)] 79) :: .mark st K.syncs K.F K.H :: Ms)) := Lib.hid (by
          obtain ⟨F, H, hbk⟩ := HBK.out
          have := dmk_back HS5.out HRR.out (st := st) (sy := K.syncs) (F := K.F) (H := K.H) (by simp) (by rw [hbk]; rfl)
          rw [show backK K' K.F K.H = K by rw [hbk]; rfl] at this
          exact this)
        clear hs5 hkk HNEW HB4
        go_wp2_with fail
        clear cm
        refine HBA.out.mono ?_
        rintro e w6 ⟨rfl, hs6⟩
        have HS6 := Lib.hid hs6
        clear hs6
        go_wp2_with fail
        go_ret2
        exact .full HF.out.symm HBS.out (by rw [← HQ.out, HSTEP.out, if_neg (by have := HKK.out; omega)]) rfl ((HS6.out.less (fun M hM => by simp [hM])).mono (by have := HMM.out; omega))
      · have HS5 := Lib.hid hs5
        have HKK := Lib.hid hkk
        have HRN : Hid (Run11 N (newK K' k X) h c) := Lib.hid (HRR.out.new HLS.out hkk HXS.out)
        have HBN : Hid (∃ F H, newK K' k X = backK K F H) := Lib.hid (by obtain ⟨F, H, hbk⟩ := HBK.out; exact ⟨_, _, by rw [hbk]; rfl⟩)
        have HPN : Hid (putC N gen tag b q K 0 = putC N gen tag b i (newK K' k X) k) := Lib.hid (by rw [HSTEP.out, if_pos hkk])
        have hdim : Hid (N ≤ 400) := Lib.hid HRR.out.ok.dim.2
        clear hs5 hkk HNEW HB4
        go_wp2_with fail
        refine ⟨⟨i, m' + 1, newK K' k X, (k : Int), by have := HJQ.out; omega, by have := HMM.out; omega, by go_num, rfl, by omega, by have := HKK.out; have := hdim.out; omega, HRN.out, HBN.out, HPN.out, HS5.out⟩, ?_⟩
        simp [intOf]
        try omega
end Go.Proofs.YtolbnkpakjdnnaaGreatDoor
