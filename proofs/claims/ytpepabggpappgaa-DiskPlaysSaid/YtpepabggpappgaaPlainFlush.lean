/-
  The document's Flush. No statement is proved here.
-/
import Derived.Test.YtpepabggpappgaaPlainCrash
namespace Go.Proofs.Ytpepabggpappgaa
open Go.RowKit

theorem turnsP_comp {w w1 w2 : World} {B : Nat} {O O' : List Nat} {g : Nat} {S : DS} (hO : ∀ b ∈ O', b ∈ O ∨ w.heap.size ≤ b) (hk : Keep O w w1) (h : TurnsP B O' g S w1 w2) : TurnsP B O g S w w2 := by
  obtain ⟨O3, t1, t2, t3⟩ := h
  refine ⟨O3, t1, fun b hb => ?_, hk.trans t3 hO⟩
  rcases t2 b hb with h | h
  · exact hO b h
  · exact .inr (Nat.le_trans hk.size h)
theorem failed_crash {S : DS} (h : S.fails = true) : S.failed = S.crash S.keep ∧ S.armed = true := by
  unfold DS.fails at h
  have ha : S.armed = true := by cases hA : S.armed <;> simp [hA] at h ⊢
  have h0 : S.left = 0 := by simpa [ha] using h
  exact ⟨by unfold DS.failed; rw [if_pos ha, if_neg (by omega)], ha⟩

set_option maxRecDepth 100000 in
set_option maxHeartbeats 4000000 in
theorem pflush_any {w : World} {B : Nat} {O : List Nat} {g : Nat} {S : DS} (h : PlainAt w B O g S) (hok : S.Ok) (hlb : S.left ≤ 9223372036854775807) (hns : 0 < S.safe.length ∧ S.safe.length ≤ 100000) :
    Calls Try.prog 30 #[.pointer (some ⟨g, 0, none⟩)] w fun e w' => e = .returned (.int .i64 S.errF) ∧ TurnsP B O g S.flush w w' := by
  have H := Lib.hid h
  by_cases hon : S.on = true
  · have HF := Lib.hid (pfalls_any h hlb)
    obtain ⟨vn0, vs0, vw0, nv0, ka0, km0, kc0, -, h0⟩ := h
    have c3 := h0.blk.cell 3
    simp [hon] at c3
    by_cases hf : S.fails = true
    · have R1 : S.errF = 14 := by unfold DS.errF; rw [if_pos hon, if_pos hf]
      have R2 : S.flush = S.crash S.keep := by unfold DS.flush; rw [if_pos hon, if_pos hf, (failed_crash hf).1]
      rw [R1, R2]
      rw [hf, if_pos rfl] at HF
      have HON := Lib.hid hon
      have HOK := Lib.hid hok
      have HNS := Lib.hid hns
      have HAR := Lib.hid (failed_crash hf).2
      clear R1 R2 h0 hok hlb hon hf hns
      go_enter Try.func30, Try.ntmps30
      go_upto_region 4 with (go_at_call 48; refine HF.out.mono ?_; rintro e w1 ⟨rfl, hT⟩)
      obtain ⟨O1, ⟨vn, vs, vw, nv, ka, km, kc, rfl, h1⟩, hO1, hK1⟩ := hT
      have HO1 := Lib.hid hO1
      have HK1 := Lib.hid hK1
      have c6 := h1.blk.cell 6
      simp at c6
      obtain ⟨_, a2, a3⟩ := h1.arm HAR.out
      have HC := Lib.hid (pcrash_on ka km kc S.keep h1 HOK.out HON.out a2 a3 HNS.out)
      clear h1 hO1 hK1 a2 a3 c3
      go_wp2_with (go_at_call 32; refine HC.out.mono ?_; rintro e w2 ⟨rfl, hT⟩)
      go_ret
      exact ⟨rfl, turnsP_comp HO1.out HK1.out hT⟩
    · have hff : S.fails = false := by simpa using hf
      have R1 : S.errF = 0 := by unfold DS.errF; rw [if_pos hon, if_neg hf]
      have R2 : S.flush = { S.failed with safe := S.now, dirty := [] } := by unfold DS.flush; rw [if_pos hon, if_neg hf]
      rw [R1, R2]
      rw [hff, if_neg (by decide)] at HF
      obtain ⟨s1, s2, s3⟩ := failed_same hff
      obtain ⟨S1, hS1⟩ : ∃ S1, S1 = S.failed := ⟨_, rfl⟩
      have HNL : Hid (0 < S1.now.length ∧ S1.now.length ≤ 100000) := Lib.hid (by rw [hS1, s1, hok.len]; exact hns)
      rw [← hS1] at HF s1 ⊢
      rw [← s1]
      clear R1 R2 h0 hok hlb hon hf hff s1 s2 s3 hS1 hns
      go_enter Try.func30, Try.ntmps30
      go_upto_region 6 with (go_at_call 48; refine HF.out.mono ?_; rintro e w1 ⟨rfl, hT⟩)
      obtain ⟨O1, ⟨vn, vs, vw, nv, ka, km, kc, rfl, h1⟩, hO1, hK1⟩ := hT
      obtain ⟨pn, cn, rfl, -⟩ := row_slice h1.now
      obtain ⟨ps, cs, rfl, -⟩ := row_slice h1.safe
      obtain ⟨pw, cw, rfl, -⟩ := row_slice h1.dirty
      obtain ⟨gn, cn', e, hBn, _⟩ := h1.now.form HNL.out.1
      injection e with e1 _ e3
      subst e1 e3
      have HO1 := Lib.hid hO1
      have HK1 := Lib.hid hK1
      have H1 := Lib.hid h1
      have hgl := h1.blk.lt
      have c0 := h1.blk.cell 0
      simp at c0
      obtain ⟨n, hn⟩ : ∃ n, n = S1.now.length := ⟨_, rfl⟩
      have HN := Lib.hid hn
      rw [← hn] at c0
      obtain ⟨K, hK⟩ : ∃ K, K = S1.now := ⟨_, rfl⟩
      have HKE := Lib.hid hK
      obtain ⟨i0, hi0, hz0, hz1, hz2⟩ := info_parts cltexts_info
      have HNW : Hid (∀ (j : Nat) (u : Value), (K.map Value.string)[j]? = some u → w1.cell? ((⟨gn, 0, none⟩ : Addr).add j) = some u) := Lib.hid (fun j u hu => by
        rw [Go.WideShapes.add_plain, Nat.zero_add]
        rw [hK] at hu
        exact row_cell h1.now hu)
      have HON : Hid (∀ u ∈ K.map Value.string, u.oneCell' = true) := Lib.hid (fun u hu => by
        obtain ⟨x, _, rfl⟩ := List.mem_map.1 hu
        rfl)
      have HKM : Hid ((K.map Value.string).length = n * 1) := Lib.hid (by rw [List.length_map, hK, hn]; omega)
      have hn2 : n ≤ 100000 := by have := HNL.out.2; omega
      have hnp : 0 < n := by have := HNL.out.1; omega
      clear hK hn h1 hO1 hK1 hBn c3
      go_upto_region 7 with (at_builtin; refine wpList_append_lies _ rfl (.const (.slice none 0 0)) (.tmp 20) 51 rfl w1.heap.size 9 i0 (.string .empty) 1 16 Try.underlying51 hi0 hz0 hz1 hz2 rfl (by omega) (.slice none 0 0) 0 [] rfl (World.ownsRow_nil _ _ _ _) ⟨gn, 0, none⟩ n cn (K.map Value.string) rfl HKM.out HNW.out HON.out hnp (by unfold maxLen; omega) (by omega) (Nat.le_refl _) _ rfl ?_; intro gq cq w2 hown1 hg1 hor hlt1; have hb1 : Blk w2 g 58 _ := (hg1.block g hgl (by simp [Value.ownBlock])).trans H1.out.blk; have HB1 := Lib.hid hb1; have HOW := Lib.hid hown1; have HG1 := Lib.hid hg1; have k1 := hb1.cell 1; have k2 := hb1.cell 2; have f1 := hb1.frozen 1; have f2 := hb1.frozen 2; simp at k1 k2; clear hown1 hg1 hb1 hor)
      go_wp2_with fail
      go_ret
      refine ⟨rfl, turnsP_comp HO1.out HK1.out ?_⟩
      have hgq : w1.heap.size ≤ gq := (HOW.out.lt gq rfl).1
      have hk1 : Keep [] w1 w2 := (Keep.refl _ _).by_in HG1.out (by intro g e; simp [Value.ownBlock] at e)
      have hk4 : Keep [g] w2 ((w2.setCell ⟨g, 1, none⟩ (.slice (some ⟨gq, 0, none⟩) n cq)).setCell ⟨g, 2, none⟩ (.slice none 0 0)) := ((Keep.refl _ _).put (.inl (by simp)) _ _).put (.inl (by simp)) _ _
      have hB : B ≤ w1.heap.size := by have := H1.out.low; have := H1.out.blk.lt; omega
      have hap := H1.out.apart
      simp only [List.nodup_cons, List.mem_append, not_or] at hap
      have hgn : g ≠ gn := fun e => hap.1.1 (by rw [e]; simp [Value.ownBlock])
      have hgnl : gn < w1.heap.size := (H1.out.now.lt gn rfl).2
      have e1 : S1.now.length = n := HN.out.symm
      have hkeep : Keep [g] w1 ((w2.setCell ⟨g, 1, none⟩ (.slice (some ⟨gq, 0, none⟩) n cq)).setCell ⟨g, 2, none⟩ (.slice none 0 0)) := (hk1.mono (by simp)).trans hk4 (by intro b hb; exact .inl hb)
      refine ⟨g :: ((Value.slice (some ⟨gn, 0, none⟩) S1.now.length cn).ownBlock.toList ++ ((Value.slice (some ⟨gq, 0, none⟩) n cq).ownBlock.toList ++ (Value.slice none 0 0).ownBlock.toList)), ⟨_, _, _, nv, ka, km, kc, rfl, ⟨(HB1.out.put 1 _).put 2 _, ?_, ?_, World.ownsRow_nil _ _ _ _, fun h => ?_, ?_, H1.out.low⟩⟩, ?_, ?_⟩
      · exact row_keep H1.out.now hkeep (by intro k e; cases e; simp; exact fun e => hgn e.symm)
      · show World.ownsRow _ B _ 1 _ S1.now.length (S1.now.map Value.string)
        rw [e1, ← HKE.out]
        have := row_mono HOW.out hB
        refine row_keep ?_ hk4 (by intro k e; cases e; simp; omega)
        simpa using this
      · obtain ⟨a1, a2, a3⟩ := H1.out.arm h
        exact ⟨a1, a2, a3.keep hkeep (by intro b hb; rw [List.mem_singleton.1 hb]; exact H1.out.low)⟩
      · simp only [Value.ownBlock, Option.toList_some, Option.toList_none, List.append_nil, List.singleton_append, List.nodup_cons, List.mem_cons, List.not_mem_nil, or_false, not_or, List.nodup_nil, and_true, not_false_eq_true]
        exact ⟨⟨hgn, by omega⟩, by omega⟩
      · intro b hb
        simp only [Value.ownBlock, Option.toList_some, Option.toList_none, List.append_nil, List.singleton_append, List.mem_cons, List.not_mem_nil, or_false] at hb
        rcases hb with rfl | rfl | rfl
        · exact .inl (by simp)
        · exact .inl (by simp [Value.ownBlock])
        · exact .inr hgq
      · exact hkeep.mono (by intro b hb; rw [List.mem_singleton.1 hb]; exact .inl (by simp))
  · have R1 : S.errF = 14 := by unfold DS.errF; rw [if_neg hon]
    have R2 : S.flush = S := by unfold DS.flush; rw [if_neg hon]
    rw [R1, R2]
    obtain ⟨vn0, vs0, vw0, nv0, ka0, km0, kc0, -, h0⟩ := h
    have c3 := h0.blk.cell 3
    simp [show S.on = false by simpa using hon] at c3
    clear R1 R2 h0 hok hlb hon hns
    go_enter Try.func30, Try.ntmps30
    go_wp2_with fail
    go_ret
    exact ⟨rfl, TurnsP.refl H.out⟩
end Go.Proofs.Ytpepabggpappgaa
