/-
  The document's Write. No statement is proved here.
-/
import Derived.Test.YtpepabggpappgaaPlainPut
import Derived.Test.YtpepabggpappgaaDiskCalls
namespace Go.Proofs.Ytpepabggpappgaa
open Go.RowKit

theorem pwrite_info : (Try.prog.info? 84).map (fun i => (i.zero, i.size, i.bytes)) = some (some (.agg #[.int .i64 0, .string .empty]), 2, 24) := by kernel_rfl
theorem PlainAt.drewN {w : World} {B : Nat} {O : List Nat} {g : Nat} {S : DS} (h : PlainAt w B O g S) (n : Nat) : PlainAt (w.drewN n) B O g S := h.far (O2 := []) ((Keep.refl _ _).drewN n) (by simp) (by simp)
theorem TurnsP.drewN {w w' : World} {B : Nat} {O : List Nat} {g : Nat} {S : DS} (h : TurnsP B O g S w w') (n : Nat) : TurnsP B O g S w (w'.drewN n) := by
  obtain ⟨O', h1, h2, h3⟩ := h
  exact ⟨O', h1.drewN n, h2, h3.drewN n⟩

/-- What a sector written leaves, the power asked ahead of it. -/
theorem pwrote {T T1 : DS} {bb : Bool} (hb : bb = T.fails) (h1 : T1 = if T.fails = true then T else T.failed) :
    T1.now = T.now ∧ T1.safe = T.safe ∧ T1.dirty = T.dirty ∧ T1.writes = T.writes ∧ (T.on = true → T1.on = true) ∧ (T.Ok → T1.Ok) ∧
      (bb = false → ∀ i x, (T.put i x).failed = T1.put i x) ∧ (bb = true → ∀ i x, (T.put i x).failed = (T1.put i x).crash T1.keep ∧ T1.armed = true) := by
  by_cases hf : T.fails = true
  · rw [if_pos hf] at h1
    subst h1
    refine ⟨rfl, rfl, rfl, rfl, id, id, fun h => ?_, fun _ i x => ⟨put_failed_yes hf i x, (failed_crash hf).2⟩⟩
    rw [hb, hf] at h; cases h
  · have hff : T.fails = false := by simpa using hf
    rw [if_neg hf] at h1
    obtain ⟨s1, s2, s3⟩ := failed_same hff
    refine ⟨by rw [h1, s1], by rw [h1, s2], by rw [h1, s3], by rw [h1, DS.failed_writes], fun ho => ?_, fun ho => by rw [h1]; exact ho.failed, fun _ i x => by rw [h1]; exact put_failed_no hff i x, fun h => ?_⟩
    · rw [h1]
      unfold DS.fails at hff
      unfold DS.failed
      split
      · split
        · exact ho
        · simp_all
      · exact ho
    · rw [hb, hff] at h; cases h

set_option maxRecDepth 100000 in
set_option maxHeartbeats 8000000 in
theorem pwrite_any {w : World} {B : Nat} {O : List Nat} {g : Nat} {S : DS} (A : Option Addr) (m c : Nat) (l : List (Int × ByteArray)) (h : PlainAt w B O g S) (hok : S.Ok) (hl : l.length = m) (hA : Wrts w O A l) (hlb : S.left ≤ 9223372036854775807) (hwb : S.writes + m < 1000000000000) (hdb : S.dirty.length + m < 1000000000000) (hns : 0 < S.now.length ∧ S.now.length ≤ 100000) :
    Calls Try.prog 27 #[.pointer (some ⟨g, 0, none⟩), .slice A m c] w fun e w' => e = .returned (.int .i64 (S.errW l)) ∧ TurnsP B O g (S.write l) w w' := by
  have H := Lib.hid h
  have HA := Lib.hid hA
  have HL := Lib.hid hl
  have HOK := Lib.hid hok
  have HNS := Lib.hid hns
  have hm : (m : Int) ≤ 9223372036854775807 := by omega
  by_cases hon : S.on = true
  · have R1 : S.errW l = S.errL l := by unfold DS.errW; rw [if_pos hon]
    have R2 : S.write l = S.writeL l := by unfold DS.write; rw [if_pos hon]
    rw [R1, R2]
    obtain ⟨ee, hee⟩ : ∃ ee, ee = S.errL l := ⟨_, rfl⟩
    rw [← hee]
    have HEE := Lib.hid hee
    have HON := Lib.hid hon
    have HLB := Lib.hid hlb
    have HWB := Lib.hid hwb
    have HDB := Lib.hid hdb
    clear R1 R2 h hok hon hl hA hee hlb hwb hdb hns
    go_enter Try.func27, Try.ntmps27
    go_wp2_with fail
    go_loopw [5] (fun i wr => ∃ (j : Nat) (T : DS), j ≤ m ∧ i = .int .i64 j ∧ TurnsP B O g T w wr ∧ T.Ok ∧ T.on = true ∧ T.now.length = S.now.length ∧ T.writes ≤ S.writes + j ∧ T.dirty.length ≤ S.dirty.length + j ∧ T.left ≤ S.left ∧ S.errL l = T.errL (l.drop j) ∧ S.writeL l = T.writeL (l.drop j)) (fun i _ => m - (intOf i).toNat)
    case atStart => exact ⟨0, S, Nat.zero_le _, rfl, TurnsP.refl H.out, HOK.out, HON.out, rfl, by omega, by omega, Nat.le_refl _, rfl, rfl⟩
    case round =>
      obtain ⟨j, T, hj, rfl, hT, hTok, hTon, hTn, hTw, hTd, hTl, he1, he2⟩ := hrel
      have HT := Lib.hid hT
      have HE1 := Lib.hid he1
      have HE2 := Lib.hid he2
      have HTO := Lib.hid hTok
      have HTN := Lib.hid hTn
      have HTON := Lib.hid hTon
      have HTW : Hid (T.writes < 1000000000000 ∧ T.dirty.length < 1000000000000 ∧ T.left ≤ 9223372036854775807) := Lib.hid (by
        have := HWB.out
        have := HDB.out
        have := HLB.out
        by_cases hh : j < m
        · omega
        · omega)
      have HTB := Lib.hid (And.intro hTw (And.intro hTd hTl))
      clear hT he1 he2 hTok hTw hTd hTl hTn
      by_cases hlt : j < m
      · have hjl : j < l.length := by rw [HL.out]; exact hlt
        obtain ⟨b, off, rfl, hbw, hbO, hc⟩ := HA.out (by omega)
        obtain ⟨x, hx⟩ : ∃ x, x = l[j] := ⟨_, rfl⟩
        have hxj : l[j]? = some x := by rw [hx]; exact List.getElem?_eq_getElem hjl
        have hdrop : l.drop j = x :: l.drop (j + 1) := by rw [List.drop_eq_getElem_cons hjl, hx]
        have HDR := Lib.hid hdrop
        have HC := Lib.hid (hc j x hxj)
        have HBW := Lib.hid (And.intro hbw hbO)
        obtain ⟨O1, hD, hO1, hK1⟩ := HT.out
        have HD := Lib.hid hD
        have HO1 := Lib.hid hO1
        have HK1 := Lib.hid hK1
        have hbb : wr.heap[b]? = w.heap[b]? := hK1.block b hbw hbO
        have d0 : wr.cell? ⟨b, off + j * 2, none⟩ = some (.int .i64 x.1) := (World.cell?_of_block (a := ⟨b, off + j * 2, none⟩) hbb).trans HC.out.1
        have d1 : wr.cell? ⟨b, off + j * 2 + 1, none⟩ = some (.string x.2) := (World.cell?_of_block (a := ⟨b, off + j * 2 + 1, none⟩) hbb).trans HC.out.2
        obtain ⟨xa, xs⟩ := x
        simp only at d0 d1
        obtain ⟨vn0, vs0, vw0, nv0, ka0, km0, kc0, -, h0⟩ := hD
        obtain ⟨pn0, cn0, rfl, -⟩ := row_slice h0.now
        have c3 := h0.blk.cell 3
        have c0 := h0.blk.cell 0
        simp [hTon] at c3 c0
        obtain ⟨nn, hnn⟩ : ∃ nn, nn = T.now.length := ⟨_, rfl⟩
        have HNN := Lib.hid hnn
        rw [← hnn] at c0
        have hjI : (j : Int) < (m : Int) := by omega
        clear hx hxj hdrop hc hbb hbw hbO hjl h0 hO1 hK1 hnn
        by_cases hr0 : xa < 0
        · have q0 : T.err1 xa xs = 15 := by unfold DS.err1; rw [if_neg (by omega)]
          have q3 : T.write1 xa xs = T := by unfold DS.write1; rw [if_neg (by omega)]
          have q1 : T.errL ((xa, xs) :: l.drop (j + 1)) = 15 := by rw [DS.errL, q0, if_neg (by decide)]
          have q2 : T.writeL ((xa, xs) :: l.drop (j + 1)) = T := by rw [DS.writeL, q0, if_neg (by decide), q3]
          have HQ := Lib.hid (And.intro (HE1.out.trans (by rw [HDR.out, q1])) (HE2.out.trans (by rw [HDR.out, q2])))
          clear q0 q1 q2 q3 hTon
          go_wp2_with fail
          go_quiet (fail)
          go_wp2_with fail
          go_ret
          rw [HQ.out.2, HEE.out, HQ.out.1]
          exact ⟨rfl, HT.out.drewN _⟩
        · by_cases hr1 : xa < (nn : Int)
          · by_cases hd : xs.size = 256
            · obtain ⟨i, rfl⟩ : ∃ i : Nat, xa = (i : Int) := ⟨xa.toNat, by omega⟩
              obtain ⟨bb, hbb⟩ : ∃ bb, bb = T.fails := ⟨_, rfl⟩
              obtain ⟨T1, hT1⟩ : ∃ T1, T1 = if T.fails = true then T else T.failed := ⟨_, rfl⟩
              have HW := Lib.hid (pwrote hbb hT1)
              have HF : Hid (∀ k, Calls Try.prog 48 #[.pointer (some ⟨g, 0, none⟩)] (wr.drewN k) fun e w' => e = .returned (.bool bb) ∧ TurnsP B O1 g T1 wr w') := Lib.hid (fun k => by
                rw [hbb, hT1]
                refine (pfalls_any (HD.out.drewN k) HTW.out.2.2).mono ?_
                rintro e w1 ⟨rfl, hT⟩
                exact ⟨rfl, turnsP_comp (fun _ h => .inl h) ((Keep.refl _ _).drewN k) hT⟩)
              have hr1N : i < nn := by omega
              have HRI : Hid (i < T1.now.length) := Lib.hid (by rw [HW.out.1, ← HNN.out]; exact hr1N)
              have R0 : T.err1 (i : Int) xs = if bb = true then 14 else 0 := by
                unfold DS.err1
                rw [if_pos ⟨by omega, by rw [← HNN.out]; exact hr1⟩, if_pos hd, Int.toNat_natCast, put_fails, ← hbb]
              have R3 : T.write1 (i : Int) xs = (T.put i xs).failed := by
                unfold DS.write1
                rw [if_pos ⟨by omega, by rw [← HNN.out]; exact hr1, hd⟩, Int.toNat_natCast]
              have HR := Lib.hid (And.intro R0 R3)
              have hdI : (xs.size : Int) = 256 := by omega
              have hr2 : (0 : Int) ≤ (i : Int) := by omega
              clear hbb hT1 hTon R0 R3 hd
              go_wp2_with fail
              go_quiet (fail)
              go_upto_region 11 with (go_at_call 48; refine (HF.out _).mono ?_; rintro e w1 ⟨rfl, hT⟩)
              obtain ⟨O2, ⟨vn, vs, vw, nv, ka, km, kc, hO2e, h1⟩, hO2, hK2⟩ := hT
              obtain ⟨gn, cn, rfl, hBn, hgnl⟩ := h1.now.form (by have := HRI.out; omega)
              obtain ⟨pw, cw, rfl, -⟩ := row_slice h1.dirty
              have HKT := Lib.hid (HK1.out.trans hK2 HO1.out)
              have HO2 : Hid (∀ b ∈ O2, b ∈ O ∨ w.heap.size ≤ b) := Lib.hid (fun b hb => by
                rcases hO2 b hb with h | h
                · exact HO1.out b h
                · exact .inr (Nat.le_trans HK1.out.size h))
              have H1 := Lib.hid h1
              have HOE := Lib.hid hO2e
              clear c0 c3 d0 d1 HF
              have hbb1 : w1.heap[b]? = w.heap[b]? := HKT.out.block b HBW.out.1 HBW.out.2
              have d0 : w1.cell? ⟨b, off + j * 2, none⟩ = some (.int .i64 (i : Int)) := (World.cell?_of_block (a := ⟨b, off + j * 2, none⟩) hbb1).trans HC.out.1
              have d1 : w1.cell? ⟨b, off + j * 2 + 1, none⟩ = some (.string xs) := (World.cell?_of_block (a := ⟨b, off + j * 2 + 1, none⟩) hbb1).trans HC.out.2
              have c0 := h1.blk.cell 0
              simp at c0
              have q0 := row_cell h1.now (i := i) (u := .string (T1.now.getD i .empty)) (by
                rw [List.getElem?_map, List.getD_eq_getElem?_getD, List.getElem?_eq_getElem HRI.out]; rfl)
              have q1 := row_frozen h1.now i
              obtain ⟨X, hX⟩ : ∃ X, X = T1.now.getD i .empty := ⟨_, rfl⟩
              rw [← hX] at q0
              rw [HW.out.1, ← HNN.out] at c0
              clear hX h1 hO2 hK2 hO2e hBn hgnl hbb1
              go_still_tail 15, (by kernel_rfl)
              change wpList _ _ _ _ _ w1.drew
              go_upto_region 12 with fail
              clear c0 d0 d1 q0 q1
              obtain ⟨W1, hW1⟩ : ∃ W1, W1 = w1.setCell ⟨gn, i, none⟩ (.string xs) := ⟨_, rfl⟩
              rw [← hW1]
              have HD1 : Hid (PlainIs W1 B g (.slice (some ⟨gn, 0, none⟩) T1.now.length cn) vs (.slice pw T1.dirty.length cw) nv ka km kc { T1 with now := T1.now.set i xs }) := Lib.hid (by rw [hW1]; exact H1.out.sector i xs)
              have HKW1 : Hid (Keep O2 w1 W1) := Lib.hid (by rw [hW1]; exact (Keep.refl _ _).put (.inl (by rw [HOE.out]; simp [Value.ownBlock])) _ _)
              have HKT1 := Lib.hid (HKT.out.trans HKW1.out HO2.out)
              clear hW1
              obtain ⟨nd, hnd⟩ : ∃ nd, nd = T1.dirty.length := ⟨_, rfl⟩
              have hndb : nd < 1000000000000 := by rw [hnd, HW.out.2.2.1]; exact HTW.out.2.1
              obtain ⟨i0, hi0, hz0, hz1, hz2⟩ := info_parts pwrite_info
              have HE1' : Hid (World.ownsRow W1 B 84 2 (.slice pw nd cw) nd (flatW T1.dirty)) := Lib.hid (by rw [hnd]; exact HD1.out.dirty)
              have hBW : B ≤ W1.heap.size := by have := HD1.out.low; have := HD1.out.blk.lt; omega
              obtain ⟨gd, cap, Wf, hrun, hown, hgrow, hor, hlt'⟩ := run_append_lies (P := Try.prog) (W1.drew.drew.alloc (.cells #[.int .i64 (i : Int), .string xs] 84)) 56 56 B 84 i0 (.agg #[.int .i64 0, .string .empty]) 2 24 Try.underlying56 hi0 hz0 hz1 hz2 rfl (by omega)
                (.slice pw nd cw) nd (flatW T1.dirty) ((row_kept HE1'.out (fun _ _ => rfl) : World.ownsRow W1.drew.drew B 84 2 (.slice pw nd cw) nd (flatW T1.dirty)).alloc _) ⟨W1.heap.size, 0, none⟩ 1 1 [.int .i64 (i : Int), .string xs] rfl
                (World.news_of_block (heap_alloc_new W1.drew.drew (.cells #[.int .i64 (i : Int), .string xs] 84))) (by intro u hu; simp at hu; rcases hu with rfl | rfl <;> rfl) (by omega) (by unfold maxLen; omega) (by omega) (by simp; omega) _ rfl
              have HRUN := Lib.hid hrun
              have HOWN := Lib.hid hown
              have HOR := Lib.hid hor
              have hkf : Keep (Value.slice pw nd cw).ownBlock.toList W1 Wf := (((Keep.refl _ W1).drew.drew).alloc _).by_in hgrow (by intro g e; exact .inl (by simp [e]))
              have HKF := Lib.hid hkf
              have HVW : Hid (∀ b ∈ (Value.slice pw nd cw).ownBlock.toList, b ∈ O2) := Lib.hid (by intro b hb; rw [HOE.out, ← hnd]; simp only [List.mem_cons, List.mem_append]; exact .inr (.inr (.inr hb)))
              have hgx : g ∉ (Value.slice pw nd cw).ownBlock.toList := by
                have hdd := HD1.out.apart
                simp only [List.nodup_cons, List.mem_append, not_or] at hdd
                rw [hnd]; exact hdd.1.2.2
              have HC1 : Hid (∀ w' : World, (w' = W1.drew.drew ∨ w' = W1.drew.drew.alloc (.cells #[.int .i64 (i : Int), .string xs] 84) ∨ w' = Wf) →
                  w'.cell? ⟨g, 2, none⟩ = some (.slice pw nd cw) ∧ w'.cell? ⟨b, off + j * 2, none⟩ = some (.int .i64 (i : Int)) ∧ w'.cell? ⟨b, off + j * 2 + 1, none⟩ = some (.string xs)) := Lib.hid (by
                intro w' hw
                have hk : Keep (Value.slice pw nd cw).ownBlock.toList W1 w' := by
                  rcases hw with rfl | rfl | rfl
                  · exact (Keep.refl _ _).drew.drew
                  · exact (Keep.refl _ _).drew.drew.alloc _
                  · exact hkf
                have c2 := (show Blk w' g 58 _ from (hk.block g HD1.out.blk.lt hgx).trans HD1.out.blk).cell 2
                simp at c2
                have hbl : w'.heap[b]? = w.heap[b]? := (HKT1.out.trans hk (fun b hb => HO2.out b (HVW.out b hb))).block b HBW.out.1 HBW.out.2
                rw [← hnd] at c2
                exact ⟨c2, (World.cell?_of_block (a := ⟨b, off + j * 2, none⟩) hbl).trans HC.out.1, (World.cell?_of_block (a := ⟨b, off + j * 2 + 1, none⟩) hbl).trans HC.out.2⟩)
              have HGX := Lib.hid hgx
              have HND := Lib.hid hnd
              have hwbT : T1.writes < 1000000000000 := by rw [HW.out.2.2.2.1]; exact HTW.out.1
              clear hrun hown hgrow hor hkf hgx hnd hBW
              refine wp_region_sinks 63 18 80 3 (fun | 0 => .pointer (some ⟨g, 0, none⟩) | 1 => .pointer (some ⟨g, 0, none⟩) | 2 => .pointer (some ⟨g, 0, none⟩) | 3 => .pointer (some ⟨g, 2, none⟩) | 4 => .slice pw nd cw | 5 => .slice (some ⟨b, off, none⟩) m c | 6 => .int .i64 (j : Int) | 7 => .pointer (some ⟨b, off + j * 2, none⟩) | 8 => .pointer (some ⟨b, off + j * 2, none⟩) | 9 => .int .i64 (i : Int) | 10 => .slice (some ⟨b, off, none⟩) m c | 11 => .int .i64 (j : Int) | 12 => .pointer (some ⟨b, off + j * 2, none⟩) | 13 => .pointer (some ⟨b, off + j * 2 + 1, none⟩) | 14 => .string xs | 15 => .agg #[.int .i64 (i : Int), .string xs] | 16 => .slice (some ⟨W1.heap.size, 0, none⟩) 1 1 | _ => .slice (some ⟨gd, 0, none⟩) (nd + 1) cap)
                (fun L w' => w' = if L 17 then Wf else if L 16 then W1.drew.drew.alloc (.cells #[.int .i64 (i : Int), .string xs] 84) else W1.drew.drew) (by kernel_rfl) (by kernel_rfl) rfl (by omega) (by kernel_rfl) rfl (by simp) rfl ?hops ?hrest
              case hops =>
                intro o ho L x w' hc hF hLj hJ hw hv
                have hJ3 : w' = W1.drew.drew ∨ w' = W1.drew.drew.alloc (.cells #[.int .i64 (i : Int), .string xs] 84) ∨ w' = Wf := by
                  rw [hJ]
                  split
                  · exact .inr (.inr rfl)
                  · split
                    · exact .inr (.inl rfl)
                    · exact .inl rfl
                obtain ⟨k2, b0, b1⟩ := HC1.out w' hJ3
                have HJ := Lib.hid hJ
                clear hJ3 hJ
                rcases (show o = 0 ∨ o = 1 ∨ o = 2 ∨ o = 3 ∨ o = 4 ∨ o = 5 ∨ o = 6 ∨ o = 7 ∨ o = 8 ∨ o = 9 ∨ o = 10 ∨ o = 11 ∨ o = 12 ∨ o = 13 ∨ o = 14 ∨ o = 15 ∨ o = 16 ∨ o = 17 by omega) with rfl | rfl | rfl | rfl | rfl | rfl | rfl | rfl | rfl | rfl | rfl | rfl | rfl | rfl | rfl | rfl | rfl | rfl
                · have t0 : x.tmps[0]?.getD undef = .pointer (some ⟨g, 0, none⟩) := by rw [hF.2.2 0 (by omega)]; rfl
                  clear hw hv hF
                  refine wpOp_value (v := .pointer (some ⟨g, 0, none⟩)) (w' := w') rfl rfl ?_ ⟨rfl, HJ.out⟩
                  go_simp
                · have t0 : x.tmps[0]?.getD undef = .pointer (some ⟨g, 0, none⟩) := by rw [hF.2.2 0 (by omega)]; rfl
                  clear hw hv hF
                  refine wpOp_value (v := .pointer (some ⟨g, 0, none⟩)) (w' := w') rfl rfl ?_ ⟨rfl, HJ.out⟩
                  go_simp
                · have t0 : x.tmps[64]?.getD undef = .pointer (some ⟨g, 0, none⟩) := hv 1 (of_decide_eq_true (by kernel_rfl)) (by omega)
                  clear hw hv hF
                  refine wpOp_value (v := .pointer (some ⟨g, 0, none⟩)) (w' := w') rfl rfl ?_ ⟨rfl, HJ.out⟩
                  go_simp
                · have t0 : x.tmps[65]?.getD undef = .pointer (some ⟨g, 0, none⟩) := hv 2 (of_decide_eq_true (by kernel_rfl)) (by omega)
                  clear hw hv hF
                  refine wpOp_value (v := .pointer (some ⟨g, 2, none⟩)) (w' := w') rfl rfl ?_ ⟨rfl, HJ.out⟩
                  go_simp
                · have t0 : x.tmps[66]?.getD undef = .pointer (some ⟨g, 2, none⟩) := hv 3 (of_decide_eq_true (by kernel_rfl)) (by omega)
                  clear hw hv hF
                  refine wpOp_value (v := .slice pw nd cw) (w' := w') rfl rfl ?_ ⟨rfl, HJ.out⟩
                  go_simp
                · have t0 : x.tmps[1]?.getD undef = .slice (some ⟨b, off, none⟩) m c := by rw [hF.2.2 1 (by omega)]; rfl
                  clear hw hv hF
                  refine wpOp_value (v := .slice (some ⟨b, off, none⟩) m c) (w' := w') rfl rfl ?_ ⟨rfl, HJ.out⟩
                  go_simp
                · have t0 : x.tmps[5]?.getD undef = .int .i64 (j : Int) := by rw [hF.2.2 5 (by omega)]; rfl
                  clear hw hv hF
                  refine wpOp_value (v := .int .i64 (j : Int)) (w' := w') rfl rfl ?_ ⟨rfl, HJ.out⟩
                  go_simp
                · have t0 : x.tmps[68]?.getD undef = .slice (some ⟨b, off, none⟩) m c := hv 5 (of_decide_eq_true (by kernel_rfl)) (by omega)
                  have t1 : x.tmps[69]?.getD undef = .int .i64 (j : Int) := hv 6 (of_decide_eq_true (by kernel_rfl)) (by omega)
                  clear hw hv hF
                  refine wpOp_value (v := .pointer (some ⟨b, off + j * 2, none⟩)) (w' := w') rfl rfl ?_ ⟨rfl, HJ.out⟩
                  go_simp
                · have t0 : x.tmps[70]?.getD undef = .pointer (some ⟨b, off + j * 2, none⟩) := hv 7 (of_decide_eq_true (by kernel_rfl)) (by omega)
                  clear hw hv hF
                  refine wpOp_value (v := .pointer (some ⟨b, off + j * 2, none⟩)) (w' := w') rfl rfl ?_ ⟨rfl, HJ.out⟩
                  go_simp
                · have t0 : x.tmps[71]?.getD undef = .pointer (some ⟨b, off + j * 2, none⟩) := hv 8 (of_decide_eq_true (by kernel_rfl)) (by omega)
                  clear hw hv hF
                  refine wpOp_value (v := .int .i64 (i : Int)) (w' := w') rfl rfl ?_ ⟨rfl, HJ.out⟩
                  go_simp
                · have t0 : x.tmps[1]?.getD undef = .slice (some ⟨b, off, none⟩) m c := by rw [hF.2.2 1 (by omega)]; rfl
                  clear hw hv hF
                  refine wpOp_value (v := .slice (some ⟨b, off, none⟩) m c) (w' := w') rfl rfl ?_ ⟨rfl, HJ.out⟩
                  go_simp
                · have t0 : x.tmps[5]?.getD undef = .int .i64 (j : Int) := by rw [hF.2.2 5 (by omega)]; rfl
                  clear hw hv hF
                  refine wpOp_value (v := .int .i64 (j : Int)) (w' := w') rfl rfl ?_ ⟨rfl, HJ.out⟩
                  go_simp
                · have t0 : x.tmps[73]?.getD undef = .slice (some ⟨b, off, none⟩) m c := hv 10 (of_decide_eq_true (by kernel_rfl)) (by omega)
                  have t1 : x.tmps[74]?.getD undef = .int .i64 (j : Int) := hv 11 (of_decide_eq_true (by kernel_rfl)) (by omega)
                  clear hw hv hF
                  refine wpOp_value (v := .pointer (some ⟨b, off + j * 2, none⟩)) (w' := w') rfl rfl ?_ ⟨rfl, HJ.out⟩
                  go_simp
                · have t0 : x.tmps[75]?.getD undef = .pointer (some ⟨b, off + j * 2, none⟩) := hv 12 (of_decide_eq_true (by kernel_rfl)) (by omega)
                  clear hw hv hF
                  refine wpOp_value (v := .pointer (some ⟨b, off + j * 2 + 1, none⟩)) (w' := w') rfl rfl ?_ ⟨rfl, HJ.out⟩
                  go_simp
                · have t0 : x.tmps[76]?.getD undef = .pointer (some ⟨b, off + j * 2 + 1, none⟩) := hv 13 (of_decide_eq_true (by kernel_rfl)) (by omega)
                  clear hw hv hF
                  refine wpOp_value (v := .string xs) (w' := w') rfl rfl ?_ ⟨rfl, HJ.out⟩
                  go_simp
                · have t0 : x.tmps[72]?.getD undef = .int .i64 (i : Int) := hv 9 (of_decide_eq_true (by kernel_rfl)) (by omega)
                  have t1 : x.tmps[77]?.getD undef = .string xs := hv 14 (of_decide_eq_true (by kernel_rfl)) (by omega)
                  clear hw hv hF
                  refine wpOp_value (v := .agg #[.int .i64 (i : Int), .string xs]) (w' := w') rfl rfl ?_ ⟨rfl, HJ.out⟩
                  go_simp
                · have h7 : L 17 = false := by
                    cases h : L 17 with
                    | false => rfl
                    | true => rw [hc 17 h 16 (of_decide_eq_true (by kernel_rfl))] at hLj; cases hLj
                  have t0 : x.tmps[78]?.getD undef = .agg #[.int .i64 (i : Int), .string xs] := hv 15 (of_decide_eq_true (by kernel_rfl)) (by omega)
                  have hJ := HJ.out
                  rw [h7, hLj] at hJ
                  have hJ' : w' = W1.drew.drew := hJ
                  subst hJ'
                  clear hw hv hF hJ HJ
                  refine wpOp_value (v := .slice (some ⟨W1.heap.size, 0, none⟩) 1 1) (w' := W1.drew.drew.alloc (.cells #[.int .i64 (i : Int), .string xs] 84)) rfl rfl ?_ ⟨rfl, ?_⟩
                  · go_simp
                  · simp [h7]
                · have h6 : L 16 = true := hw 16 (of_decide_eq_true (by kernel_rfl))
                  have t0 : x.tmps[67]?.getD undef = .slice pw nd cw := hv 4 (of_decide_eq_true (by kernel_rfl)) (by omega)
                  have t1 : x.tmps[79]?.getD undef = .slice (some ⟨W1.heap.size, 0, none⟩) 1 1 := hv 16 (of_decide_eq_true (by kernel_rfl)) (by omega)
                  have hJ := HJ.out
                  rw [hLj, h6] at hJ
                  have hJ' : w' = W1.drew.drew.alloc (.cells #[.int .i64 (i : Int), .string xs] 84) := hJ
                  subst hJ'
                  refine wpOp_value (v := .slice (some ⟨gd, 0, none⟩) (nd + 1) cap) (w' := Wf) rfl rfl (exec_append rfl (by simpa [Act.eval] using t0) (by simpa [Act.eval] using t1) HRUN.out) ⟨rfl, by simp⟩
              case hrest =>
                intro L w' hL hJ
                rw [hL 17 (by omega)] at hJ
                have hJ' : w' = Wf := hJ
                subst hJ'
                clear hL hJ L
                obtain ⟨k2, _, _⟩ := HC1.out w' (.inr (.inr rfl))
                have fg : w'.frozen? ⟨g, 2, none⟩ = false := (World.frozen?_of_block (a := ⟨g, 2, none⟩) (HKF.out.block g HD1.out.blk.lt HGX.out)).trans (HD1.out.blk.frozen 2)
                rw [show List.range' 18 3 = [18, 19, 20] from rfl]
                simp only [putAll, List.range, List.range.loop, List.foldl, Nat.reduceAdd, List.setIfInBounds_toArray, List.set_cons_succ, List.set_cons_zero]
                rw [wpOps_cons]
                refine wpOp_value (v := .pointer (some ⟨g, 0, none⟩)) (w' := w') rfl rfl (by go_simp) ?_
                rw [wpOps_cons]
                refine wpOp_value (v := .pointer (some ⟨g, 2, none⟩)) (w' := w') rfl rfl (by simp only [Act.put, List.setIfInBounds_toArray]; go_simp) ?_
                rw [wpOps_cons]
                refine wpOp_skip (w' := w'.setCell ⟨g, 2, none⟩ (.slice (some ⟨gd, 0, none⟩) (nd + 1) cap)) rfl rfl (by simp only [Act.put, List.setIfInBounds_toArray]; go_simp) ?_
                simp only [wpOps, Act.put, List.setIfInBounds_toArray]
                clear k2 fg
                obtain ⟨W2, hW2⟩ : ∃ W2, W2 = w'.setCell ⟨g, 2, none⟩ (.slice (some ⟨gd, 0, none⟩) (nd + 1) cap) := ⟨_, rfl⟩
                have b2 := (show Blk w' g 58 _ from (HKF.out.block g HD1.out.blk.lt HGX.out).trans HD1.out.blk).put 2 (.slice (some ⟨gd, 0, none⟩) (nd + 1) cap)
                rw [← hW2] at b2
                rw [← hW2]
                have k7 := b2.cell 7
                have f7 := b2.frozen 7
                simp at k7
                have HW2 := Lib.hid hW2
                clear b2 hW2
                go_upto_region 14 with fail
                have HD2 : Hid (PlainIs (W2.setCell ⟨g, 7, none⟩ (.int .i64 ((T1.writes : Int) + 1))) B g (.slice (some ⟨gn, 0, none⟩) T1.now.length cn) vs (.slice (some ⟨gd, 0, none⟩) (nd + 1) cap) nv ka km kc (T1.put i xs)) := Lib.hid (by
                  have h1 := HOWN.out
                  have h2 := HOR.out
                  have h3 := HKF.out
                  rw [HW2.out]
                  rw [HND.out] at h1 h2 h3 ⊢
                  refine PlainIs.added HD1.out (i, xs) h3 h1 ?_
                  rcases h2 with h2 | h2
                  · exact .inl h2
                  · exact .inr (by rw [h2]; simp))
                have HKK : Hid (Keep O w (W2.setCell ⟨g, 7, none⟩ (.int .i64 ((T1.writes : Int) + 1)))) := Lib.hid (by
                  have hg2 : g ∈ O2 := by rw [HOE.out]; simp
                  rw [HW2.out]
                  exact HKT1.out.trans (O' := O2) (((HKF.out.mono (fun b hb => .inl (HVW.out b hb))).put (.inl hg2) _ _).put (.inl hg2) _ _) HO2.out)
                have HGD : Hid (∀ b ∈ g :: ((Value.slice (some ⟨gn, 0, none⟩) T1.now.length cn).ownBlock.toList ++ (vs.ownBlock.toList ++ (Value.slice (some ⟨gd, 0, none⟩) (nd + 1) cap).ownBlock.toList)), b ∈ O ∨ w.heap.size ≤ b) := Lib.hid (by
                  intro b hb
                  have hin : b ∈ O2 ∨ b = gd := by
                    rw [HOE.out]
                    simp only [List.mem_cons, List.mem_append] at hb ⊢
                    rcases hb with hb | hb | hb | hb
                    · exact .inl (.inl hb)
                    · exact .inl (.inr (.inl hb))
                    · exact .inl (.inr (.inr (.inl hb)))
                    · exact .inr (by simpa [Value.ownBlock] using hb)
                  rcases hin with hb | rfl
                  · exact HO2.out b hb
                  · rcases HOR.out with h2 | h2
                    · exact HO2.out b (HVW.out b (by rw [h2]; simp))
                    · exact .inr (by rw [h2]; exact Nat.le_trans HKT1.out.size (by simp)))
                obtain ⟨W3, hW3⟩ : ∃ W3, W3 = W2.setCell ⟨g, 7, none⟩ (.int .i64 ((T1.writes : Int) + 1)) := ⟨_, rfl⟩
                rw [← hW3] at HD2 HKK
                rw [← hW3]
                clear hW3 HW2 k7 f7 HOWN HOR HRUN HKF HC1 HE1' HD1 H1
                have HT1O := Lib.hid ((HW.out.2.2.2.2.2.1 HTO.out).put HRI.out xs)
                have HT1N := Lib.hid (HW.out.2.2.2.2.1 HTON.out)
                have k6 := HD2.out.blk.cell 6
                simp at k6
                cases bb with
                | true =>
                  obtain ⟨hy1, hy2⟩ := HW.out.2.2.2.2.2.2.2 rfl i xs
                  obtain ⟨_, a2, a3⟩ := HD2.out.arm (show (T1.put i xs).armed = true from hy2)
                  have HCR := Lib.hid (pcrash_on ka km kc T1.keep HD2.out HT1O.out HT1N.out a2 a3 (by
                    show 0 < T1.safe.length ∧ T1.safe.length ≤ 100000
                    rw [HW.out.2.1, ← HTO.out.len, HTN.out]
                    exact HNS.out))
                  have q1 : T.errL (((i : Int), xs) :: l.drop (j + 1)) = 14 := by rw [DS.errL, HR.out.1, if_pos rfl, if_neg (by decide)]
                  have q2 : T.writeL (((i : Int), xs) :: l.drop (j + 1)) = (T1.put i xs).crash T1.keep := by rw [DS.writeL, HR.out.1, if_pos rfl, if_neg (by decide), HR.out.2, hy1]
                  have HQ := Lib.hid (And.intro (HE1.out.trans (by rw [HDR.out, q1])) (HE2.out.trans (by rw [HDR.out, q2])))
                  clear hy1 hy2 a2 a3 q1 q2
                  go_wp2_with (go_at_call 32; refine HCR.out.mono ?_; rintro e w3 ⟨rfl, hT⟩)
                  go_ret
                  rw [HQ.out.2, HEE.out, HQ.out.1]
                  exact ⟨rfl, turnsP_comp HGD.out HKK.out hT⟩
                | false =>
                  have hy1 := HW.out.2.2.2.2.2.2.1 rfl i xs
                  have he : T.err1 (i : Int) xs = 0 := by rw [HR.out.1]; rfl
                  have hw1 : T.write1 (i : Int) xs = T1.put i xs := by rw [HR.out.2, hy1]
                  have q1 : T.errL (((i : Int), xs) :: l.drop (j + 1)) = (T1.put i xs).errL (l.drop (j + 1)) := by rw [DS.errL, if_pos he, hw1]
                  have q2 : T.writeL (((i : Int), xs) :: l.drop (j + 1)) = (T1.put i xs).writeL (l.drop (j + 1)) := by rw [DS.writeL, if_pos he, hw1]
                  have HQ := Lib.hid (And.intro (HE1.out.trans (by rw [HDR.out, q1])) (HE2.out.trans (by rw [HDR.out, q2])))
                  have h3 := HTB.out
                  have hleft := DS.write1_left T (i : Int) xs
                  rw [hw1] at hleft
                  have HB3 : Hid ((T1.put i xs).now.length = S.now.length ∧ (T1.put i xs).writes ≤ S.writes + (j + 1) ∧ (T1.put i xs).dirty.length ≤ S.dirty.length + (j + 1) ∧ (T1.put i xs).left ≤ S.left) := Lib.hid (by
                    refine ⟨?_, ?_, ?_, Nat.le_trans hleft h3.2.2⟩
                    · show (T1.now.set i xs).length = _
                      rw [List.length_set, HW.out.1, HTN.out]
                    · show T1.writes + 1 ≤ _
                      rw [HW.out.2.2.2.1]; omega
                    · show (T1.dirty ++ [_]).length ≤ _
                      rw [List.length_append, HW.out.2.2.1, List.length_singleton]; omega)
                  clear hy1 he hw1 q1 q2 h3 hleft k6
                  have hlen : j + 1 ≤ m := hlt
                  go_wp2_with fail
                  go_roundw
                  case rel => exact ⟨j + 1, T1.put i xs, hlen, by go_num, ⟨_, ⟨_, _, _, nv, ka, km, kc, rfl, HD2.out⟩, HGD.out, HKK.out⟩, HT1O.out, HT1N.out, HB3.out.1, HB3.out.2.1, HB3.out.2.2.1, HB3.out.2.2.2, HQ.out.1, HQ.out.2⟩
                  case measure => simp [intOf]; omega
            · have q0 : T.err1 xa xs = 1 := by unfold DS.err1; rw [if_pos ⟨by omega, by rw [← HNN.out]; exact hr1⟩, if_neg hd]
              have q3 : T.write1 xa xs = T := by unfold DS.write1; rw [if_neg (fun h => hd h.2.2)]
              have q1 : T.errL ((xa, xs) :: l.drop (j + 1)) = 1 := by rw [DS.errL, q0, if_neg (by decide)]
              have q2 : T.writeL ((xa, xs) :: l.drop (j + 1)) = T := by rw [DS.writeL, q0, if_neg (by decide), q3]
              have HQ := Lib.hid (And.intro (HE1.out.trans (by rw [HDR.out, q1])) (HE2.out.trans (by rw [HDR.out, q2])))
              have hdn : ((xs.size : Int) == 256) = false := beq_eq_false_iff_ne.2 (by omega)
              have hdm : ((xs.size : Int) != 256) = true := bne_iff_ne.2 (by omega)
              have hr2 : (0 : Int) ≤ xa := by omega
              clear q0 q1 q2 q3 hTon hd
              go_wp2_with fail
              go_quiet (fail)
              go_wp2_with fail
              go_ret
              rw [HQ.out.2, HEE.out, HQ.out.1]
              exact ⟨rfl, HT.out.drewN _⟩
          · have q0 : T.err1 xa xs = 15 := by unfold DS.err1; rw [if_neg (by rw [← HNN.out]; omega)]
            have q3 : T.write1 xa xs = T := by unfold DS.write1; rw [if_neg (by rw [← HNN.out]; omega)]
            have q1 : T.errL ((xa, xs) :: l.drop (j + 1)) = 15 := by rw [DS.errL, q0, if_neg (by decide)]
            have q2 : T.writeL ((xa, xs) :: l.drop (j + 1)) = T := by rw [DS.writeL, q0, if_neg (by decide), q3]
            have HQ := Lib.hid (And.intro (HE1.out.trans (by rw [HDR.out, q1])) (HE2.out.trans (by rw [HDR.out, q2])))
            have hr2 : (0 : Int) ≤ xa := by omega
            clear q0 q1 q2 q3 hTon
            go_wp2_with fail
            go_quiet (fail)
            go_wp2_with fail
            go_ret
            rw [HQ.out.2, HEE.out, HQ.out.1]
            exact ⟨rfl, HT.out.drewN _⟩
      · obtain rfl : j = m := by omega
        have hd : l.drop j = [] := List.drop_of_length_le (by rw [HL.out]; exact Nat.le_refl _)
        have q1 : ee = 0 := by rw [HEE.out, HE1.out, hd]; rfl
        have HQ : Hid (S.writeL l = T) := Lib.hid (by rw [HE2.out, hd]; rfl)
        obtain ⟨O1, hD, hO1, hK1⟩ := HT.out
        obtain ⟨vn0, vs0, vw0, nv0, ka0, km0, kc0, -, h0⟩ := hD
        have c3 := h0.blk.cell 3
        simp [hTon] at c3
        clear hd hO1 hK1 h0 hTon
        go_wp2_with fail
        go_ret
        rw [HQ.out]
        exact ⟨by rw [q1]; rfl, HT.out⟩
  · have R1 : S.errW l = 14 := by unfold DS.errW; rw [if_neg hon]
    have R2 : S.write l = S := by unfold DS.write; rw [if_neg hon]
    rw [R1, R2]
    obtain ⟨vn0, vs0, vw0, nv0, ka0, km0, kc0, -, h0⟩ := h
    have c3 := h0.blk.cell 3
    simp [show S.on = false by simpa using hon] at c3
    clear R1 R2 h0 hok hon hl hA hlb hwb hdb hns
    go_enter Try.func27, Try.ntmps27
    go_wp2_with fail
    go_loopw [5] (fun i wr => i = .int .i64 0 ∧ wr = w) (fun _ _ => 0)
    case atStart => exact ⟨rfl, rfl⟩
    case round =>
      obtain ⟨rfl, rfl⟩ := hrel
      by_cases hm0 : 0 < m
      · go_wp2_with fail
        go_ret
        exact ⟨rfl, TurnsP.refl H.out⟩
      · go_wp2_with fail
        go_ret
        exact ⟨rfl, TurnsP.refl H.out⟩
end Go.Proofs.Ytpepabggpappgaa
