/-
  Package desk: Dirty and Sync. No statement is proved here.
-/
import Derived.Test.YtingkbeifohihaaGreatDoorDeskPend
import Derived.Test.YtingkbeifohihaaGreatDoorWalState
namespace Go.Proofs.YtingkbeifohihaaGreatDoor
open Go.RowKit
set_option maxRecDepth 100000
set_option maxHeartbeats 4000000
section
variable {w w' : World} {P : List Nat} {g gw gm gr gd m : Nat} {O : List Nat} {K : KD}
theorem Kn {N : Nat} (h : bL w P g gd m K) (hk : Xy N K) (hm : m < 1000000) :
  Calls Tryz.prog 13 #[.pointer (some ⟨g, 0, none⟩)] w fun e w' => ∃ A c, e = .returned (.slice A (cH K).length c) /\ w'.ownsRow w.heap.size 3 1 (.slice A (cH K).length c) (cH K).length ((cH K).map (Value.int .i64)) /\ Below w.heap.size w w' := by
 obtain ⟨i0, hi, hz0, hz1, hz2⟩ := info_parts nQ
 have HP := Lib.hid (Cb h hk hm)
 obtain ⟨PL, hPL⟩ : ∃ PL, PL = cA K := ⟨_, rfl⟩
 obtain ⟨PT, hPT⟩ : ∃ PT, PT = cH K := ⟨_, rfl⟩
 have HN : Hid (PL.length = PT.length) := Lib.hid (by rw [hPL, hPT, eV])
 have HLE : Hid (PT.length <= 400) := Lib.hid (by rw [hPT]; have := Gv K; have := hk.dim; have := hk.len; omega)
 have HG : Hid (∀ (j : Nat) (t : Int), PT[j]? = some t -> ∃ x, PL[j]? = some (t, x)) := Lib.hid (fun j t ht => by rw [hPT] at ht; exact ⟨gF K t, by rw [hPL]; unfold cA; rw [List.getElem?_map, ht]; rfl⟩)
 rw [<- hPL] at HP
 rw [<- hPT]
 clear h hk hm hPL hPT
 go_enter Tryz.func13, Tryz.ntmps13
 go_wp2_with fail
 refine HP.out.mono ?_
 rintro e w1 ⟨A, c, rfl, hrow, hb1⟩
 have HROW := Lib.hid hrow
 have HB1 := Lib.hid hb1
 obtain ⟨n, hn⟩ : ∃ n, n = PL.length := ⟨_, rfl⟩
 rw [<- hn] at HROW HN
 rw [<- hn]
 have HCEL := Lib.hid (Ks (p := A) (c := c) (n := n) HROW.out)
 have HNP : Hid (n = PT.length) := HN
 clear hrow hb1 hn HN HP
 go_wp2_with fail
 go_loopw [3, 9] (fun v i wr => ∃ (j : Nat), j <= n /\ i = .int .i64 j /\ wr.ownsRow w1.heap.size 3 1 v j ((PT.take j).map (Value.int .i64)) /\ Below w1.heap.size w1 wr) (fun _ i _ => n - (intOf i).toNat)
 case atStart => exact ⟨0, Nat.zero_le _, rfl, World.ownsRow_nil _ _ _ _, Below.refl _ _⟩
 case round =>
  obtain ⟨j, hj, rfl, hrow, hbr⟩ := hrel
  have HRW := Lib.hid hrow
  have HBR := Lib.hid hbr
  clear hrow hbr
  by_cases hlt : j < n
  ·have hjI : (j : Int) < (n : Int) := by omega
   obtain ⟨g0, rfl, hg0, hg0w, hcel⟩ := HCEL.out (by omega)
   obtain ⟨t, ht⟩ : ∃ t, PT[j]? = some t := ⟨_, List.getElem?_eq_getElem (by rw [<- HNP.out]; exact hlt)⟩
   obtain ⟨x, hx⟩ := HG.out j t ht
   obtain ⟨q1, q2⟩ := hcel j _ hx
   have d1 : wr.cell? ⟨g0, j * 2, none⟩ = some (.int .i64 t) := (HBR.out.cell (p := ⟨g0, j * 2, none⟩) hg0w).trans q1
   have d2 : wr.cell? ⟨g0, j * 2 + 1, none⟩ = some (.string x) := (HBR.out.cell (p := ⟨g0, j * 2 + 1, none⟩) hg0w).trans q2
   have HTK : Hid (PT.take (j + 1) = PT.take j ++ [t]) := Lib.hid (by rw [List.take_add_one, ht]; rfl)
   have HLE2 : Hid (j <= 400) := Lib.hid (by have := HLE.out; have := HNP.out; omega)
   have HLT := Lib.hid hlt
   have hjb : (j : Int) < 401 := by have := HLE2.out; omega
   clear q1 q2 hcel hx ht
   go_wp2_with (at_builtin; refine wpList_append_lies _ rfl (.tmp 13) (.tmp 16) 33 rfl w1.heap.size 3 i0 (.int .i64 0) 1 8 Tryz.underlying33 hi hz0 hz1 hz2 rfl (by omega) _ j _ rfl ((HRW.out.alloc _).alloc _) ⟨wr.heap.size + 1, 0, none⟩ 1 1 [.int .i64 t] rfl rfl ?c1 ?c2 (by omega) (by have := HLE2.out; unfold maxLen; omega) (by have := HLE2.out; omega) (by have := HBR.out.size; simp; omega) _ rfl ?_)
   case c1 =>
    intro a u ha
    match a, ha with
    | 0, ha => simp at ha; subst ha; simp [Addr.add]
   case c2 => intro u hu; simp at hu; subst hu; rfl
   intro g2 cap w3 hown hg hor hlt1
   have HB3 : Hid (Below w1.heap.size w1 w3) := Lib.hid (((HBR.out.alloc HBR.out.size _).alloc (by have := HBR.out.size; simp; omega) _).grown hg (by have := HBR.out.size; simp; omega) (fun q e => (HRW.out.lt q e).1))
   have HR3 : Hid (w3.ownsRow w1.heap.size 3 1 (.slice (some ⟨g2, 0, none⟩) (j + 1) cap) (j + 1) ((PT.take (j + 1)).map (Value.int .i64))) := Lib.hid (by rw [HTK.out, List.map_append, List.map_take]; exact hown)
   clear hown hg hor hlt1 d1 d2
   go_wp2_with fail
   go_roundw
   case rel => exact ⟨j + 1, HLT.out, by have := HLE2.out; go_num, HR3.out, HB3.out⟩
   case measure => have := HLT.out; have := HLE2.out; simp [intOf]; omega
  ·obtain rfl : j = n := by omega
   obtain ⟨p, cap, rfl⟩ : ∃ p cap, u3 = .slice p j cap := by
    obtain ⟨p, cap, e, _⟩ := kV HRW.out
    exact ⟨p, cap, e⟩
   go_wp2_with fail
   go_ret
   refine ⟨p, cap, by rw [<- HNP.out]; rfl, ?_, HB1.out.trans (HBR.out.mono HB1.out.size)⟩
   rw [<- HNP.out]
   have := HRW.out
   rw [List.take_of_length_le (by rw [<- HNP.out]; exact Nat.le_refl _)] at this
   exact eG this HB1.out.size
def rA (K : KD) (R : CR) : KD := { K with S := R.S, seq := R.seq, up := R.up, k := R.k }
theorem Gt {S : DS} (h : S.Ok) (seq k : Int) (l : List eA) : (bV S seq k l).S.now.length = S.now.length := by
 unfold bV
 split
 ·rfl
 split
 ·rfl
 split
 ·rfl
 split
 ·exact Fq _ _ h
 ·exact Fq _ _ h
theorem cM.commit {O' : List Nat} {R : CR} (h : cM w g gw gm gr gd m O K) (hl : R.S.now.length = K.S.now.length) (h1 : bE w' O' gd R.S) (h2 : ∀ b ∈ O', b ∈ O \/ w.heap.size <= b) (h3 : aR (gw :: O) w w') (h4 : aG w' gw 162 (eS gd R.seq R.up R.k)) :
  cM w' g gw gm gr gd m O' (rA K R) := by
 obtain ⟨a1, a2, a3, a4, a5, a6, a7, a8, a9, a10⟩ := h.nodup
 have l1 := h.blk.lt
 have l2 := h.wal.lt
 have l3 := h.map.lt
 have l4 := h.room.lt
 have far : ∀ b, b < w.heap.size -> b ∉ O -> b ∉ O' := fun b hb hO hb' => by
  rcases h2 b hb' with h | h
  ·exact hO h
  ·omega
 refine ⟨h.blk.keep h3 (by simp [a1, a7]), h4, h1, h.map.keep h3 (by simp [a9]; exact fun e => a4 e.symm), ?_, ?_⟩
 ·have := h.room.keep h3 (by simp [a10]; exact fun e => a5 e.symm)
  show aU w' gr (R.S.now.length - 111) K.H
  rw [hl]
  exact this
 ·have hO' : O'.Nodup := by
   obtain ⟨gn, gs, cn, cs, vd, vk, e, hd⟩ := h1
   rw [e]
   exact hd.apart
  simp only [List.nodup_cons, List.mem_cons, not_or]
  exact ⟨⟨a1, a2, a3, far g l1 a7⟩, ⟨a4, a5, far gw l2 a8⟩, ⟨a6, far gm l3 a9⟩, far gr l4 a10, hO'⟩
theorem cM.cellK (h : cM w g gw gm gr gd m O K) (i : Nat) (u : Value) (kept : ByteArray) (syncs bad : Int) (he : (cU gw gm gr K.kept K.syncs K.bad).setIfInBounds i u = cU gw gm gr kept syncs bad) :
  cM (w.setCell ⟨g, i, none⟩ u) g gw gm gr gd m O { K with kept := kept, syncs := syncs, bad := bad } := by
 obtain ⟨a1, a2, a3, a4, a5, a6, a7, a8, a9, a10⟩ := h.nodup
 have hk : aR [g] w (w.setCell ⟨g, i, none⟩ u) := (aR.refl _ _).put (.inl (by simp)) i u
 exact ⟨by rw [<- he]; exact h.blk.put i u, h.wal.keep hk (by simp; exact fun e => a1 e.symm), h.disk.far hk (fun b hb => by simp; rintro rfl; exact a7 hb), h.map.keep hk (by simp; exact fun e => a2 e.symm), h.room.keep hk (by simp; exact fun e => a3 e.symm), h.apart⟩
def iH (K : KD) : KD :=
 if 110 < (cA K).length then K
 else if (bV K.S K.seq K.k (cA K)).e = 0 then { rA K (bV K.S K.seq K.k (cA K)) with kept := eZ K, F := fun _ => .empty, syncs := K.syncs + 1 }
 else if (bV K.S K.seq K.k (cA K)).up = true then rA K (bV K.S K.seq K.k (cA K))
 else { rA K (bV K.S K.seq K.k (cA K)) with bad := (bV K.S K.seq K.k (cA K)).e }
def vI (K : KD) : Int := if 110 < (cA K).length then 21 else (bV K.S K.seq K.k (cA K)).e
structure AO (K : KD) : Prop where
 ok : K.S.Ok
 up : K.up = true
 seq : 0 <= K.seq /\ K.seq < 1000000
 k : 0 <= K.k /\ K.k < 1000000
 left : K.S.left <= 100
 writes : K.S.writes < 700000000000
 dirty : K.S.dirty.length < 700000000000
 syncs : 0 <= K.syncs /\ K.syncs < 1000000
 bad : K.bad = 0
theorem Px {N : Nat} (h : bL w P g gd m K) (hk : Xy N K) (hr : AO K) (hm : m < 1000000) :
  Calls Tryz.prog 57 #[.pointer (some ⟨g, 0, none⟩)] w fun e w' => e = .returned (.int .i64 (vI K)) /\ bC P g gd m (iH K) w w' := by
 have HA := Lib.hid h
 have HB := Lib.hid (oO h)
 rw [hr.bad] at HB
 have HP := Lib.hid (Cb h hk hm)
 obtain ⟨gw, gm, gr, O, rfl, h⟩ := h
 have HD := Lib.hid h
 have HLEN : Hid ((cA K).length <= 400) := Lib.hid (by rw [eV]; have := Gv K; have := hk.dim; have := hk.len; omega)
 have HSE : Hid (vI K = if 110 < (cA K).length then 21 else (bV K.S K.seq K.k (cA K)).e) := Lib.hid rfl
 have HSK : Hid (iH K = _) := Lib.hid (by unfold iH; exact rfl)
 obtain ⟨PL, hPL⟩ : ∃ PL, PL = cA K := ⟨_, rfl⟩
 rw [<- hPL] at HP HLEN HSE HSK
 obtain ⟨R, hR⟩ : ∃ R, R = bV K.S K.seq K.k PL := ⟨_, rfl⟩
 rw [<- hR] at HSE HSK
 have HRL : Hid (R.S.now.length = K.S.now.length) := Lib.hid (by rw [hR]; exact Gt hr.ok _ _ _)
 have HCOM : Hid (∀ (w1 : World) (A : Option Addr) (c : Nat), Below w.heap.size w w1 -> w1.ownsRow w.heap.size 74 2 (.slice A PL.length c) PL.length (eQ PL) ->
   Calls Tryz.prog 98 #[.pointer (some ⟨gw, 0, none⟩), .slice A PL.length c] w1 fun e w2 => e = .returned (.int .i64 R.e) /\ ∃ O', cM w2 g gw gm gr gd m O' (rA K R) /\ (∀ b ∈ O', b ∈ O \/ w1.heap.size <= b) /\ aR (gw :: O) w1 w2) := Lib.hid (by
  intro w1 A c hb hrow
  have h1 := HD.out.kept (fun b hb' => hb.block b (HD.out.lt hb'))
  have hw := h1.wal
  rw [hr.up] at hw
  obtain ⟨a1, a2, a3, a4, a5, a6, a7, a8, a9, a10⟩ := HD.out.nodup
  have := hk.dim
  have := hk.len
  refine (Gn (m := PL.length) A PL hw h1.disk hr.ok a8 (by omega) (by omega) (by have := hr.seq; omega) (by have := hr.k; omega) rfl (yS hrow (fun b hb' => HD.out.disk.lt hb')) (by have := HLEN.out; omega) (by have := hr.left; omega) (by have := hr.writes; omega) (by have := hr.dirty; omega)).mono ?_
  rintro e w2 ⟨rfl, O', d1, d2, d3, d4⟩
  rw [<- hR] at d1 d4 ⊢
  exact ⟨rfl, O', h1.commit HRL.out d1 d2 d3 d4, d2, d3⟩)
 have HDIM : Hid (1 <= K.S.now.length - 111) := Lib.hid (by have := hk.dim; have := hk.len; omega)
 have HSY := Lib.hid hr.syncs
 clear h hk hr hm hPL hR
 by_cases hlg : 110 < PL.length
 ·have hlI : (110 : Int) < (PL.length : Int) := by omega
  rw [HSE.out, HSK.out, if_pos hlg, if_pos hlg]
  clear HSE HSK
  go_enter Tryz.func57, Tryz.ntmps57
  go_wp2_with (go_at_call 80; refine HB.out.mono ?_; rintro e w1 ⟨rfl, rfl⟩)
  refine HP.out.mono ?_
  rintro e w2 ⟨A, c, rfl, hrow, hb1⟩
  have HB1 := Lib.hid hb1
  clear hrow hb1 HB HP
  go_wp2_with fail
  go_ret
  exact ⟨rfl, bC.of_below HA.out HB1.out⟩
 rw [HSE.out, HSK.out, if_neg hlg, if_neg hlg]
 have hlI : ¬ (110 : Int) < (PL.length : Int) := by omega
 clear HSE HSK hlg
 have HPA : Hid (∀ (w1 w2 w3 : World) (A : Option Addr) (c : Nat) (O' : List Nat), Below w1.heap.size w1 w2 -> (∀ b ∈ O', b ∈ O \/ w2.heap.size <= b) -> aR (gw :: O) w2 w3 -> (∀ b ∈ g :: gw :: gm :: gr :: O', b ∈ g :: gw :: gm :: gr :: O \/ w1.heap.size <= b) /\ aR (g :: gw :: gm :: gr :: O) w1 w3) := Lib.hid (by
  intro w1 w2 w3 A c O' hb hO hk
  refine ⟨fun b hb' => ?_, (aR.of_below hb).trans' (hk.mono (fun b hb => .inl (by simp only [List.mem_cons] at hb ⊢; rcases hb with h | h; exact .inr (.inl h); exact .inr (.inr (.inr (.inr h))))))⟩
  simp only [List.mem_cons] at hb' ⊢
  rcases hb' with h | h | h | h | h
  ·exact .inl (.inl h)
  ·exact .inl (.inr (.inl h))
  ·exact .inl (.inr (.inr (.inl h)))
  ·exact .inl (.inr (.inr (.inr (.inl h))))
  ·rcases hO b h with h2 | h2
   ·exact .inl (.inr (.inr (.inr (.inr h2))))
   ·exact .inr (Nat.le_trans hb.size h2))
 by_cases he : R.e = 0
 ·rw [if_pos he, he]
  have HE := Lib.hid he
  rw [he] at HCOM
  clear he
  go_enter Tryz.func57, Tryz.ntmps57
  go_wp2_with (go_at_call 80; refine HB.out.mono ?_; rintro e w1 ⟨rfl, rfl⟩)
  refine HP.out.mono ?_
  rintro e w2 ⟨A, c, rfl, hrow, hb1⟩
  have HB1 := Lib.hid hb1
  have HC2 := Lib.hid (HCOM.out w2 A c hb1 hrow)
  have c0 : w2.cell? ⟨g, 0, none⟩ = some (.pointer (some ⟨gw, 0, none⟩)) := by
   have := (hb1.cell (p := ⟨g, 0, none⟩) HD.out.blk.lt).trans (HD.out.blk.cell 0)
   simpa [cU] using this
  clear hrow hb1 HB HP HCOM
  go_wp2_with fail
  refine HC2.out.mono ?_
  rintro e w3 ⟨rfl, O', hd3, hO', hk3⟩
  have HD3 := Lib.hid hd3
  have HPA3 := Lib.hid (HPA.out w1 w2 w3 A c O' HB1.out hO' hk3)
  have HLAY : Hid (Calls Tryz.prog 63 #[.pointer (some ⟨gr, 0, none⟩)] w3 fun e w'' => e = .returned (.tuple #[.string (eZ K), .int .i64 0]) /\ Below w3.heap.size w3 w'') := Lib.hid (by
   have hr := HD3.out.room
   have e : (rA K R).S.now.length - 111 = K.S.now.length - 111 := by show R.S.now.length - 111 = _; rw [HRL.out]
   rw [e] at hr
   exact Cc (n := K.S.now.length - 111) (H := K.H) hr HDIM.out)
  have c2 : w3.cell? ⟨g, 2, none⟩ = some (.pointer (some ⟨gr, 0, none⟩)) := by have := HD3.out.blk.cell 2; simpa [cU] using this
  clear hd3 hO' hk3 HC2 c0 HPA
  have hgl := HD3.out.blk.lt
  have f3 : ∀ w4, Below w3.heap.size w3 w4 -> w4.frozen? ⟨g, 3, none⟩ = false := fun w4 hb => (HD3.out.blk.below hb hgl).frozen 3
  have F3 := Lib.hid f3
  have C3 : Hid (∀ w4, Below w3.heap.size w3 w4 -> w4.cell? ⟨g, 3, none⟩ = some (.string K.kept)) := Lib.hid (fun w4 hb => by have := (HD3.out.blk.below hb hgl).cell 3; simpa [cU, rA] using this)
  clear f3
  go_upto_region 13 with (go_at_call 63; refine HLAY.out.mono ?_; rintro e w4 ⟨rfl, hb4⟩; have HB4 := Lib.hid hb4; have ff := F3.out _ hb4; have cc := C3.out _ hb4; clear hb4)
  have HD4 : Hid (cM w4 g gw gm gr gd m O' (rA K R)) := Lib.hid (HD3.out.kept (fun b hb => HB4.out.block b (HD3.out.lt hb)))
  have HD5 := Lib.hid (HD4.out.cellK 3 (.string (eZ K)) (eZ K) K.syncs K.bad (by simp [cU, rA]))
  have HK5 : Hid (aR [g] w4 (w4.setCell ⟨g, 3, none⟩ (.string (eZ K)))) := Lib.hid ((aR.refl _ _).put (.inl (by simp)) 3 _)
  obtain ⟨w5, hw5⟩ : ∃ w5, w5 = w4.setCell ⟨g, 3, none⟩ (.string (eZ K)) := ⟨_, rfl⟩
  rw [<- hw5] at HD5 HK5
  rw [<- hw5]
  clear hw5 ff cc F3 C3 hgl c2
  have c1 : w5.cell? ⟨g, 1, none⟩ = some (.map (some gm)) := by have := HD5.out.blk.cell 1; simpa [cU] using this
  obtain ⟨w6, hrun, hm6, hg6⟩ := HD5.out.map.clear
  have HD6 := Lib.hid (HD5.out.lay hm6 hg6)
  have HG6 := Lib.hid hg6
  clear hm6 hg6
  go_upto_region 14 with fail
  clear hrun c1
  have hy := HSY.out
  obtain ⟨sy, hsy⟩ : ∃ sy, sy = K.syncs := ⟨_, rfl⟩
  rw [<- hsy] at hy HD5 HD6
  have c4 : w6.cell? ⟨g, 4, none⟩ = some (.int .i64 sy) := by have := HD6.out.blk.cell 4; simpa [cU] using this
  have f4 : w6.frozen? ⟨g, 4, none⟩ = false := HD6.out.blk.frozen 4
  have HD7 := Lib.hid (HD6.out.cellK 4 (.int .i64 (sy + 1)) (eZ K) (sy + 1) K.bad (by simp [cU]))
  go_wp2_with fail
  go_ret
  refine ⟨rfl, _, cM.at (gw := gw) (gm := gm) (gr := gr) (O := O') ?_, HPA3.out.1, ?_⟩
  ·rw [<- hsy]
   exact HD7.out
  ·have k1 : aR (g :: gw :: gm :: gr :: O) w1 w4 := HPA3.out.2.below_in HB4.out
   have k2 : aR (g :: gw :: gm :: gr :: O) w1 w5 := k1.trans HK5.out (fun b hb => by simp at hb; subst hb; exact .inl (by simp))
   have k3 : aR (g :: gw :: gm :: gr :: O) w1 w6 := k2.by_in HG6.out (fun b e => by cases e; exact .inl (by simp))
   exact k3.put (.inl (by simp)) 4 _
 ·rw [if_neg he]
  have hne : (R.e == 0) = false := by simpa using he
  obtain ⟨E, hE⟩ : ∃ E, E = R.e := ⟨_, rfl⟩
  have HUP : Hid (∀ W, aG W gw 162 (eS gd R.seq R.up R.k) -> Calls Tryz.prog 99 #[.pointer (some ⟨gw, 0, none⟩)] W fun e w' => e = .returned (.bool R.up) /\ W = w') := Lib.hid (fun W h => Xb h)
  rw [<- hE] at hne he HCOM
  rw [<- hE]
  clear hE
  by_cases hup : R.up = true
  ·rw [if_pos hup]
   rw [hup] at HUP
   go_enter Tryz.func57, Tryz.ntmps57
   go_wp2_with (go_at_call 80; refine HB.out.mono ?_; rintro e w1 ⟨rfl, rfl⟩)
   refine HP.out.mono ?_
   rintro e w2 ⟨A, c, rfl, hrow, hb1⟩
   have HB1 := Lib.hid hb1
   have HC2 := Lib.hid (HCOM.out w2 A c hb1 hrow)
   have c0 : w2.cell? ⟨g, 0, none⟩ = some (.pointer (some ⟨gw, 0, none⟩)) := by
    have := (hb1.cell (p := ⟨g, 0, none⟩) HD.out.blk.lt).trans (HD.out.blk.cell 0)
    simpa [cU] using this
   clear hrow hb1 HB HP HCOM
   go_wp2_with fail
   refine HC2.out.mono ?_
   rintro e w3 ⟨rfl, O', hd3, hO', hk3⟩
   have HD3 := Lib.hid hd3
   have HPA3 := Lib.hid (HPA.out w1 w2 w3 A c O' HB1.out hO' hk3)
   have HU3 : Hid (Calls Tryz.prog 99 #[.pointer (some ⟨gw, 0, none⟩)] w3 fun e w' => e = .returned (.bool true) /\ w3 = w') := Lib.hid (HUP.out w3 (by have := HD3.out.wal; simp only [rA] at this; rw [hup] at this; exact this))
   have c0 : w3.cell? ⟨g, 0, none⟩ = some (.pointer (some ⟨gw, 0, none⟩)) := by have := HD3.out.blk.cell 0; simpa [cU] using this
   clear hd3 hO' hk3 HC2 HPA HUP
   go_wp2_with (go_at_call 99; refine HU3.out.mono ?_; rintro e w4 ⟨rfl, rfl⟩)
   go_ret
   exact ⟨rfl, _, HD3.out.at, HPA3.out.1, HPA3.out.2⟩
  ·rw [if_neg hup]
   have hup' : R.up = false := by simpa using hup
   rw [hup'] at HUP
   go_enter Tryz.func57, Tryz.ntmps57
   go_wp2_with (go_at_call 80; refine HB.out.mono ?_; rintro e w1 ⟨rfl, rfl⟩)
   refine HP.out.mono ?_
   rintro e w2 ⟨A, c, rfl, hrow, hb1⟩
   have HB1 := Lib.hid hb1
   have HC2 := Lib.hid (HCOM.out w2 A c hb1 hrow)
   have c0 : w2.cell? ⟨g, 0, none⟩ = some (.pointer (some ⟨gw, 0, none⟩)) := by
    have := (hb1.cell (p := ⟨g, 0, none⟩) HD.out.blk.lt).trans (HD.out.blk.cell 0)
    simpa [cU] using this
   clear hrow hb1 HB HP HCOM
   go_wp2_with fail
   refine HC2.out.mono ?_
   rintro e w3 ⟨rfl, O', hd3, hO', hk3⟩
   have HD3 := Lib.hid hd3
   have HPA3 := Lib.hid (HPA.out w1 w2 w3 A c O' HB1.out hO' hk3)
   have HU3 : Hid (Calls Tryz.prog 99 #[.pointer (some ⟨gw, 0, none⟩)] w3 fun e w' => e = .returned (.bool false) /\ w3 = w') := Lib.hid (HUP.out w3 (by have := HD3.out.wal; simp only [rA] at this; rw [hup'] at this; exact this))
   have c0 : w3.cell? ⟨g, 0, none⟩ = some (.pointer (some ⟨gw, 0, none⟩)) := by have := HD3.out.blk.cell 0; simpa [cU] using this
   have f5 : w3.frozen? ⟨g, 5, none⟩ = false := HD3.out.blk.frozen 5
   have c5 : w3.cell? ⟨g, 5, none⟩ = some (.int .i64 K.bad) := by have := HD3.out.blk.cell 5; simpa [cU, rA] using this
   have HD4 := Lib.hid (HD3.out.cellK 5 (.int .i64 E) K.kept K.syncs E (by simp [cU, rA]))
   have hgl := HD3.out.blk.lt
   clear hd3 hO' hk3 HC2 HPA HUP
   go_wp2_with (go_at_call 99; refine HU3.out.mono ?_; rintro e w4 ⟨rfl, rfl⟩)
   go_ret
   exact ⟨rfl, _, HD4.out.at, HPA3.out.1, HPA3.out.2.put (.inl (by simp)) 5 _⟩
end
end Go.Proofs.YtingkbeifohihaaGreatDoor
