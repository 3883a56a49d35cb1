/-
  A desk between two calls of a statement: contracts over one word for what is where. No statement is proved here.
-/
import Derived.Test.YtingkbeifohihaaGreatDoorDeskSync
import Derived.Carry
namespace Go.Proofs.YtingkbeifohihaaGreatDoor
open Go.RowKit
def Ys (O : List Nat) (g gd m : Nat) (K : KD) (w w' : World) : Prop := ∃ P', bL w' P' g gd m K /\ (∀ b ∈ P', b ∈ O \/ w.heap.size <= b) /\ aR O w w' /\ w.heap.size <= g
section
variable {w w' : World} {gd N : Nat} {O : List Nat} {S : DS} {q : Int} {h : List ByteArray}
end
set_option maxRecDepth 100000
set_option maxHeartbeats 4000000
def gV (S : DS) (q : Int) : KD := ⟨S, q, true, 0, vQ (fun _ => .empty) 0 (aY 256), [0, 1], .empty, 0, 0⟩
theorem AN (w : World) : Calls Tryz.prog 50 #[.string ⟨#[0]⟩, .int .i64 256] w fun e w' => e = .returned (.string (aY 256)) /\ Below w.heap.size w w' := by
 have HS := qL ⟨#[0]⟩ 256 w (by omega) (by decide)
 rw [show (⟨(Lib.repeatL (⟨#[0]⟩ : ByteArray).data.toList 256).toArray⟩ : ByteArray) = aY 256 by show (⟨(Lib.repeatL [0] 256).toArray⟩ : ByteArray) = _; rw [sS]; rfl] at HS
 exact HS
section
variable {w w' : World} {gd N : Nat} {O : List Nat} {S S' : DS} {q : Int} {h : List ByteArray}
theorem Xx (HO : Calls Tryz.prog 90 #[.pointer (some ⟨gd, 0, none⟩)] w fun e w' => ∃ gw, e = .returned (.tuple #[.pointer (some ⟨gw, 0, none⟩), .int .i64 0]) /\ kZ O gd gw S q w w') :
  Calls Tryz.prog 53 #[.pointer (some ⟨gd, 0, none⟩)] w fun e w' => ∃ gw, e = .returned (.tuple #[.pointer (some ⟨gw, 0, none⟩), .int .i64 0]) /\ kZ O gd gw S q w w' := by
 have HOO := Lib.hid HO
 clear HO
 go_enter Tryz.func53, Tryz.ntmps53
 go_wp2_with fail
 refine HOO.out.mono ?_
 rintro e w1 ⟨gw, rfl, ho⟩
 have HO := Lib.hid ho
 clear ho HOO
 go_wp2_with fail
 go_ret2
 exact ⟨gw, rfl, HO.out⟩
theorem bC.comp {P P1 : List Nat} {g m : Nat} {K : KD} {w0 : World} (h1 : ∀ b ∈ P1, b ∈ P \/ w0.heap.size <= b) (k1 : aR P w0 w) (h : bC P1 g gd m K w w') : bC P g gd m K w0 w' := by
 obtain ⟨P2, a1, a2, a3⟩ := h
 refine ⟨P2, a1, fun b hb => ?_, k1.trans a3 h1⟩
 rcases a2 b hb with h | h
 ·exact h1 b h
 ·exact .inr (Nat.le_trans k1.size h)
theorem Pw {w1 W : World} {gw gr : Nat} {O1 : List Nat} {H : List Int} (X : ByteArray) (hB : Below w1.heap.size w1 W) (hd : bE w1 O1 gd S) (hw : aG w1 gw 162 (eS gd q true 0)) (h6 : gw ∉ O1) (hr : aU W gr (N - 111) H) (hgr : w1.heap.size <= gr) (hn : S.now.length = N) :
  cM ((W.alloc (.map #[] 0)).alloc (.cells (cU gw W.heap.size gr X 0 0) 66)) (W.heap.size + 1) gw W.heap.size gr gd 0 O1 ⟨S, q, true, 0, fun _ => .empty, H, X, 0, 0⟩ /\ Below W.heap.size W ((W.alloc (.map #[] 0)).alloc (.cells (cU gw W.heap.size gr X 0 0) 66)) := by
 have HD6 := hd.below hB
 have HW6 := hw.below hB hw.lt
 obtain ⟨V, hV⟩ : ∃ V, V = W.alloc (.map #[] 0) := ⟨_, rfl⟩
 rw [<- hV]
 have hVs : V.heap.size = W.heap.size + 1 := by rw [hV]; simp
 have hBV : Below W.heap.size W V := by rw [hV]; exact (Below.refl _ _).alloc (Nat.le_refl _) _
 have hMV : eX V W.heap.size 0 (fun _ => .empty) := by rw [hV]; exact eX.made W
 rw [<- hVs]
 have hBA : Below V.heap.size V (V.alloc (.cells (cU gw W.heap.size gr X 0 0) 66)) := (Below.refl _ _).alloc (Nat.le_refl _) _
 have hB2 : Below W.heap.size W (V.alloc (.cells (cU gw W.heap.size gr X 0 0) 66)) := hBV.trans (hBA.mono hBV.size)
 have hwl := HW6.lt
 have hrl := hr.lt
 have hs1 := hB.size
 have hgw : gw < w1.heap.size := hw.lt
 have hO1 : ∀ b ∈ O1, b < w1.heap.size := fun b hb => hd.lt hb
 have hOn : O1.Nodup := by
  obtain ⟨gn, gs, cn, cs, vd, vk, e, hd⟩ := hd
  rw [e]
  exact hd.apart
 refine ⟨⟨aG.new V _ _, HW6.below hB2 hwl, HD6.below hB2, hMV.below hBA, ?_, ?_⟩, hB2⟩
 ·show aU _ gr (S.now.length - 111) H
  rw [hn]
  exact hr.below hB2
 ·simp only [List.nodup_cons, List.mem_cons, not_or]
  exact ⟨⟨by omega, by omega, by omega, fun hb => by have := hO1 _ hb; omega⟩, ⟨by omega, by omega, h6⟩, ⟨by omega, fun hb => by have := hO1 _ hb; omega⟩, fun hb => by have := hO1 _ hb; omega, hOn⟩
theorem Va (hs : tT N q h S.now) : Xy N (gV S q) :=
 ⟨hs.len, hs.dim, by simp [gV], by simp [gV], fun t ht => by
  simp only [gV] at ht ⊢
  by_cases e : t = 0
  ·subst e
   rw [iP]
   exact ⟨by simp, by decide, gD 256⟩
  ·rw [iQ _ _ e] at ht
   exact absurd rfl ht⟩
theorem Km (hs : tT N q h S.now) (hok : S.Ok) (hl : S.left <= 100) (hw : S.writes < 700000000000) (hdi : S.dirty.length < 700000000000) (hE : vI (gV S q) = 0)
  (HO : Calls Tryz.prog 53 #[.pointer (some ⟨gd, 0, none⟩)] w fun e w' => ∃ gw, e = .returned (.tuple #[.pointer (some ⟨gw, 0, none⟩), .int .i64 0]) /\ kZ O gd gw S q w w') :
  Calls Tryz.prog 26 #[.pointer (some ⟨gd, 0, none⟩)] w fun e w' => ∃ g, e = .returned (.tuple #[.pointer (some ⟨g, 0, none⟩), .int .i64 0]) /\ Ys O g gd 1 (iH (gV S q)) w w' := by
 have HK := Lib.hid (Va hs)
 have HRUN : Hid (AO (gV S q)) := Lib.hid ⟨hok, rfl, by have := hs.seq; exact this, by simp [gV], hl, hw, hdi, by simp [gV], rfl⟩
 have HN : Hid (S.now.length = N) := Lib.hid hs.len
 have HDM := Lib.hid hs.dim
 have HSZ : Hid (∀ (w1 : World) (gw : Nat) (O1 : List Nat), aG w1 gw 162 (eS gd q true 0) -> bE w1 O1 gd S -> Calls Tryz.prog 55 #[.pointer (some ⟨gw, 0, none⟩)] w1 fun e w' => e = .returned (.int .i64 ((N : Int) - 111)) /\ w1 = w') := Lib.hid (fun w1 gw O1 hb hd => Bl (n := N) hb hd HN.out (by have := HDM.out; omega) (by have := HDM.out; omega))
 have HNI : Hid (((N - 111 : Nat) : Int) = (N : Int) - 111) := Lib.hid (by have := HDM.out; omega)
 have HNW : Hid (∀ (w1 : World) (w2 : World), w2 = w1.alloc (.cells #[.int .i64 0, .int .i64 1] 3) -> Calls Tryz.prog 54 #[.int .i64 ((N : Int) - 111), .slice (some ⟨w1.heap.size, 0, none⟩) 2 2] w2 fun e w' => e = .returned (.tuple #[.pointer (some ⟨w2.heap.size, 0, none⟩), .int .i64 0]) /\ aU w' w2.heap.size (N - 111) [0, 1] /\ Below w2.heap.size w2 w') := Lib.hid (by
  rintro w1 w2 rfl
  have hdm := HDM.out
  have hx : dZ (w1.alloc (.cells #[.int .i64 0, .int .i64 1] 3)) (w1.alloc (.cells #[.int .i64 0, .int .i64 1] 3)).heap.size (some ⟨w1.heap.size, 0, none⟩) [0, 1] := fun _ => ⟨w1.heap.size, 0, rfl, by simp, fun j x hx => by
   match j, hx with
   | 0, hx => simp at hx; subst hx; simp
   | 1, hx => simp at hx; subst hx; simp⟩
  have := Ua (N - 111) (some ⟨w1.heap.size, 0, none⟩) 2 2 [0, 1] _ (by omega) (by omega) rfl hx (by omega)
  rw [HNI.out] at this
  refine this.mono ?_
  rintro e w' ⟨hb, ⟨_, rfl, hr⟩ | ⟨hn, _⟩⟩
  ·exact ⟨rfl, hr, hb⟩
  ·exact absurd (fun x hx => by
    simp only [List.mem_cons, List.not_mem_nil, or_false] at hx
    rcases hx with rfl | rfl <;> omega) hn)
 have HEE := Lib.hid hE
 have HOO := Lib.hid HO
 have hmm := @run_makeMap Tryz.prog
 clear hs hok hl hw hdi hE HO
 go_enter Tryz.func26, Tryz.ntmps26
 go_wp2_with fail
 refine HOO.out.mono ?_
 rintro e w1 ⟨gw, rfl, O1, d1, d2, d3, d4, d5, d6⟩
 have HD1 := Lib.hid d1
 have H2 := Lib.hid d2
 have H3 := Lib.hid d3
 have HW1 := Lib.hid d4
 have H5 := Lib.hid d5
 have H6 := Lib.hid d6
 have HS1 := Lib.hid (HSZ.out w1 gw O1 d4 d1)
 clear d1 d2 d3 d4 d5 d6 HOO HSZ
 go_wp2_with fail
 refine HS1.out.mono ?_
 rintro e w2 ⟨rfl, rfl⟩
 clear HS1
 go_wp2_with fail
 refine (HNW.out w1 _ rfl).mono ?_
 rintro e w2 ⟨rfl, hr2, hb2⟩
 have HB2 : Hid (Below w1.heap.size w1 w2) := Lib.hid (((Below.refl _ w1).alloc (Nat.le_refl _) _).trans (hb2.mono (by simp)))
 have hsz : (w1.alloc (.cells #[.int .i64 0, .int .i64 1] 3)).heap.size = w1.heap.size + 1 := by simp
 rw [hsz] at hr2
 have HR2 := Lib.hid hr2
 clear hr2 hb2 HNW hsz
 have HMD := Lib.hid (Pw .empty HB2.out HD1.out HW1.out H6.out HR2.out (by omega) HN.out)
 go_upto_region 8 with fail
 have HMD2 : Hid (∀ W, W = (w2.alloc (.map #[] 0)).alloc (.cells #[.pointer (some ⟨gw, 0, none⟩), .map (some w2.heap.size), .pointer (some ⟨w1.heap.size + 1, 0, none⟩), .string ⟨#[]⟩, .int .i64 0, .int .i64 0] 66) -> cM W (w2.heap.size + 1) gw w2.heap.size (w1.heap.size + 1) gd 0 O1 ⟨S, q, true, 0, fun _ => .empty, [0, 1], .empty, 0, 0⟩ /\ Below w2.heap.size w2 W) := Lib.hid (by rintro W rfl; exact HMD.out)
 clear HMD
 obtain ⟨W3, hW3⟩ : ∃ W, W = (w2.alloc (.map #[] 0)).alloc (.cells #[.pointer (some ⟨gw, 0, none⟩), .map (some w2.heap.size), .pointer (some ⟨w1.heap.size + 1, 0, none⟩), .string ⟨#[]⟩, .int .i64 0, .int .i64 0] 66) := ⟨_, rfl⟩
 have HI3 := Lib.hid (HMD2.out W3 hW3).1
 have HB3 := Lib.hid (HMD2.out W3 hW3).2
 rw [<- hW3]
 clear hW3 HMD2
 go_wp2_with fail
 refine (AN W3).mono ?_
 rintro e w4 ⟨rfl, hb4⟩
 have HB4 : Hid (Below w2.heap.size w2 w4) := Lib.hid (HB3.out.trans (hb4.mono HB3.out.size))
 have HI4 : Hid (cM w4 (w2.heap.size + 1) gw w2.heap.size (w1.heap.size + 1) gd 0 O1 ⟨S, q, true, 0, fun _ => .empty, [0, 1], .empty, 0, 0⟩) := Lib.hid (HI3.out.kept (fun b hb => hb4.block b (HI3.out.lt hb)))
 have HL4 : Hid (Calls Tryz.prog 56 #[.pointer (some ⟨w2.heap.size + 1, 0, none⟩), .int .i64 0, .string (aY 256)] w4 fun e w' => e = .returned (.tuple #[]) /\ bC ((w2.heap.size + 1) :: gw :: w2.heap.size :: (w1.heap.size + 1) :: O1) (w2.heap.size + 1) gd 1 (gV S q) w4 w') := Lib.hid (xW 0 (aY 256) HI4.out.at (by omega) (by unfold nK; omega) (fun e => by have := gD 256; rw [e] at this; exact absurd this (by decide)) (by rw [gD]; omega))
 clear hb4 HB3 HI3
 obtain ⟨z, hz⟩ : ∃ z, z = aY 256 := ⟨_, rfl⟩
 rw [<- hz] at HL4
 rw [<- hz]
 clear hz
 go_wp2_with fail
 refine HL4.out.mono ?_
 rintro e w5 ⟨rfl, hT5⟩
 have HT5 := Lib.hid hT5
 obtain ⟨P5, k1, k2, k3⟩ := hT5
 have HS5 : Hid (Calls Tryz.prog 57 #[.pointer (some ⟨w2.heap.size + 1, 0, none⟩)] w5 fun e w' => e = .returned (.int .i64 0) /\ bC ((w2.heap.size + 1) :: gw :: w2.heap.size :: (w1.heap.size + 1) :: O1) (w2.heap.size + 1) gd 1 (iH (gV S q)) w4 w') := Lib.hid (by
  refine (Px (K := gV S q) (m := 1) k1 HK.out HRUN.out (by omega)).mono ?_
  rintro e w' ⟨rfl, hT⟩
  exact ⟨by rw [HEE.out], hT.comp k2 k3⟩)
 clear k1 k2 k3 HL4
 go_wp2_with fail
 refine HS5.out.mono ?_
 rintro e w6 ⟨rfl, hT6⟩
 have HT6 := Lib.hid hT6
 clear hT6 HS5
 go_wp2_with fail
 go_ret2
 obtain ⟨P6, a1, a2, a3⟩ := HT6.out
 have s1 := H3.out.size
 have s2 := HB2.out.size
 have s4 := HB4.out.size
 have s5 := H5.out
 have hkey : ∀ b ∈ (w2.heap.size + 1) :: gw :: w2.heap.size :: (w1.heap.size + 1) :: O1, b ∈ O \/ w.heap.size <= b := fun b hb => by
  simp only [List.mem_cons] at hb
  rcases hb with rfl | rfl | rfl | rfl | hb
  ·exact .inr (by omega)
  ·exact .inr s5
  ·exact .inr (by omega)
  ·exact .inr (by omega)
  ·exact H2.out b hb
 refine ⟨_, rfl, P6, a1, fun b hb => ?_, ?_, by omega⟩
 ·rcases a2 b hb with h | h
  ·exact hkey b h
  ·exact .inr (by omega)
 ·have k0 : aR O w w4 := H3.out.below_in (HB2.out.trans (HB4.out.mono s2))
  exact k0.trans a3 hkey
end
theorem Kl (s0 s : List ByteArray) (d : List (Nat × ByteArray)) (n : Nat) (g : List eA) (h : Zv s.length g) : (lH s0 s d n).errW g = 0 /\ ((lH s0 s d n).write g).errF = 0 /\ ((lH s0 s d n).write g).flush = mF (lG s g) (n + g.length) := by
 obtain ⟨h1, d', h2⟩ := vH s0 g s d n h
 have w1 : (lH s0 s d n).errW g = 0 := by
  unfold DS.errW
  rw [if_pos (show (lH s0 s d n).on = true from rfl)]
  exact h1
 have w2 : (lH s0 s d n).write g = lH s0 (lG s g) d' (n + g.length) := by
  unfold DS.write
  rw [if_pos (show (lH s0 s d n).on = true from rfl)]
  exact h2
 rw [w2]
 exact ⟨w1, rfl, rfl⟩
theorem Uy (s0 s : List ByteArray) (d : List (Nat × ByteArray)) (n : Nat) (g : List eA) (r : List (List eA)) (h : Zv s.length g) : lD (lH s0 s d n) (g :: r) = lD (mF s n) (g :: r) /\ jV (lH s0 s d n) (g :: r) = jV (mF s n) (g :: r) := by
 obtain ⟨a1, a2, a3⟩ := Kl s0 s d n g h
 obtain ⟨b1, b2, b3⟩ := yR s n g h
 unfold lD jV
 rw [if_pos a1, if_pos a1, if_pos a2, if_pos a2, a3, if_pos b1, if_pos b1, if_pos b2, if_pos b2, b3]
 exact ⟨rfl, rfl⟩
section
variable {N : Nat} {q : Int} {l : List eA} {T : List Int}
theorem Gs (hok : dI N q l T) (s0 s : List ByteArray) (hs : s.length = N) (d : List (Nat × ByteArray)) (n : Nat) (k : Int) : bV (lH s0 s d n) q k l = ⟨mF (mV s q l T) (n + (2 * T.length + 2)), q + 1, true, k + 1, 0⟩ := by
 have hr := hok.run s hs n k
 obtain ⟨e1, e2⟩ := Uy s0 s d n (cR l 0 T) [[(0, bs (HD.mk (q + 1) true T).text)], eP l T, [(0, bs (HD.mk (q + 1) false []).text)]] (by rw [hs]; exact hok.fits _ (by unfold dF; simp))
 have hp := hok.pos
 have hf := hok.few
 have c1 : lE ((((lH s0 s d n).now.length : Nat) : Int) - 111) l = 0 := by show lE ((s.length : Int) - 111) l = 0; rw [hs]; exact hok.ok
 have c2 : lE ((((mF s n).now.length : Nat) : Int) - 111) l = 0 := c1
 unfold bV at hr ⊢
 rw [<- hok.eq] at hr ⊢
 rw [if_neg (by rw [c2]; simp), if_neg (by omega), if_neg (by omega)] at hr
 rw [if_neg (by rw [c1]; simp), if_neg (by omega), if_neg (by omega)]
 unfold dF at hr ⊢
 rw [e1, e2]
 exact hr
end
section
variable {N : Nat} {K : KD}
theorem Uz (K : KD) : (cA K).map Prod.fst = cH K := by
 unfold cA
 rw [List.map_map]
 exact List.map_id'' (fun _ => rfl) _
theorem Pu (K : KD) : cH K = bO ((cA K).map Prod.fst) := by
 rw [Uz]
 exact iS _ _ (nS K) (jX _).1 fun z => ((jX _).2 z).symm
theorem Xv (hk : Xy N K) {t : Int} (ht : t ∈ cH K) : (gF K t).size = 256 := by
 have hd := (kF.1 ht).2
 unfold gF
 unfold iV at hd
 split
 ·exact yZ K
 ·rename_i e
  rw [if_neg e] at hd
  exact (hk.used t (of_decide_eq_true hd)).2.2
theorem Pv (hk : Xy N K) : lE ((N : Int) - 111) (cA K) = 0 := Gl (by
 intro x hx
 unfold cA at hx
 obtain ⟨t, ht, rfl⟩ := List.mem_map.1 hx
 have h1 := (kF.1 ht).1
 have := hk.dim
 rw [hk.len] at h1
 exact ⟨h1.1, by show t < _; omega, Xv hk ht⟩)
theorem Xw (hk : Xy N K) (hq : 0 <= K.seq /\ K.seq < 1000000) (hp : cH K ≠ []) (hl : (cH K).length <= 110) : dI N K.seq (cA K) (cH K) :=
 ⟨Pu K, by have := hk.dim; omega, hl, by rw [eV]; exact List.length_pos_iff.2 hp, Pv hk, by omega⟩
structure bU (N : Nat) (K : KD) (h : List ByteArray) (c : Nat) : Prop where
 still : ∃ s0 s d n, K.S = lH s0 s d n /\ tT N K.seq h s /\ n <= 1000 * c /\ d.length <= 1
 sok : K.S.Ok
 ok : Xy N K
 hok : oZ (N - 111) K.H
 up : K.up = true
 bad : K.bad = 0
 kk : 0 <= K.k /\ K.k <= c
 seq : K.seq <= c
 syncs : 0 <= K.syncs /\ K.syncs <= c
variable {h : List ByteArray} {c : Nat}
theorem bU.now (r : bU N K h c) : tT N K.seq h K.S.now /\ K.S.on = true := by
 obtain ⟨s0, s, d, n, e, hs, hn, hd⟩ := r.still
 rw [e]
 exact ⟨hs, rfl⟩
theorem bU.small (r : bU N K h c) : ∀ x ∈ K.S.now, x.size <= 100000 := fun x hx => Nat.le_trans (r.now.1.small x hx) (by omega)
theorem bU.fsize (r : bU N K h c) (t : Int) : (K.F t).size <= 100000 := by
 by_cases e : K.F t = .empty
 ·rw [e]; decide
 ·have := (r.ok.used t e).2.2; omega
theorem bU.sync (r : bU N K h c) (hc : c <= 1000) (hl : (cA K).length <= 110) :
  vI K = 0 /\ bU N (iH K) (lG h (cA K)) (c + 1) /\ cH (iH K) = [] /\ (iH K).H = K.H /\ (iH K).kept = eZ K /\ (iH K).F = (fun _ => .empty) /\ (cH K ≠ [] -> (iH K).S.writes = K.S.writes + (2 * (cH K).length + 2) /\ (iH K).k = K.k + 1) := by
 obtain ⟨s0, s, d, n, e, hs, hn, hd⟩ := r.still
 have hseq := hs.seq
 have hq := r.seq
 have hlen : s.length = N := hs.len
 have hdim := r.ok.dim
 have key : ∀ (R : CR), bV K.S K.seq K.k (cA K) = R -> R.e = 0 -> R.S.now.length = K.S.now.length -> R.up = true ->
   vI K = 0 /\ iH K = { rA K R with kept := eZ K, F := fun _ => .empty, syncs := K.syncs + 1 } /\ cH (iH K) = [] := by
  intro R hR he hn hu
  have e1 : vI K = 0 := by unfold vI; rw [if_neg (by omega), hR, he]
  have e2 : iH K = { rA K R with kept := eZ K, F := fun _ => .empty, syncs := K.syncs + 1 } := by unfold iH; rw [if_neg (by omega), hR, if_pos he]
  refine ⟨e1, e2, ?_⟩
  rw [List.eq_nil_iff_forall_not_mem]
  intro t ht
  have h2 := (kF.1 ht).2
  rw [e2] at h2
  unfold iV at h2
  split at h2
  ·have h3 := of_decide_eq_true h2
   apply h3
   show bs (mW (R.S.now.length - 111) K.H) = bs (mW (K.S.now.length - 111) K.H)
   rw [hn]
  ·have h3 := of_decide_eq_true h2
   exact h3 rfl
 by_cases hp : cH K = []
 ·have hR : bV K.S K.seq K.k (cA K) = ⟨K.S, K.seq, true, K.k, 0⟩ := by
   have e0 : cA K = [] := by unfold cA; rw [hp]; rfl
   rw [e0]
   rfl
  obtain ⟨a1, a2, a3⟩ := key _ hR rfl rfl rfl
  refine ⟨a1, ?_, a3, by rw [a2]; rfl, by rw [a2], by rw [a2], fun hne => absurd hp hne⟩
  have e0 : cA K = [] := by unfold cA; rw [hp]; rfl
  rw [a2, e0]
  exact ⟨⟨s0, s, d, n, e, hs, by omega, hd⟩, r.sok, ⟨r.ok.len, hdim, r.ok.zero, r.ok.one, fun t ht => absurd rfl ht⟩, r.hok, rfl, r.bad, by have := r.kk; exact ⟨this.1, by show K.k <= _; omega⟩, by show K.seq <= _; omega, by have := r.syncs; exact ⟨by show 0 <= K.syncs + 1; omega, by show K.syncs + 1 <= _; omega⟩⟩
 ·have hco := Xw r.ok ⟨hseq.1, by omega⟩ hp (by rw [<- eV]; exact hl)
  have hR : bV K.S K.seq K.k (cA K) = ⟨mF (mV s K.seq (cA K) (cH K)) (n + (2 * (cH K).length + 2)), K.seq + 1, true, K.k + 1, 0⟩ := by
   rw [e]
   exact Gs hco s0 s hlen d n K.k
  have hdl : (mV s K.seq (cA K) (cH K)).length = s.length := dI.done_len _ _ _ _
  obtain ⟨a1, a2, a3⟩ := key _ hR rfl (by show (mV s K.seq (cA K) (cH K)).length = K.S.now.length; rw [hdl, e]; rfl) rfl
  refine ⟨a1, ?_, a3, by rw [a2]; rfl, by rw [a2], by rw [a2], fun _ => ⟨by rw [a2, e]; rfl, by rw [a2]; rfl⟩⟩
  have hl2 : (cH K).length <= 110 := by rw [<- eV]; exact hl
  rw [a2]
  refine ⟨⟨_, _, [], _, rfl, Pm hs hco (by omega), by omega, by simp⟩, Xt _ _, ⟨?_, hdim, r.ok.zero, r.ok.one, fun t ht => absurd rfl ht⟩, r.hok, rfl, r.bad, ?_, ?_, ?_⟩
  ·show (mV s K.seq (cA K) (cH K)).length = N
   rw [hdl, hlen]
  ·have := r.kk; exact ⟨by show 0 <= K.k + 1; omega, by show K.k + 1 <= _; omega⟩
  ·show K.seq + 1 <= _; omega
  ·have := r.syncs; exact ⟨by show 0 <= K.syncs + 1; omega, by show K.syncs + 1 <= _; omega⟩
end
def Dm (w0 w : World) (g gd m : Nat) (K : KD) : Prop := ∃ P, bL w P g gd m K /\ (∀ b ∈ P, w0.heap.size <= b) /\ Below w0.heap.size w0 w
section
variable {w0 w w' : World} {g gd m N : Nat} {K K' : KD} {h : List ByteArray} {c : Nat}
theorem Dm.below (s : Dm w0 w g gd m K) (hb : Below w.heap.size w w') : Dm w0 w' g gd m K := by
 obtain ⟨P, h1, h2, h3⟩ := s
 exact ⟨P, h1.below hb, h2, h3.trans (hb.mono h3.size)⟩
theorem Dm.at0 (s : Dm w0 w g gd m K) : Below w0.heap.size w0 w := s.choose_spec.2.2
theorem Dm.of_open {O : List Nat} (h2 : ∀ b ∈ O, w0.heap.size <= b) (h3 : Below w0.heap.size w0 w) (ho : Ys O g gd m K w w') : Dm w0 w' g gd m K := by
 obtain ⟨P', a1, a2, a3, a4⟩ := ho
 refine ⟨P', a1, fun b hb => ?_, h3.trans (a3.below h2 h3.size)⟩
 rcases a2 b hb with h | h
 ·exact h2 b h
 ·exact Nat.le_trans h3.size h
theorem Dm.wal (s : Dm w0 w g gd m K) : ∃ gw, w.cell? ⟨g, 0, none⟩ = some (.pointer (some ⟨gw, 0, none⟩)) /\ aG w gw 162 (eS gd K.seq K.up K.k) /\ g < w.heap.size /\ ∃ O, bE w O gd K.S := by
 obtain ⟨P, ⟨gw, gm, gr, O, rfl, hd⟩, h2, h3⟩ := s
 exact ⟨gw, by have := hd.blk.cell 0; simpa [cU] using this, hd.wal, hd.blk.lt, O, hd.disk⟩
theorem bU.with (r : bU N K h c) {H' : List Int} {F' : Int -> ByteArray} (ho : oZ (N - 111) H') (h0 : (0 : Int) ∈ H') (h1 : (1 : Int) ∈ H') (hu : ∀ t, F' t ≠ .empty -> t ∈ H' /\ t ≠ 1 /\ (F' t).size = 256) : bU N { K with H := H', F := F' } h c :=
 ⟨r.still, r.sok, ⟨r.ok.len, r.ok.dim, h0, h1, hu⟩, ho, r.up, r.bad, r.kk, r.seq, r.syncs⟩
theorem Ca {F : Int -> ByteArray} {H H' : List Int} {t : Int} {x : ByteArray} (hu : ∀ t, F t ≠ .empty -> t ∈ H /\ t ≠ 1 /\ (F t).size = 256) (hH : ∀ z ∈ H, z ∈ H') (ht : t ∈ H') (h1 : t ≠ 1) (hx : x.size = 256) : ∀ u, vQ F t x u ≠ .empty -> u ∈ H' /\ u ≠ 1 /\ (vQ F t x u).size = 256 := by
 intro u he
 by_cases e : u = t
 ·subst e
  rw [iP]
  exact ⟨ht, h1, hx⟩
 ·rw [iQ _ _ e] at he ⊢
  obtain ⟨a1, a2, a3⟩ := hu u he
  exact ⟨hH _ a1, a2, a3⟩
theorem bU.new (r : bU N K h c) {k : Nat} (hk : gS K.H k) (hlt : k < N - 111) {x : ByteArray} (hx : x.size = 256) : bU N (nJ K k x) h c := by
 have hm : ∀ z ∈ K.H, z ∈ mD (k : Int) K.H := fun z hz => (jH _ _ _).2 (.inr hz)
 exact r.with (r.hok.put (by omega) (by omega)) (hm _ r.ok.zero) (hm _ r.ok.one) (Ca r.ok.used hm ((jH _ _ _).2 (.inl rfl)) (fun e => hk.not (by rw [e]; exact r.ok.one)) hx)
theorem bU.set (r : bU N K h c) (t : Int) (x : ByteArray) : bU N (nZ K t x) h c := by
 unfold nZ
 split
 ·exact r
 ·rename_i e
  split
  ·rename_i hx
   have ht : t ∈ K.H := by
    rcases Classical.em (t ∈ K.H) with h | h
    ·exact h
    ·exact absurd (.inr h) e
   exact r.with (F' := vQ K.F t x) r.hok r.ok.zero r.ok.one (Ca r.ok.used (fun _ h => h) ht (fun h => e (.inl h)) hx)
  ·exact r
theorem Pt {S : DS} {q : Int} (hs : tT N q h S.now) {s0 s : List ByteArray} {d : List (Nat × ByteArray)} {n : Nat} (hS : S = lH s0 s d n) (hok : S.Ok) (hq : q <= c) (hn : n <= 1000 * c) (hd : d.length <= 1) : bU N (gV S q) h c := by
 refine ⟨⟨s0, s, d, n, hS, ?_, hn, hd⟩, hok, Va hs, ?_, rfl, rfl, by simp [gV], hq, by simp [gV]⟩
 ·rw [hS] at hs
  exact hs
 ·have := hs.dim
  exact ⟨by simp [gV], fun x hx => by
   simp only [gV, List.mem_cons, List.not_mem_nil, or_false] at hx
   rcases hx with rfl | rfl <;> omega⟩
theorem Ux {S : DS} {q : Int} (hs : tT N q h S.now) : cH (gV S q) = [0, 1] := by
 have hd := hs.dim
 have hl := hs.len
 refine iS _ _ (nS _) (by simp) fun t => ?_
 rw [kF]
 simp only [List.mem_cons, List.not_mem_nil, or_false]
 constructor
 ·rintro ⟨_, h2⟩
  unfold iV at h2
  split at h2
  ·rename_i e; exact .inr e
  ·have h3 := of_decide_eq_true h2
   by_cases e : t = 0
   ·exact .inl e
   ·exact absurd (show (gV S q).F t = .empty from iQ (fun _ => .empty) (aY 256) e) h3
 ·have hlen : (gV S q).S.now.length = N := hl
  rintro (rfl | rfl)
  ·refine ⟨by omega, ?_⟩
   unfold iV
   rw [if_neg (by decide)]
   exact decide_eq_true (fun e => by have := gD 256; rw [<- iP (fun _ => .empty) 0 (aY 256)] at this; rw [show vQ (fun _ => ByteArray.empty) 0 (aY 256) 0 = ByteArray.empty from e] at this; exact absurd this (by decide))
  ·refine ⟨by omega, ?_⟩
   unfold iV
   rw [if_pos rfl]
   exact decide_eq_true (fun e => by have h3 := yZ (gV S q); rw [e, show (gV S q).kept = .empty from rfl] at h3; exact absurd h3 (by decide))
end
end Go.Proofs.YtingkbeifohihaaGreatDoor
