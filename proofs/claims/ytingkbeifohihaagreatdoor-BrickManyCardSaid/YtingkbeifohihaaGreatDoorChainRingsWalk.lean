/-
  ChainRings: the law's walk. No statement is proved here.
-/
import Derived.Test.YtingkbeifohihaaGreatDoorLinkWalk
import Derived.Test.YtingkbeifohihaaGreatDoorDeskAwake
import Derived.Test.YtingkbeifohihaaGreatDoorDiskMade
import Derived.Test.YtingkbeifohihaaGreatDoorLinkPut
import Derived.Lib.AppendStr
namespace Go.Proofs.YtingkbeifohihaaGreatDoor
open Go.RowKit
set_option maxRecDepth 100000
set_option maxHeartbeats 4000000
section
variable {K : KD} {gen tag refs : Int} {b : ByteArray} {ps : List Int}
theorem uO {n : Nat} (h : 0 < n) : ∃ r, dB gen tag refs b ps n = (cQ gen tag refs b ps 0).put (ps.getD 0 0) :: r := by
 obtain ⟨i, rfl⟩ : ∃ i, n = i + 1 := ⟨n - 1, by omega⟩
 unfold dB
 rw [List.range_succ_eq_map, List.map_cons]
 exact ⟨_, rfl⟩
theorem Il {x : LK} (h : x.Ok) : bs x.text ≠ .empty := fun e => by
 have := dO x.text
 rw [e, h.text_len] at this
 exact absurd this (by decide)
theorem Wv (hc : aZ K.F gen tag refs b ps) : ∀ j, j < ps.length -> gI K (ps.getD j 0) = (K.F (ps.getD j 0), 0) := fun j hj => by
 unfold gI
 rw [if_pos (by rw [hc.laid j hj]; exact Il (hc.ok hj))]
theorem gQ (hc : aZ K.F gen tag refs b ps) : aI K (ps.getD 0 0) = (dB gen tag refs b ps ps.length, 0) := Sr hc (Wv hc)
theorem wE (hc : aZ K.F gen tag refs b ps) : fL (aI K (ps.getD 0 0)) = (gen, tag, refs, b) := by
 rw [gQ hc]
 unfold fL
 rw [if_neg (by simp)]
 obtain ⟨r, hr⟩ := uO (gen := gen) (tag := tag) (refs := refs) (b := b) (ps := ps) (n := ps.length) (by have := hc.count; omega)
 show ((dB gen tag refs b ps ps.length).headD LK.zero |>.gen, _, _, oL (dB gen tag refs b ps ps.length)) = _
 rw [Ip hc.len]
 show ((dB gen tag refs b ps ps.length).headD LK.zero |>.gen, (dB gen tag refs b ps ps.length).headD LK.zero |>.tag, (dB gen tag refs b ps ps.length).headD LK.zero |>.refs, b) = _
 rw [hr]
 rfl
theorem Nl (hc : aZ K.F gen tag refs b ps) : fQ K (ps.getD 0 0) = (cQ gen tag refs b ps 0).put (ps.getD 0 0) := by
 unfold fQ
 rw [gQ hc]
 obtain ⟨r, hr⟩ := uO (gen := gen) (tag := tag) (refs := refs) (b := b) (ps := ps) (n := ps.length) (by have := hc.count; omega)
 show (dB gen tag refs b ps ps.length).headD LK.zero = _
 rw [hr]
 rfl
theorem Ww (hc : aZ K.F gen tag refs b ps) : lA (aI K (ps.getD 0 0)) = ps := by
 rw [gQ hc]
 unfold lA
 rw [if_neg (by simp)]
 unfold dB
 rw [List.map_map]
 apply List.ext_getElem?
 intro i
 rw [List.getElem?_map]
 rcases Nat.lt_or_ge i ps.length with h | h
 ·rw [List.getElem?_range h, List.getElem?_eq_getElem h]
  show some (ps.getD i 0) = _
  rw [List.getD_eq_getElem?_getD, List.getElem?_eq_getElem h]
  rfl
 ·rw [List.getElem?_eq_none (by simpa using h), List.getElem?_eq_none h]
  rfl
end
section
variable {w0 w : World} {g gd m N : Nat} {K : KD} {Ms : List MK} {h : List ByteArray} {c : Nat} {gen tag : Int} {b : ByteArray}
theorem lQ {N : Nat} (hN : 140 <= N /\ N <= 400) (w0 w : World) (hb : Below w0.heap.size w0 w) :
  Calls Tryz.prog 8 #[.int .i64 (N : Int)] w fun e w' => ∃ g gd K h, e = .returned (.pointer (some ⟨g, 0, none⟩)) /\ eK w0 w' g gd 1 N K [] /\ iY N K h := by
 have HN := Lib.hid (Uo (N : Int) N w rfl (by omega) (by omega))
 have HMK : Hid (∀ (w1 : World) (gd : Nat) (O : List Nat), bE w1 O gd (DS.fresh N (aY 256)) -> (∀ b ∈ O, w0.heap.size <= b) -> Below w0.heap.size w0 w1 -> Calls Tryz.prog 26 #[.pointer (some ⟨gd, 0, none⟩)] w1 fun e w' => ∃ g K h, e = .returned (.tuple #[.pointer (some ⟨g, 0, none⟩), .int .i64 0]) /\ Dm w0 w' g gd 1 K /\ iY N K h) := Lib.hid (fun w1 gd O hd hO hb => (Vj hN w0 w1 hb hd hO).mono (fun e w' ⟨g, h, he, hs, hf⟩ => ⟨g, _, h, he, hs, hf⟩))
 have HB := Lib.hid hb
 clear hb
 go_enter Tryz.func8, Tryz.ntmps8
 go_wp2_with fail
 refine HN.out.mono ?_
 rintro e w1 ⟨gd, O, rfl, hd, hO, hb1⟩
 have HF1 := Lib.hid (HMK.out w1 gd O hd (fun b hb => Nat.le_trans HB.out.size (hO b hb)) (HB.out.trans (hb1.mono HB.out.size)))
 clear hd hO hb1 HMK HN
 go_wp2_with fail
 refine HF1.out.mono ?_
 rintro e w2 ⟨g, K, h, rfl, hs2, hf⟩
 have HS2 := Lib.hid hs2
 have HF := Lib.hid hf
 obtain ⟨gw, c0, -, -, -⟩ := hs2.wal
 clear hs2 hf HF1
 go_wp2_with fail
 go_ret
 exact ⟨g, gd, K, h, rfl, eK.of HS2.out, HF.out⟩
theorem Nm {N : Nat} {K : KD} {h : List ByteArray} (f : iY N K h) : K.H.length = 2 := by rw [f.H]; rfl
end
section
variable {w0 w w' : World} {g gd m N : Nat} {K : KD} {h : List ByteArray} {c : Nat} {Ms : List MK}
theorem Hg (s : eK w0 w g gd m N K Ms) (r : bU N K h c) : Calls Tryz.prog 21 #[.pointer (some ⟨g, 0, none⟩)] w fun e w' => e = .returned (.pointer (some ⟨w.heap.size, 0, none⟩)) /\ aU w' w.heap.size (N - 111) K.H /\ Below w.heap.size w w' := by
 obtain ⟨P, h1, h2, h3, h4⟩ := s
 rw [<- r.ok.len]
 exact Nu h1
end
theorem Fg {n : Nat} : ∀ (ps : List Int) (H : List Int), oZ n H -> ps.Nodup -> (∀ p ∈ ps, p ∈ H /\ 2 <= p) -> ∃ H', mR H ps = some H' /\ oZ n H' /\ H'.length + ps.length = H.length /\ ∀ z, z ∈ H' ↔ z ∈ H /\ z ∉ ps
 | [], H, ho, _, _ => ⟨H, rfl, ho, rfl, fun z => by simp⟩
 | x :: r, H, ho, hn, hp => by
   obtain ⟨h1, h2⟩ := hp x (by simp)
   obtain ⟨hx, hr⟩ := List.nodup_cons.1 hn
   obtain ⟨H', a1, a2, a3, a4⟩ := Fg r (fW x H) (ho.drop x) hr (fun p hpr => by
    obtain ⟨b1, b2⟩ := hp p (by simp [hpr])
    exact ⟨(mU _ _ _).2 ⟨b1, fun e => hx (e ▸ hpr)⟩, b2⟩)
   refine ⟨H', ?_, a2, ?_, fun z => ?_⟩
   ·unfold mR
    rw [if_neg]
    ·exact a1
    ·rintro (h | h | h)
     ·omega
     ·omega
     ·exact h h1
   ·have := sU ho.rise h1
    rw [List.length_cons]
    omega
   ·rw [a4, mU]
    simp only [List.mem_cons, not_or]
    constructor
    ·rintro ⟨⟨q1, q2⟩, q3⟩
     exact ⟨q1, q2, q3⟩
    ·rintro ⟨q1, q2, q3⟩
     exact ⟨⟨q1, q2⟩, q3⟩
theorem Wu {N : Nat} {K : KD} {gen tag refs : Int} {b : ByteArray} {ps : List Int} (hc : aZ K.F gen tag refs b ps) (hn : ps.Nodup) (ho : oZ (N - 111) K.H) (hin : ∀ p ∈ ps, p ∈ K.H) :
  rD K (ps.getD 0 0) = 0 /\ ∃ H', rE K (ps.getD 0 0) = Fl K H' /\ oZ (N - 111) H' /\ H'.length + ps.length = K.H.length /\ ∀ z, z ∈ H' ↔ z ∈ K.H /\ z ∉ ps := by
 obtain ⟨H', a1, a2, a3, a4⟩ := Fg ps K.H ho hn (fun p hp => ⟨hin p hp, (hc.range p hp).1⟩)
 have e0 : (aI K (ps.getD 0 0)).2 = 0 := by rw [gQ hc]
 have e1 := Ww hc
 refine ⟨?_, H', ?_, a2, a3, a4⟩
 ·unfold rD
  rw [if_neg (by rw [e0]; simp), e1]
  unfold uP
  rw [a1]
 ·unfold rE
  rw [if_neg (by rw [e0]; simp), e1]
  unfold uQ
  rw [a1]
section
variable {N : Nat} {K : KD} {gen tag refs : Int} {b : ByteArray} {ps : List Int}
theorem Vk {ps : List Int} (hn : ps.Nodup) {i j : Nat} (hi : i < ps.length) (hj : j < ps.length) (h : ps.getD i 0 = ps.getD j 0) : i = j := by
 rw [List.getD_eq_getElem?_getD, List.getD_eq_getElem?_getD, List.getElem?_eq_getElem hi, List.getElem?_eq_getElem hj] at h
 have h : ps[i] = ps[j] := h
 rcases Nat.lt_trichotomy i j with hlt | hlt | hlt
 ·exact absurd h (List.pairwise_iff_getElem.1 hn i j hi hj hlt)
 ·exact hlt
 ·exact absurd h.symm (List.pairwise_iff_getElem.1 hn j i hj hi hlt)
theorem Vl (hc : aZ K.F gen tag refs b ps) (hH : ∀ p ∈ ps, p ∈ K.H) {j : Nat} (hj : j < ps.length) {s : ByteArray} (hs : s.size = 256) : oN K (ps.getD j 0) s = 0 /\ nZ K (ps.getD j 0) s = Da K (ps.getD j 0) s := by
 have hm := hc.mem hj
 have h2 := hc.range _ hm
 have hno : ¬ (ps.getD j 0 = 1 \/ ps.getD j 0 ∉ K.H) := by
  rintro (h | h)
  ·omega
  ·exact h (hH _ hm)
 unfold oN nZ
 rw [if_neg hno, if_neg hno, if_pos hs, if_pos hs]
 exact ⟨rfl, rfl⟩
end
end Go.Proofs.YtingkbeifohihaaGreatDoor
