/-
  BrickMany, walked. No statement is proved here.
-/
import Derived.Test.YtingkbeifohihaaGreatDoorChainSteps
import Derived.Test.YtingkbeifohihaaGreatDoorLinkPut
import Derived.Test.YtingkbeifohihaaGreatDoorHeadNextOwn
import Derived.BigQuiet
import Derived.Deep.QuietTactic
namespace Go.Proofs.YtingkbeifohihaaGreatDoor
open Go.RowKit
set_option maxRecDepth 100000
set_option maxHeartbeats 16000000
section
variable {w0 w w' : World} {g gd m N : Nat} {h : List ByteArray} {K : KD} {Ms : List MK} {cs : List CH}
theorem vO {e : TypeId} {vA vR : Value} {n k nn cap x B : Nat} {xs ys zs : List Value} (s : BK w0 w g gd m N h K Ms cs) (hB : w0.heap.size <= B) (hA : fG Ms B e 1 vA n xs) (hR : fG Ms B e 1 vR k ys)
  (hap : ∀ b, vA.ownBlock = some b -> vR.ownBlock ≠ some b) (hown : w'.ownsRow B e 1 (.slice (some ⟨x, 0, none⟩) nn cap) nn zs) (hg : w.grownBy w' vA.ownBlock) (hor : vA.ownBlock = some x \/ x = w.heap.size) :
  ∃ Ms', BK w0 w' g gd m N h K Ms' cs /\ fG Ms' B e 1 (.slice (some ⟨x, 0, none⟩) nn cap) nn zs /\ fG Ms' B e 1 vR k ys /\ vR.ownBlock ≠ some x := by
 obtain ⟨⟨P, h1, h2, h3, h4⟩, hr, ho⟩ := s
 have hA0 : ∀ b, vA.ownBlock = some b -> b ∉ P /\ w0.heap.size <= b /\ b < w.heap.size := by
  intro b hb
  rcases hA.2 with ⟨h, _⟩ | ⟨b', c', cur, h, hb', hm, _⟩
  ·rw [h] at hb; cases hb
  ·rw [h] at hb
   obtain rfl : b' = b := by simpa [Value.ownBlock] using hb
   exact ⟨(h4 _ hm).1, by omega, wG (h4 _ hm).2⟩
 have hk : aR vA.ownBlock.toList w w' := (aR.refl _ w).by_in hg (fun q hq => .inl (by rw [hq]; simp))
 have hO : ∀ b ∈ vA.ownBlock.toList, vA.ownBlock = some b := fun b hb => by simpa using hb
 have hk' : ∀ b, b < w.heap.size -> vA.ownBlock ≠ some b -> w'.heap[b]? = w.heap[b]? := fun b hb hne => hk.block b hb (fun hm => hne (hO b hm))
 obtain ⟨cur, hcur, hx2⟩ : ∃ cur, w'.heap[x]? = some (.cells cur e (0, 0)) /\ fG (.held x (.cells cur e (0, 0)) :: Ms) B e 1 (.slice (some ⟨x, 0, none⟩) nn cap) nn zs := by
  rcases hown.2 with ⟨h, _⟩ | ⟨b', c', cur, h, hb', hm, hrest⟩
  ·cases h
  ·injection h with e1 e2 e3
   injection e1 with e1
   injection e1 with e1
   subst e1 e3
   exact ⟨cur, hm, hown.1, .inr ⟨x, cap, cur, rfl, hb', by simp, hrest⟩⟩
 have hxP : x ∉ P := by
  rcases hor with h | rfl
  ·exact (hA0 x h).1
  ·intro h; exact absurd (h1.lt h) (Nat.lt_irrefl _)
 have hd : bL w' P g gd m K := h1.kept fun b hb => hk' b (h1.lt hb) (fun e => (hA0 b e).1 hb)
 have hb3 : Below w0.heap.size w0 w' := h3.trans (hk.below (fun b hb => (hA0 b (hO b hb)).2.1) h3.size)
 rcases hR.2 with ⟨hv, hk0⟩ | ⟨b, c', cur2, hv, hb, hm, hrest⟩
 ·refine ⟨[.held x (.cells cur e (0, 0))], ⟨⟨P, hd, h2, hb3, fun M hM => ?_⟩, hr, ho⟩, ?_, ⟨hR.1, .inl ⟨hv, hk0⟩⟩, by rw [hv]; intro h; cases h⟩
  ·rw [List.mem_singleton.1 hM]
   exact ⟨hxP, hcur⟩
  ·refine ⟨hx2.1, ?_⟩
   rcases hown.2 with ⟨h, _⟩ | ⟨b', c', cur', h, hb', hm, hrest⟩
   ·cases h
   ·injection h with e1 e2 e3
    injection e1 with e1
    injection e1 with e1
    subst e1 e3
    rw [hcur] at hm
    injection hm with hm
    injection hm with hm
    subst hm
    exact .inr ⟨x, cap, cur, rfl, hb', by simp, hrest⟩
 ·have hne : vA.ownBlock ≠ some b := fun e => hap b e (by rw [hv]; rfl)
  have hbl := wG (h4 _ hm).2
  have hbx : b ≠ x := by
   rintro rfl
   rcases hor with h | h
   ·exact hne h
   ·omega
  refine ⟨[.held x (.cells cur e (0, 0)), .held b (.cells cur2 e (0, 0))], ⟨⟨P, hd, h2, hb3, fun M hM => ?_⟩, hr, ho⟩, ?_, ⟨hR.1, .inr ⟨b, c', cur2, hv, hb, by simp, hrest⟩⟩, by rw [hv]; intro h; exact hbx (by simpa [Value.ownBlock] using h)⟩
  ·simp only [List.mem_cons, List.not_mem_nil, or_false] at hM
   rcases hM with rfl | rfl
   ·exact ⟨hxP, hcur⟩
   ·exact ⟨(h4 _ hm).1, (hk' b hbl hne).trans (h4 _ hm).2⟩
  ·refine ⟨hx2.1, ?_⟩
   rcases hown.2 with ⟨h, _⟩ | ⟨b', c', cur', h, hb', hm, hrest⟩
   ·cases h
   ·injection h with e1 e2 e3
    injection e1 with e1
    injection e1 with e1
    subst e1 e3
    rw [hcur] at hm
    injection hm with hm
    injection hm with hm
    subst hm
    exact .inr ⟨x, cap, cur, rfl, hb', by simp, hrest⟩
theorem zN {e : TypeId} {B n c : Nat} {p : Option Addr} {vs : List Value} (hR : fG Ms B e 1 (.slice p n c) n vs) (s : eK w0 w g gd m N K Ms) (hn : 0 < n) :
  ∃ b, p = some ⟨b, 0, none⟩ /\ n <= c /\ ∀ w1, Below w.heap.size w w1 -> ∀ (t : Nat) (u : Value), vs[t]? = some u -> w1.cell? ⟨b, t, none⟩ = some u := by
 have hr := hR.row s
 obtain ⟨b, cap, e1, _, hlt⟩ := hr.form hn
 injection e1 with e1 _ e3
 subst e1 e3
 obtain ⟨pc, capc, ec, hc1, hc2, -, -⟩ := iR hr
 injection ec with _ _ ec
 subst ec
 exact ⟨b, rfl, hc1, fun w1 hb t u hu => dY (dR hr hb) hu⟩
end
section
variable {w0 w w' : World} {g gd m : Nat} {gen : Int} {xs h : List ByteArray} {K K' : KD} {Ms : List MK} {cs ls l1 l2 : List CH} {pa pr : Option Addr} {ca cr i : Nat} {c : CH}
def AX (cs : List CH) : List Value := cs.map fun c => Value.int .i64 c.at_
def Zy (cs : List CH) : List Value := cs.map fun c => Value.int .i64 c.refs
def Cf (gen : Int) (xs : List ByteArray) (cs : List CH) : Prop := ∀ (t : Nat) (c : CH), cs[t]? = some c -> ∃ x r p, xs[t]? = some x /\ c = BR gen r x p /\ iI x.size = true
theorem Cf.snoc {x : ByteArray} {r p : Int} (hA : Cf gen xs cs) (hx : xs[cs.length]? = some x) (hf : iI x.size = true) : Cf gen xs (cs ++ [BR gen r x p]) := by
 intro t c hc
 rcases Nat.lt_or_ge t cs.length with h | h
 ·rw [List.getElem?_append_left h] at hc
  exact hA t c hc
 ·rw [List.getElem?_append_right h] at hc
  obtain rfl : t = cs.length := by
   rcases Nat.eq_zero_or_pos (t - cs.length) with h0 | h0
   ·omega
   ·rw [List.getElem?_eq_none (by simp; omega)] at hc; cases hc
  rw [Nat.sub_self] at hc
  exact ⟨x, r, p, hx, (Option.some.inj hc).symm, hf⟩
theorem Cf.secs (hA : Cf gen xs cs) : dA cs = cs.map CH.at_ := by
 have hp : ∀ c ∈ cs, c.ps = [c.at_] := by
  intro c hc
  obtain ⟨t, ht⟩ := List.mem_iff_getElem?.1 hc
  obtain ⟨x, r, p, _, rfl, _⟩ := hA t c ht
  rfl
 clear hA
 induction cs with
 | nil => rfl
 | cons c r ih =>
   rw [Bf, ih (fun c hc => hp c (List.mem_cons_of_mem _ hc)), hp c (by simp)]
   rfl
structure Mn (w0 w : World) (g gd m : Nat) (gen : Int) (xs h : List ByteArray) (K : KD) (Ms : List MK) (cs : List CH) (j : Nat) (pa : Option Addr) (ca : Nat) (pr : Option Addr) (cr : Nat) : Prop where
 len : cs.length = j
 bk : BK w0 w g gd m 200 h K Ms cs
 row : fG Ms w0.heap.size 3 1 (.slice pa j ca) j (AX cs)
 ref : fG Ms w0.heap.size 3 1 (.slice pr j cr) j (Zy cs)
 far : ∀ b, (Value.slice pa j ca).ownBlock = some b -> (Value.slice pr j cr).ownBlock ≠ some b
 br : Cf gen xs cs
structure M2 (w0 w : World) (g gd m : Nat) (h : List ByteArray) (K : KD) (Ms : List MK) (cs ls : List CH) (i : Nat) : Prop where
 bk : BK w0 w g gd m 200 h K Ms ls
 in_ : ∀ (t : Nat) (c : CH), i <= t -> cs[t]? = some c -> c ∈ ls
theorem M2.below (s : M2 w0 w g gd m h K Ms cs ls i) (hb : Below w.heap.size w w') : M2 w0 w' g gd m h K Ms cs ls i := ⟨s.bk.below hb, s.in_⟩
theorem M2.on (s : M2 w0 w g gd m h K Ms cs ls i) : M2 w0 w g gd m h K Ms cs ls (i + 1) := ⟨s.bk, fun t c ht => s.in_ t c (by omega)⟩
theorem M2.dropped (hn : (cs.map CH.at_).Nodup) (hc : cs[i]? = some c) (hi : ∀ (t : Nat) (c' : CH), i <= t -> cs[t]? = some c' -> c' ∈ l1 ++ c :: l2) (hk : BK w0 w' g gd m 200 h K' Ms (l1 ++ l2)) : M2 w0 w' g gd m h K' Ms cs (l1 ++ l2) (i + 1) := by
 refine ⟨hk, fun t c' ht hc' => ?_⟩
 have hm := hi t c' (by omega) hc'
 have hne : c' ≠ c := by
  rintro rfl
  obtain ⟨a1, a2⟩ := List.getElem?_eq_some_iff.1 hc
  obtain ⟨b1, b2⟩ := List.getElem?_eq_some_iff.1 hc'
  have := List.pairwise_iff_getElem.1 hn i t (by simpa using a1) (by simpa using b1) (by omega)
  rw [List.getElem_map, List.getElem_map, a2, b2] at this
  exact this rfl
 simp only [List.mem_append, List.mem_cons] at hm ⊢
 rcases hm with h | h | h
 ·exact .inl h
 ·exact absurd h hne
 ·exact .inr h
theorem Le (x : ByteArray) : eE [x] = x := by
 apply ByteArray.ext
 apply Array.toList_inj.1
 rw [oH, eW]
end
theorem Qs (gen : Int) (A : Option Addr) (n c : Nat) (A2 : Option Addr) (n2 c2 : Nat) (w : World) (ho : 25 < n \/ 25 < n2 \/ gen < 1 \/ 3 < gen) :
  Calls Tryz.prog 5 #[.int .i64 gen, .slice A n c, .slice A2 n2 c2] w fun e w' => e = .returned (.bool true) /\ Below w.heap.size w w' := by
 have HAL := Lib.hid lI
 obtain ⟨nI, hn⟩ : ∃ nI : Int, nI = (n : Int) := ⟨_, rfl⟩
 rcases ho with h | h | h | h
 ·have q : (25 : Int) < (n : Int) := by omega
  clear h hn
  go_enter Tryz.func5, Tryz.ntmps5
  go_wp2_with fail
  all_goals (refine (HAL.out _).mono ?_; rintro e w1 ⟨rfl, hb1⟩; go_wp2_with fail; go_ret; exact ⟨rfl, hb1⟩)
 ·have q : (25 : Int) < (n2 : Int) := by omega
  clear h hn
  go_enter Tryz.func5, Tryz.ntmps5
  go_wp2_with fail
  all_goals (refine (HAL.out _).mono ?_; rintro e w1 ⟨rfl, hb1⟩; go_wp2_with fail; go_ret; exact ⟨rfl, hb1⟩)
 ·clear hn
  go_enter Tryz.func5, Tryz.ntmps5
  go_wp2_with fail
  all_goals (refine (HAL.out _).mono ?_; rintro e w1 ⟨rfl, hb1⟩; go_wp2_with fail; go_ret; exact ⟨rfl, hb1⟩)
 ·clear hn
  go_enter Tryz.func5, Tryz.ntmps5
  go_wp2_with fail
  all_goals (refine (HAL.out _).mono ?_; rintro e w1 ⟨rfl, hb1⟩; go_wp2_with fail; go_ret; exact ⟨rfl, hb1⟩)
theorem Vr (gen : Int) (A : Option Addr) (n c : Nat) (xs : List ByteArray) (A2 : Option Addr) (n2 c2 : Nat) (us : List Int) (w : World) (hin : wK w A n c xs) (hus : Vf w A2 n2 c2 us) (hn : n <= 25) (hn2 : n2 <= 25) (hg0 : 1 <= gen) (hg3 : gen <= 3) :
  Calls Tryz.prog 5 #[.int .i64 gen, .slice A n c, .slice A2 n2 c2] w fun e w' => e = .returned (.bool true) /\ Below w.heap.size w w' := by
 obtain ⟨i0, hi, hz0, hz1, hz2⟩ := info_parts uV
 have HAL := Lib.hid lI
 have HIN := Lib.hid hin
 have HUI := Lib.hid hus
 have HFR : Hid (∀ w1, Below w.heap.size w w1 -> Calls Tryz.prog 8 #[.int .i64 200] w1 fun e w' => ∃ g gd K h, e = .returned (.pointer (some ⟨g, 0, none⟩)) /\ eK w w' g gd 1 200 K [] /\ iY 200 K h) := Lib.hid (fun w1 hb => lQ (N := 200) (by omega) w w1 hb)
 have HI0 := Lib.hid (And.intro hi (And.intro hz0 (And.intro hz1 hz2)))
 have q1 : ¬ (25 : Int) < (n : Int) := by omega
 have q2 : ¬ (25 : Int) < (n2 : Int) := by omega
 have q3 : ¬ gen < 1 := by omega
 have q4 : ¬ 3 < gen := by omega
 have HG := Lib.hid (And.intro hg0 hg3)
 clear hin hus hi hz0 hz1 hz2
 go_enter Tryz.func5, Tryz.ntmps5
 go_wp2_with fail
 refine (HAL.out _).mono ?_
 rintro e w1 ⟨rfl, hb1⟩
 have HB1 := Lib.hid hb1
 clear hb1
 go_wp2_with fail
 refine (HFR.out _ HB1.out).mono ?_
 rintro e w2 ⟨g, gd, K0, h, rfl, hs2, hf2⟩
 have HK2 := Lib.hid (BK.fresh hs2 hf2)
 clear hs2 hf2 HFR HB1 q1 q2 q3 q4 hg0 hg3
 go_wp2_with fail
 go_loopw [8, 9, 10] (fun va vr i wr => ∃ (j : Nat) (pa pr : Option Addr) (ca cr : Nat) (K : KD) (Ms : List MK) (cs : List CH), i = .int .i64 (j : Int) /\ va = .slice pa j ca /\ vr = .slice pr j cr /\ j <= n /\ Mn w wr g gd (1 + 41 * j) gen xs h K Ms cs j pa ca pr cr) (fun _ _ i _ => n - (intOf i).toNat)
 case atStart => exact ⟨0, none, none, 0, 0, K0, [], [], rfl, rfl, rfl, Nat.zero_le _, ⟨rfl, HK2.out, fG.nil, fG.nil, (fun b h => by cases h), (fun t c h => by simp at h)⟩⟩
 case round =>
  obtain ⟨j, pa, pr, ca, cr, K, Ms, cs, rfl, rfl, rfl, hj, hM⟩ := hrel
  have HM := Lib.hid hM
  clear hM
  by_cases hlt : j < n
  ·have hjI : (j : Int) < (n : Int) := by omega
   have hxl : j < xs.length := by rw [HIN.out.len]; exact hlt
   obtain ⟨b, off, hA, hbB, hc⟩ := HIN.out.lie (by omega)
   obtain ⟨x, hx⟩ : ∃ x, xs[j]? = some x := ⟨_, List.getElem?_eq_getElem hxl⟩
   have HX := Lib.hid hx
   have hcx : wr.cell? ⟨b, off + j, none⟩ = some (.string x) := (HM.out.bk.base.cell (p := ⟨b, off + j, none⟩) hbB).trans (hc j x hx)
   have HLT := Lib.hid hlt
   clear hc hx hxl hlt
   subst hA
   by_cases h0 : x.size < 1
   ·have z0 : (x.size : Int) < 1 := by omega
    clear h0
    go_wp2_with fail
    go_ret
    exact ⟨rfl, HM.out.bk.base⟩
   have z0 : ¬ (x.size : Int) < 1 := by omega
   by_cases h1 : 128 < x.size
   ·have z1 : (128 : Int) < (x.size : Int) := by omega
    clear h0 h1
    go_wp2_with fail
    go_ret
    exact ⟨rfl, HM.out.bk.base⟩
   have z1 : ¬ (128 : Int) < (x.size : Int) := by omega
   have HF : Hid (iI x.size = true) := Lib.hid (decide_eq_true (by omega))
   have HSL : Hid ((dA cs).length = j) := Lib.hid (by rw [HM.out.br.secs, List.length_map, HM.out.len])
   have HP : Hid (∀ (W : World) (q : Nat), Below wr.heap.size wr W -> dL W W.heap.size (some ⟨q, 0, none⟩) [x] -> _) := Lib.hid (fun W q hb hx => (HM.out.bk.below hb).put (gen := gen) (by omega) (some ⟨q, 0, none⟩) 1 1 [x] rfl hx (by omega) (by omega) (by unfold Vs; rw [decide_eq_true HG.out, eW, <- Lib.size_eq, HF.out]; rfl) (by rw [HSL.out]; omega))
   clear h0 h1
   go_wp2_with fail
   refine (HP.out _ _ ((Below.refl _ _).alloc (Nat.le_refl _) _) (jU _ _ _ _ rfl rfl)).mono ?_
   rintro e w5 ⟨K5, p, rfl, hk5⟩
   rw [Le] at hk5
   have HK5 := Lib.hid hk5
   clear hk5 HP hcx z0 z1
   obtain ⟨UB, hUB⟩ : ∃ UB, UB = decide (j < n2 /\ 0 <= us.getD j 0 /\ us.getD j 0 < 1000) := ⟨_, rfl⟩
   have HUB := Lib.hid hUB
   have HUC : Hid (j < n2 -> ∃ bu ou, A2 = some ⟨bu, ou, none⟩ /\ ∀ w', Below w.heap.size w w' -> w'.cell? ⟨bu, ou + j, none⟩ = some (.int .i64 (us.getD j 0))) := Lib.hid (fun hju => by
    have hul : j < us.length := by rw [HUI.out.len]; exact hju
    obtain ⟨bu, ou, hA2, hb2, hc2⟩ := HUI.out.lie (by omega)
    refine ⟨bu, ou, hA2, fun w' hb' => (hb'.cell (p := ⟨bu, ou + j, none⟩) hb2).trans (hc2 j _ ?_)⟩
    rw [List.getD_eq_getElem?_getD, List.getElem?_eq_getElem hul]
    rfl)
   obtain ⟨u, hu⟩ : ∃ u, u = us.getD j 0 := ⟨_, rfl⟩
   rw [<- hu] at HUB HUC
   clear hUB hu
   go_upto_region 16 with fail
   go_cut [92] from 75 to 93 (fun v wx => v = .bool UB /\ wx = w5)
   case first =>
    by_cases hju : j < n2
    ·obtain ⟨bu, ou, hA2, hcu⟩ := HUC.out hju
     have hc5 := hcu w5 HK5.out.base
     have z2 : (j : Int) < (n2 : Int) := by omega
     clear hcu
     subst hA2
     go_wp2_with fail
     all_goals (go_meet; refine ⟨congrArg Value.bool ?_, rfl⟩; rw [HUB.out, eq_comm]; first | (rw [decide_eq_true_eq]; omega) | (rw [decide_eq_false_iff_not]; omega) | (rw [decide_eq_decide]; omega))
    ·have z2 : ¬ (j : Int) < (n2 : Int) := by omega
     have e1 : UB = false := by rw [HUB.out]; exact decide_eq_false (fun h => hju h.1)
     subst e1
     go_wp2_with fail
     go_meet
     exact ⟨rfl, rfl⟩
   case rest =>
   obtain ⟨w6, rfl⟩ : ∃ w6, w6 = wc := ⟨_, rfl⟩
   obtain ⟨rfl, hw6⟩ := hcut
   subst hw6
   go_upto_if 92 with fail
   go_cut [13] from 92 to 114 (fun v wx => ∃ (r : Int) (K' : KD), v = .int .i64 r /\ BK w wx g gd (1 + 41 * j + 41) 200 h K' Ms (cs ++ [BR gen r x p]))
   case first =>
    cases UB with
    | false =>
      go_wp2_with fail
      go_meet
      exact ⟨1, K5, rfl, HK5.out.mono (by omega)⟩
    | true =>
      obtain ⟨hju, hu0, hu1⟩ := of_decide_eq_true HUB.out.symm
      obtain ⟨bu, ou, hA2, hcu⟩ := HUC.out hju
      have hc5 := hcu w6 HK5.out.base
      have HCU := Lib.hid hcu
      have z2 : (j : Int) < (n2 : Int) := by omega
      have z3 : IntKind.i64.wrap (1 + u) = 1 + u := by rw [IntKind.wrap_i64]; omega
      have z4 : (1 + u == 1 + u) = true := by simp
      have HUS := Lib.hid (BK.use_yes (l1 := cs) (l2 := []) (by_ := u) HK5.out (by omega) (by unfold nK; omega) HF.out (by omega))
      clear hcu
      subst hA2
      go_wp2_with fail
      refine HUS.out.mono ?_
      rintro e w7 ⟨rfl, K7, hk7⟩
      have HK7 := Lib.hid hk7
      have hc7 := HCU.out w7 hk7.base
      clear hk7 HUS hc5
      go_wp2_with fail
      go_meet
      exact ⟨1 + u, K7, rfl, HK7.out.mono (by omega)⟩
   case rest =>
   obtain ⟨w7, rfl⟩ : ∃ w7, w7 = wc := ⟨_, rfl⟩
   obtain ⟨r, K7, rfl, hk7⟩ := hcut
   have HK7 := Lib.hid hk7
   have HOA := Lib.hid (HM.out.row.row hk7.st)
   have hws : w.heap.size <= w7.heap.size := hk7.base.size
   obtain ⟨hi, hz0, hz1, hz2⟩ := HI0.out
   clear hk7 HK5 HUB HUC
   go_wp2_with (at_builtin; refine wpList_append_lies _ rfl (.tmp 114) (.tmp 116) 33 rfl w.heap.size 3 i0 (.int .i64 0) 1 8 Tryz.underlying33 hi hz0 hz1 hz2 rfl (by omega) _ j _ rfl (HOA.out.alloc _) ⟨w7.heap.size, 0, none⟩ 1 1 [.int .i64 p] rfl rfl ?c1 ?c2 (by omega) (by unfold maxLen; omega) (by omega) (by simp; omega) _ rfl ?_)
   case c1 =>
    intro a u ha
    match a, ha with
    | 0, ha => simp at ha; subst ha; simp [Addr.add]
   case c2 => intro u hu; simp at hu; subst hu; rfl
   intro ga capa w8 hown8 hg8 hor8 hlt8
   obtain ⟨Ms8, hk8, hA8, hR8, hf8⟩ := vO (HK7.out.below ((Below.refl _ _).alloc (Nat.le_refl _) (.cells #[.int .i64 p] 3))) (Nat.le_refl _) HM.out.row HM.out.ref HM.out.far hown8 hg8 (by simpa using hor8)
   have HK8 := Lib.hid hk8
   have HA8 := Lib.hid hA8
   have HR8 := Lib.hid hR8
   have HF8 := Lib.hid hf8
   have HOR := Lib.hid (hR8.row hk8.st)
   have hws : w.heap.size <= w8.heap.size := hk8.base.size
   clear hk8 hA8 hR8 hf8 hown8 hg8 hor8 hlt8 HOA HK7
   go_wp2_with (at_builtin; refine wpList_append_lies _ rfl (.tmp 118) (.tmp 120) 33 rfl w.heap.size 3 i0 (.int .i64 0) 1 8 Tryz.underlying33 hi hz0 hz1 hz2 rfl (by omega) _ j _ rfl (HOR.out.alloc _) ⟨w8.heap.size, 0, none⟩ 1 1 [.int .i64 r] rfl rfl ?c1 ?c2 (by omega) (by unfold maxLen; omega) (by omega) (by simp; omega) _ rfl ?_)
   case c1 =>
    intro a u ha
    match a, ha with
    | 0, ha => simp at ha; subst ha; simp [Addr.add]
   case c2 => intro u hu; simp at hu; subst hu; rfl
   intro gb capb w9 hown9 hg9 hor9 hlt9
   obtain ⟨Ms9, hk9, hR9, hA9, hf9⟩ := vO (HK8.out.below ((Below.refl _ _).alloc (Nat.le_refl _) (.cells #[.int .i64 r] 3))) (Nat.le_refl _) HR8.out HA8.out (fun b hb hb2 => HF8.out (by rw [hb]; exact congrArg some (Option.some.inj (by simpa [Value.ownBlock] using hb2)).symm)) hown9 hg9 (by simpa using hor9)
   have HMN : Hid (Mn w w9 g gd (1 + 41 * (j + 1)) gen xs h K7 Ms9 (cs ++ [BR gen r x p]) (j + 1) (some ⟨ga, 0, none⟩) capa (some ⟨gb, 0, none⟩) capb) := Lib.hid (by
    refine ⟨by rw [List.length_append, HM.out.len]; rfl, hk9, ?_, ?_, fun b hb hb2 => hf9 (by rw [hb]; exact hb2.symm ▸ rfl), HM.out.br.snoc (by rw [HM.out.len]; exact HX.out) HF.out⟩
    ·unfold AX
     rw [List.map_append]
     exact hA9
    ·unfold Zy
     rw [List.map_append]
     exact hR9)
   clear hk9 hR9 hA9 hf9 hown9 hg9 hor9 hlt9 HK8 HA8 HR8 HF8 HOR hi hz0 hz1 hz2
   go_wp2_with fail
   refine ⟨⟨j + 1, _, _, _, _, _, _, _, by go_num, rfl, rfl, HLT.out, HMN.out⟩, by have := HLT.out; simp [intOf]; omega⟩
  ·obtain rfl : j = n := by omega
   have hnd : (cs.map CH.at_).Nodup := by rw [<- HM.out.br.secs]; exact HM.out.bk.on.once
   have HND := Lib.hid hnd
   clear hnd hlt hj HI0
   go_wp2_with fail
   go_loopw [14] (fun i wr2 => ∃ (t : Nat) (K2 : KD) (ls : List CH), i = .int .i64 (t : Int) /\ t <= j /\ M2 w wr2 g gd (1 + 41 * j) h K2 Ms cs ls t) (fun i _ => j - (intOf i).toNat)
   case atStart => exact ⟨0, K, cs, rfl, Nat.zero_le _, HM.out.bk, fun t c _ hc => List.mem_iff_getElem?.2 ⟨t, hc⟩⟩
   case round =>
    obtain ⟨i, K2, ls, rfl, hi, h2⟩ := hrel
    have H2 := Lib.hid h2
    clear h2
    by_cases hlt : i < j
    rotate_left
    ·have z0 : ¬ (i : Int) < (j : Int) := by omega
     clear hlt hi
     go_wp2_with fail
     go_ret
     exact ⟨rfl, H2.out.bk.base⟩
    have HLT := Lib.hid hlt
    have hiI : (i : Int) < (j : Int) := by omega
    obtain ⟨ba, hpa, hca, HAC0⟩ := zN HM.out.row H2.out.bk.st (by omega)
    obtain ⟨br, hpr, hcr, HRC0⟩ := zN HM.out.ref H2.out.bk.st (by omega)
    subst hpa hpr
    obtain ⟨c, hc⟩ : ∃ c, cs[i]? = some c := ⟨_, List.getElem?_eq_getElem (by rw [HM.out.len]; exact hlt)⟩
    obtain ⟨x, r, p, hx, hce, hf⟩ := HM.out.br i c hc
    subst hce
    have hmem := H2.out.in_ i _ (Nat.le_refl _) hc
    have HC := Lib.hid hc
    have HF := Lib.hid hf
    have HMEM := Lib.hid hmem
    have HAC := Lib.hid HAC0
    have HXC0 : Hid (∃ b off, A = some ⟨b, off, none⟩ /\ ∀ w', Below w.heap.size w w' -> w'.cell? ⟨b, off + i, none⟩ = some (.string x)) := Lib.hid (by
     obtain ⟨b, off, hA, hbB, hc⟩ := HIN.out.lie (by rw [HIN.out.len]; omega)
     exact ⟨b, off, hA, fun w' hb' => (hb'.cell (p := ⟨b, off + i, none⟩) hbB).trans (hc i x hx)⟩)
    have HRC1 : Hid (∀ w', Below wr.heap.size wr w' -> w'.cell? ⟨br, i, none⟩ = some (.int .i64 r)) := Lib.hid (fun w' hb' => HRC0 w' hb' i _ (by unfold Zy; rw [List.getElem?_map, hc]; rfl))
    have HAI : Hid (∀ w', Below wr.heap.size wr w' -> w'.cell? ⟨ba, i, none⟩ = some (.int .i64 p)) := Lib.hid (fun w' hb' => HAC0 w' hb' i _ (by unfold AX; rw [List.getElem?_map, hc]; rfl))
    obtain ⟨b, off, hA, hxc⟩ := HXC0.out
    have HXC1 := Lib.hid hxc
    have hai := HAI.out wr (Below.refl _ _)
    have hgt := H2.out.bk.get hmem hf
    obtain ⟨kd, hkd⟩ : ∃ kd, kd = cX gen := ⟨_, rfl⟩
    obtain ⟨S, hS⟩ : ∃ S, S = zO gen x := ⟨_, rfl⟩
    rw [<- hkd, <- hS] at hgt
    unfold Ci at hgt
    have HGT := Lib.hid hgt
    have HKD : Hid (∀ w', Calls Tryz.prog 18 #[.int .i64 gen] w' fun e w'' => e = .returned (.int .i64 kd) /\ Below w'.heap.size w' w'') := Lib.hid (fun w' => by rw [hkd]; exact (mI gen w').mono fun e w'' h => ⟨h.1, by rw [h.2]; exact Below.refl _ _⟩)
    have HXE : Hid ((x.toList == x.toList) = true) := Lib.hid (by rw [fC]; exact decide_eq_true rfl)
    have HRE : Hid ((r == r) = true) := Lib.hid (by simp)
    have HGE : Hid ((gen == gen) = true) := Lib.hid (by simp)
    have HKE : Hid ((kd == kd) = true) := Lib.hid (by simp)
    clear hc hx hf hmem HAC0 HRC0 HXC0 hxc hgt hkd hS hlt
    subst hA
    go_wp2_with fail
    refine HGT.out.mono ?_
    rintro e w3 ⟨rfl, hb3⟩
    clear hai
    go_upto_region 25 with fail
    obtain ⟨gb, hgb⟩ : ∃ gb, gb = w3.heap.size := ⟨_, rfl⟩
    obtain ⟨w4, hw4⟩ : ∃ w4, w4 = w3.alloc (.cells #[.int .i64 gen, .int .i64 r, .int .i64 kd, .string S, .string x] 38) := ⟨_, rfl⟩
    have KB4 : Hid (aG w4 gb 38 #[.int .i64 gen, .int .i64 r, .int .i64 kd, .string S, .string x]) := Lib.hid (by rw [hw4, hgb]; exact aG.new w3 _ _)
    have HB4 : Hid (Below wr.heap.size wr w4) := Lib.hid (by rw [hw4]; exact hb3.alloc hb3.size _)
    have HBK : Hid (∀ w', Below w4.heap.size w4 w' -> aG w' gb _ _) := Lib.hid (fun w' hw => KB4.out.below hw KB4.out.lt)
    have HXC : Hid (∀ w', Below w4.heap.size w4 w' -> w'.cell? ⟨b, off + i, none⟩ = some (.string x)) := Lib.hid (fun w' hw => HXC1.out w' (H2.out.bk.base.trans ((HB4.out.trans (hw.mono HB4.out.size)).mono H2.out.bk.base.size)))
    have HRC : Hid (∀ w', Below w4.heap.size w4 w' -> w'.cell? ⟨br, i, none⟩ = some (.int .i64 r)) := Lib.hid (fun w' hw => HRC1.out w' (HB4.out.trans (hw.mono HB4.out.size)))
    rw [<- hw4, <- hgb]
    clear hw4 hgb hb3 HGT KB4 HXC1 HRC1
    refine cE (Below w4.heap.size w4) (by kernel_rfl) (by kernel_rfl) ⟨rfl, rfl, rfl, Nat.le_refl _, fun _ _ => rfl⟩ ?_
    iterate 4 refine aE (fun w' hw K hK => by go_simp; exact hK) ⟨_, rfl, Nat.le_of_ble_eq_true rfl⟩ ⟨_, Below.refl _ _⟩ ?_
    refine aE (fun w' hw K hK => by obtain ⟨⟨c0, c1, c2, c3, c4⟩, -⟩ := oB (HBK.out w' hw); go_simp; exact hK) ⟨_, rfl, Nat.le_of_ble_eq_true rfl⟩ ⟨_, Below.refl _ _⟩ ?_
    iterate 3 refine aE (fun w' hw K hK => by go_simp; exact hK) ⟨_, rfl, Nat.le_of_ble_eq_true rfl⟩ ⟨_, Below.refl _ _⟩ ?_
    refine aE (fun w' hw K hK => by have h1 := HXC.out w' hw; go_simp; exact hK) ⟨_, rfl, Nat.le_of_ble_eq_true rfl⟩ ⟨_, Below.refl _ _⟩ ?_
    refine aE (fun w' hw K hK => by have h1 := HXE.out; go_simp; exact hK) ⟨_, rfl, Nat.le_of_ble_eq_true rfl⟩ ⟨_, Below.refl _ _⟩ ?_
    iterate 3 refine aE (fun w' hw K hK => by go_simp; exact hK) ⟨_, rfl, Nat.le_of_ble_eq_true rfl⟩ ⟨_, Below.refl _ _⟩ ?_
    refine aE (fun w' hw K hK => by obtain ⟨⟨c0, c1, c2, c3, c4⟩, -⟩ := oB (HBK.out w' hw); go_simp; exact hK) ⟨_, rfl, Nat.le_of_ble_eq_true rfl⟩ ⟨_, Below.refl _ _⟩ ?_
    iterate 3 refine aE (fun w' hw K hK => by go_simp; exact hK) ⟨_, rfl, Nat.le_of_ble_eq_true rfl⟩ ⟨_, Below.refl _ _⟩ ?_
    refine aE (fun w' hw K hK => by have h1 := HRC.out w' hw; go_simp; exact hK) ⟨_, rfl, Nat.le_of_ble_eq_true rfl⟩ ⟨_, Below.refl _ _⟩ ?_
    refine aE (fun w' hw K hK => by have h1 := HRE.out; go_simp; exact hK) ⟨_, rfl, Nat.le_of_ble_eq_true rfl⟩ ⟨_, Below.refl _ _⟩ ?_
    iterate 3 refine aE (fun w' hw K hK => by go_simp; exact hK) ⟨_, rfl, Nat.le_of_ble_eq_true rfl⟩ ⟨_, Below.refl _ _⟩ ?_
    refine aE (fun w' hw K hK => by obtain ⟨⟨c0, c1, c2, c3, c4⟩, -⟩ := oB (HBK.out w' hw); go_simp; exact hK) ⟨_, rfl, Nat.le_of_ble_eq_true rfl⟩ ⟨_, Below.refl _ _⟩ ?_
    refine aE (fun w' hw K hK => by go_simp; exact hK) ⟨_, rfl, Nat.le_of_ble_eq_true rfl⟩ ⟨_, Below.refl _ _⟩ ?_
    refine aE (fun w' hw K hK => by have h1 := HGE.out; go_simp; exact hK) ⟨_, rfl, Nat.le_of_ble_eq_true rfl⟩ ⟨_, Below.refl _ _⟩ ?_
    iterate 4 refine aE (fun w' hw K hK => by go_simp; exact hK) ⟨_, rfl, Nat.le_of_ble_eq_true rfl⟩ ⟨_, Below.refl _ _⟩ ?_
    refine aE (fun w' hw K hK => by obtain ⟨⟨c0, c1, c2, c3, c4⟩, -⟩ := oB (HBK.out w' hw); go_simp; exact hK) ⟨_, rfl, Nat.le_of_ble_eq_true rfl⟩ ⟨_, Below.refl _ _⟩ ?_
    refine aE (fun w' hw K hK => by go_simp; exact hK) ⟨_, rfl, Nat.le_of_ble_eq_true rfl⟩ ⟨_, Below.refl _ _⟩ ?_
    refine eI (fun w' hw => (HKD.out w').mono fun e w'' ⟨he, hb⟩ => ⟨he, hw.trans (hb.mono hw.size)⟩) (by go_simp) (fun w' hw => by go_simp) ?_
    simp only [Act.put, List.setIfInBounds_toArray, List.set_cons_succ, List.set_cons_zero]
    refine aE (fun w' hw K hK => by have h1 := HKE.out; go_simp; exact hK) ⟨_, rfl, Nat.le_of_ble_eq_true rfl⟩ ⟨_, Below.refl _ _⟩ ?_
    refine aE (fun w' hw K hK => by go_simp; exact hK) ⟨_, rfl, Nat.le_of_ble_eq_true rfl⟩ ⟨_, Below.refl _ _⟩ ?_
    intro w5 hb5
    have HB5 := Lib.hid (HB4.out.trans (hb5.mono HB4.out.size))
    clear hb5 HBK HXC HRC HKD HXE HRE HGE HKE HB4
    go_wp2_with fail
    go_loopw [17] (fun v wr3 => ∃ t : Nat, t <= i /\ v = .int .i64 (t : Int) /\ Below w5.heap.size w5 wr3) (fun v _ => i - (intOf v).toNat)
    case atStart => exact ⟨0, Nat.zero_le _, rfl, Below.refl _ _⟩
    case round =>
     obtain ⟨t, ht, rfl, hb6⟩ := hrel
     have HB6 := Lib.hid (HB5.out.trans (hb6.mono HB5.out.size))
     have HB6' := Lib.hid hb6
     clear hb6
     have hai := HAI.out _ HB6.out
     by_cases hti : t < i
     ·have htI : (t : Int) < (i : Int) := by omega
      have htJ : (t : Int) < (j : Int) := by omega
      obtain ⟨ct, hct⟩ : ∃ ct, cs[t]? = some ct := ⟨_, List.getElem?_eq_getElem (by rw [HM.out.len]; omega)⟩
      obtain ⟨a, ha⟩ : ∃ a, a = ct.at_ := ⟨_, rfl⟩
      have hat := HAC.out _ HB6.out t (.int .i64 a) (by unfold AX; rw [List.getElem?_map, hct, ha]; rfl)
      have hne : (a == p) = false := beq_eq_false_iff_ne.2 (by
       obtain ⟨a1, a2⟩ := List.getElem?_eq_some_iff.1 hct
       obtain ⟨b1, b2⟩ := List.getElem?_eq_some_iff.1 HC.out
       have := List.pairwise_iff_getElem.1 HND.out t i (by simpa using a1) (by simpa using b1) hti
       rw [List.getElem_map, List.getElem_map, a2, b2, <- ha] at this
       exact this)
      have HTI := Lib.hid hti
      clear hct ha hti
      go_wp2_with fail
      go_quiet (fail)
      go_wp2_with fail
      refine ⟨⟨t + 1, HTI.out, by go_num, cI HB6'.out _⟩, by have := HTI.out; simp [intOf]; omega⟩
     ·obtain rfl : t = i := by omega
      have H6 := Lib.hid (H2.out.below HB6.out)
      obtain ⟨ρ, hρ⟩ : ∃ ρ, ρ = t % 2 := ⟨_, rfl⟩
      have m1 : (t : Int).tmod 2 = (ρ : Int) := by rw [hρ, Int.tmod_eq_emod_of_nonneg (by omega)]; rfl
      have m2 : (t : Int) % 2 = (ρ : Int) := by rw [hρ]; rfl
      have m3 : IntKind.i64.wrap (ρ : Int) = (ρ : Int) := by rw [IntKind.wrap_i64]; omega
      have m4 : IntKind.i64.wrap ((t : Int) + 1) = (t : Int) + 1 := by rw [IntKind.wrap_i64]; omega
      clear hti ht HB6'
      by_cases hd : ρ = 0 /\ t + 1 < j
      ·obtain ⟨hr0, hd1⟩ := hd
       subst hr0
       have z1 : (t : Int) + 1 < (j : Int) := by omega
       obtain ⟨l1, l2, hl⟩ := List.append_of_mem HMEM.out
       have hk6 := H6.out.bk
       have hin6 := H6.out.in_
       rw [hl] at hk6 hin6
       have HDR := Lib.hid (hk6.drop HF.out)
       have HIN6 := Lib.hid hin6
       clear hρ hd1 hl hk6 hin6
       go_wp2_with fail
       refine HDR.out.mono ?_
       rintro e w7 ⟨rfl, K7, hk7⟩
       have H7 := Lib.hid (M2.dropped HND.out HC.out HIN6.out hk7)
       clear hk7 HDR
       go_wp2_with fail
       refine ⟨⟨t + 1, K7, _, by go_num, HLT.out, H7.out⟩, by have := HLT.out; simp [intOf]; omega⟩
      ·have H7 := Lib.hid H6.out.on
       by_cases hr0 : ρ = 0
       ·have z1 : ¬ (t : Int) + 1 < (j : Int) := by omega
        subst hr0
        clear hd hρ
        go_wp2_with fail
        refine ⟨⟨t + 1, K2, ls, by go_num, HLT.out, H7.out⟩, by have := HLT.out; simp [intOf]; omega⟩
       ·have z1 : ((ρ : Int) == 0) = false := beq_eq_false_iff_ne.2 (by omega)
        clear hd hρ hr0
        go_wp2_with fail
        refine ⟨⟨t + 1, K2, ls, by go_num, HLT.out, H7.out⟩, by have := HLT.out; simp [intOf]; omega⟩
theorem Qt (gen : Int) (A : Option Addr) (n c : Nat) (xs : List ByteArray) (A2 : Option Addr) (n2 c2 : Nat) (us : List Int) (w : World) (_ : -9223372036854775808 <= gen /\ gen <= 9223372036854775807) (hin : wK w A n c xs) (hus : Vf w A2 n2 c2 us) :
  Calls Tryz.prog 5 #[.int .i64 gen, .slice A n c, .slice A2 n2 c2] w fun e w' => e = .returned (.bool true) /\ Below w.heap.size w w' := by
 by_cases ho : 25 < n \/ 25 < n2 \/ gen < 1 \/ 3 < gen
 ·exact Qs gen A n c A2 n2 c2 w ho
 ·exact Vr gen A n c xs A2 n2 c2 us w hin hus (by omega) (by omega) (by omega) (by omega)
end Go.Proofs.YtingkbeifohihaaGreatDoor
