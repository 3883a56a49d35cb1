/-
  The writer of package bits: how it lies in memory, and its two inner calls: what each leaves.
-/
import Derived.Test.YtingkbeifohihaaGreatDoorRegionApp
import Derived.Test.YtingkbeifohihaaGreatDoorJoin
import Derived.Test.YtingkbeifohihaaGreatDoorBookTexts
import Derived.Test.YtingkbeifohihaaGreatDoorMarkSmall
import Derived.Test.YtingkbeifohihaaGreatDoorOneMix
import Derived.Deep.DeepCutAuto
import Derived.Deep.RegionWith
import Derived.BigCall
import Derived.Laws.BitsAllLaws
import Derived.Test.YtingkbeifohihaaGreatDoorTwoSmall
import Derived.Test.YtingkbeifohihaaGreatDoorProg
import Derived.Test.YtingkbeifohihaaGreatDoorMarkPure
import Derived.BigQuiet
import Derived.Deep.QuietTactic
import Derived.Outline
namespace Go.Proofs.YtingkbeifohihaaGreatDoor
open Go.RowKit
theorem jM {P : Program} {ops : Array Oper} {Q : Exit -> Act -> World -> Prop} (lo k hi : Nat) (V : Nat -> Value) (J J' : World -> Prop) {id : Nat} {a : Act} {w : World}
  (hm : P.follows .mixedOrders = true) (he : nU .any ops = true) (hsz : ops.size = k + 1) (hsink : wZ ops k = true) (hhi : lo + k = hi + 1) (hlo : lo + k <= a.tmps.size)
  (hJ : ∀ w w' : World, J w -> w.grownBy w' none -> J w') (h0 : J w)
  (hops : ∀ i, i < k -> ∀ (x : Act) (w' : World), bI a lo hi x -> J w' -> (∀ j ∈ aQ .any ops i, j < k -> x.tmps[lo + j]?.getD undef = V j) -> wpOp P ops Q i (fun x' w'' => x' = x.put (some (lo + i)) (V i) /\ w'.grownBy w'' none) x w')
  (hlast : ∀ (x : Act) (w' : World), bI a lo hi x -> J w' -> (∀ j, j < k -> x.tmps[lo + j]?.getD undef = V j) -> wpOp P ops Q k (fun x' w'' => x' = x.put none undef /\ J' w'') x w')
  (hK : ∀ (x : Act) (w' : World), bI a lo hi x -> (∀ j, j < k -> x.tmps[lo + j]?.getD undef = V j) -> J' w' -> Q .normal x w') : (Code.region id ops true).wp P Q a w := by
 have hcl : ∀ (L : Nat -> Bool) (i : Nat), (∀ i, L i = true -> ∀ j ∈ aQ .any ops i, L j = true) -> (∀ j ∈ aQ .any ops i, L j = true) -> ∀ n, (fun j => if i = j then true else L j) n = true -> ∀ j ∈ aQ .any ops n, (fun j => if i = j then true else L j) j = true := by
  intro L i h1 h2 n hn j hj
  by_cases hij : i = j
  ·simp [hij]
  ·simp only [if_neg hij]
   by_cases hin : i = n
   ·subst hin; exact h2 j hj
   ·simp only [if_neg hin] at hn
    exact h1 n hn j hj
 refine cJ (fun L x w => bI a lo hi x /\ Hr k lo (fun i v => v = V i) L x /\ (∀ i, L i = true -> ∀ j ∈ aQ .any ops i, L j = true) /\ (L k = true -> J' w) /\ (L k = false -> J w)) hm he ?_ ?_ ?_
 ·exact ⟨bI.refl _ _ _, (fun _ _ h => by cases h), (fun _ h => by cases h), (fun h => by cases h), fun _ => hJ _ _ h0 (pK (aC _ _))⟩
 ·intro L x w' i ⟨hF, hL, hc, h1, h2⟩ hi hLi hw
  by_cases hik : i = k
  ·subst hik
   have hall : ∀ j, j < i -> L j = true := fun j hj => by
    have := gO (L := fun j => if i = j then true else L j) hsink (hcl L i hc hw) (by simp) j hj
    simpa [show i ≠ j by omega] using this
   refine wpOp_mono (fun x' w'' h => ?_) (hlast x w' hF (h2 hLi) (fun j hj => hL j hj (hall j hj)))
   obtain ⟨rfl, hj'⟩ := h
   refine ⟨hF, fun j hj hLj => ?_, hcl L i hc hw, fun _ => hj', fun h => by simp at h⟩
   simp only [if_neg (show ¬ i = j by omega)] at hLj
   exact hL j hj hLj
  ·have hi : i < k := by omega
   have hk : L k = false := by
    cases hb : L k with
    | false => rfl
    | true =>
      have := gO hsink hc hb i hi
      rw [hLi] at this
      cases this
   refine wpOp_mono (fun x' w'' h => ?_) (hops i hi x w' hF (h2 hk) (fun j hj hjk => hL j hjk (hw j hj)))
   obtain ⟨rfl, hg⟩ := h
   refine ⟨hF.put _ _ (by omega) (by omega), hL.next i (V i) (by rw [hF.2.1]; omega) (fun _ _ _ _ hu => hu) rfl, hcl L i hc hw, fun h => ?_, fun _ => hJ _ _ (h2 hk) hg⟩
   simp only [if_neg hik, hk] at h
   cases h
 ·intro L x w' ⟨hF, hL, _, h1, _⟩ hall
  exact hK x w' hF (fun j hj => hL j hj (hall j (by omega))) (h1 (hall k (by omega)))
theorem Ym (a : Array Value) (h : a.size = 31) : ∃ y0 y1 y2 y3 y4 y5 y6 y7 y8 y9 y10 y11 y12 y13 y14 y15 y16 y17 y18 y19 y20 y21 y22 y23 y24 y25 y26 y27 y28 y29 y30 : Value, a = #[y0, y1, y2, y3, y4, y5, y6, y7, y8, y9, y10, y11, y12, y13, y14, y15, y16, y17, y18, y19, y20, y21, y22, y23, y24, y25, y26, y27, y28, y29, y30] := by
 obtain ⟨l⟩ := a
 have h : l.length = 31 := h
 obtain ⟨y0, t1, e1, h1⟩ := aB h
 obtain ⟨y1, t2, e2, h2⟩ := aB h1
 obtain ⟨y2, t3, e3, h3⟩ := aB h2
 obtain ⟨y3, t4, e4, h4⟩ := aB h3
 obtain ⟨y4, t5, e5, h5⟩ := aB h4
 obtain ⟨y5, t6, e6, h6⟩ := aB h5
 obtain ⟨y6, t7, e7, h7⟩ := aB h6
 obtain ⟨y7, t8, e8, h8⟩ := aB h7
 obtain ⟨y8, t9, e9, h9⟩ := aB h8
 obtain ⟨y9, t10, e10, h10⟩ := aB h9
 obtain ⟨y10, t11, e11, h11⟩ := aB h10
 obtain ⟨y11, t12, e12, h12⟩ := aB h11
 obtain ⟨y12, t13, e13, h13⟩ := aB h12
 obtain ⟨y13, t14, e14, h14⟩ := aB h13
 obtain ⟨y14, t15, e15, h15⟩ := aB h14
 obtain ⟨y15, t16, e16, h16⟩ := aB h15
 obtain ⟨y16, t17, e17, h17⟩ := aB h16
 obtain ⟨y17, t18, e18, h18⟩ := aB h17
 obtain ⟨y18, t19, e19, h19⟩ := aB h18
 obtain ⟨y19, t20, e20, h20⟩ := aB h19
 obtain ⟨y20, t21, e21, h21⟩ := aB h20
 obtain ⟨y21, t22, e22, h22⟩ := aB h21
 obtain ⟨y22, t23, e23, h23⟩ := aB h22
 obtain ⟨y23, t24, e24, h24⟩ := aB h23
 obtain ⟨y24, t25, e25, h25⟩ := aB h24
 obtain ⟨y25, t26, e26, h26⟩ := aB h25
 obtain ⟨y26, t27, e27, h27⟩ := aB h26
 obtain ⟨y27, t28, e28, h28⟩ := aB h27
 obtain ⟨y28, t29, e29, h29⟩ := aB h28
 obtain ⟨y29, t30, e30, h30⟩ := aB h29
 obtain ⟨y30, t31, e31, h31⟩ := aB h30
 have e32 := List.eq_nil_of_length_eq_zero h31
 exact ⟨y0, y1, y2, y3, y4, y5, y6, y7, y8, y9, y10, y11, y12, y13, y14, y15, y16, y17, y18, y19, y20, y21, y22, y23, y24, y25, y26, y27, y28, y29, y30, by rw [e1, e2, e3, e4, e5, e6, e7, e8, e9, e10, e11, e12, e13, e14, e15, e16, e17, e18, e19, e20, e21, e22, e23, e24, e25, e26, e27, e28, e29, e30, e31, e32]⟩
set_option maxRecDepth 100000
set_option maxHeartbeats 4000000
theorem Aw (xs : List ByteArray) : Lib.join (xs.map (·.data.toList)) [] = aW xs := by
 cases xs with
 | nil => rfl
 | cons x r =>
   rw [List.map_cons, Lib.join_cons]
   have h : Lib.joinTail [] (r.map (·.data.toList)) = aW r := by
    unfold Lib.joinTail aW
    rw [List.flatMap_def, List.map_map]
    rfl
   rw [h]
   simp [aW]
theorem Ax (A : Option Addr) (m c : Nat) (xs : List ByteArray) (w : World) (hm : xs.length = m) (hx : dL w w.heap.size A xs) (hc : m <= c) (hl : m <= 1000000) (hs : (aW xs).length <= 1000000) :
  Calls Tryz.prog 29 #[.slice A m c, .string ⟨#[]⟩] w fun e w' => e = .returned (.string (eE xs)) /\ Below w.heap.size w w' := by
 subst hm
 by_cases h0 : xs.length = 0
 ·obtain rfl := List.eq_nil_of_length_eq_zero h0
  exact (Nf A c ⟨#[]⟩ w).mono fun e w' ⟨h1, h2⟩ => ⟨h1, h2 ▸ Below.refl _ _⟩
 ·obtain ⟨b, off, rfl, hb, hcs⟩ := hx (by omega)
  refine (Ng b off c xs ⟨#[]⟩ w hcs hb (by omega) hc (by rw [Aw]; omega)).mono fun e w' ⟨h1, h2⟩ => ⟨?_, h2⟩
  rw [h1, Aw]
  rfl
theorem Wi (A : Option Addr) (m c : Nat) (xs : List ByteArray) (w : World) (hm : xs.length = m) (hx : dL w w.heap.size A xs) (hc : m <= c) (hl : m <= 1000000) (hs : (aW xs).length <= 1000000) :
  Calls Tryz.prog 102 #[.slice A m c] w fun e w' => e = .returned (.string ⟨(zT (aW xs)).toArray⟩) /\ Below w.heap.size w w' := by
 obtain ⟨M, hM⟩ : ∃ M, M = eE xs := ⟨_, rfl⟩
 have HJ : Hid (Calls Tryz.prog 29 #[.slice A m c, .string ⟨#[]⟩] w fun e w' => e = .returned (.string M) /\ Below w.heap.size w w') := Lib.hid (by rw [hM]; exact Ax A m c xs w hm hx hc hl hs)
 have HML : Hid (M.data.toList = aW xs) := Lib.hid (by rw [hM]; rfl)
 obtain ⟨n, hn⟩ : ∃ n, n = M.size := ⟨_, rfl⟩
 have hn1 : n <= 1000000 := by rw [hn, hM, jC]; exact hs
 obtain ⟨z, hz⟩ : ∃ z, z = n % 64 := ⟨_, rfl⟩
 obtain ⟨u, hu⟩ : ∃ u, u = n - z := ⟨_, rfl⟩
 obtain ⟨q1, hq1⟩ : ∃ q, q = n / 64 := ⟨_, rfl⟩
 have hu64 : u = 64 * q1 := by omega
 have hun : u <= n := by omega
 obtain ⟨X, hX⟩ : ∃ X, X = M.extract 0 u := ⟨_, rfl⟩
 obtain ⟨R, hR⟩ : ∃ R, R = M.extract u M.size := ⟨_, rfl⟩
 have hXs : X.size = 64 * q1 := by rw [hX, ByteArray.size_extract]; omega
 obtain ⟨PB, hPB⟩ : ∃ PB : ByteArray, PB = ⟨(gC n).toArray⟩ := ⟨_, rfl⟩
 have hPs : PB.size = (gC n).length := by rw [hPB]; show (gC n).toArray.size = _; simp
 have hpw := qN n
 have hpl : (gC n).length <= 72 := by have := jZ n; rw [jA]; omega
 rw [<- hPs] at hpw hpl
 obtain ⟨RP, hRP⟩ : ∃ RP, RP = R ++ PB := ⟨_, rfl⟩
 have hRs : R.size = n - u := by rw [hR, ByteArray.size_extract]; omega
 have hRPs : RP.size = R.size + PB.size := by rw [hRP, ByteArray.size_append]
 obtain ⟨q2, hq2⟩ : ∃ q, q = RP.size / 64 := ⟨_, rfl⟩
 have hRP64 : RP.size = 64 * q2 := by omega
 obtain ⟨H1, hH1⟩ : ∃ H, H = lN X.data.toList S8.init q1 := ⟨_, rfl⟩
 obtain ⟨H2, hH2⟩ : ∃ H, H = lN RP.data.toList H1 q2 := ⟨_, rfl⟩
 have HT : Hid (H2.text = zT (aW xs)) := Lib.hid (by
  have hl : X.data.toList.length = 64 * q1 := by rw [<- Lib.size_eq]; exact hXs
  have e1 : H2 = hU (X.data.toList ++ RP.data.toList) (q1 + q2) := by rw [Hx _ _ q1 hl, Eo X.data.toList, hH2, hH1]
  have e2 : X.data.toList ++ RP.data.toList = aW xs ++ gC (aW xs).length := by
   rw [hRP, ByteArray.data_append, Array.toList_append, <- List.append_assoc, hPB, <- HML.out, <- Lib.size_eq, <- hn]
   congr 1
   rw [hX, hR, Ay, ByteArray.data_extract, Array.toList_extract, List.extract_eq_take_drop, Nat.sub_zero, List.drop_zero, List.take_append_drop]
  have e3 : (aW xs ++ gC (aW xs).length).length / 64 = q1 + q2 := by rw [<- e2, List.length_append, <- Lib.size_eq, <- Lib.size_eq]; omega
  unfold zT
  rw [e3, <- e2, <- e1])
 have HM1 : Hid (∀ w, Calls Tryz.prog 152 #[.agg (aM S8.init), .string X] w fun e w' => e = .returned (.agg (aM H1)) /\ Below w.heap.size w w') := Lib.hid (fun w => by rw [hH1]; exact xK S8.init X q1 w xN hXs (by omega))
 have HM2 : Hid (∀ w, Calls Tryz.prog 152 #[.agg (aM H1), .string RP] w fun e w' => e = .returned (.agg (aM H2)) /\ Below w.heap.size w w') := Lib.hid (fun w => by rw [hH2]; exact xK H1 RP q2 w (by rw [hH1]; exact En _ xN _) hRP64 (by omega))
 have HP : Hid (∀ w, Calls Tryz.prog 150 #[.int .i64 (n : Int)] w fun e w' => e = .returned (.string PB) /\ Below w.heap.size w w') := Lib.hid (fun w => by rw [hPB]; exact Ej n w (by omega))
 have hnM : (M.size : Int) = (n : Int) := by rw [hn]
 have hm1 : Int.tmod (n : Int) 64 = (z : Int) := by rw [Int.tmod_eq_emod_of_nonneg (by omega)]; omega
 have hm2 : (n : Int) % 64 = (z : Int) := by omega
 have hs1 : (n : Int) - (z : Int) = (u : Int) := by omega
 have hw1 : IntKind.i64.wrap (u : Int) = (u : Int) := IntWalk.i64_in _ (by omega)
 have HSX : Hid (∀ w3, (Instr.slice 9 (.string M) none (some (.int .i64 (u : Int))) none).run Tryz.prog w3 = .ok (.string X) w3) := Lib.hid (fun w3 => nC w3 M X u (by omega) hX.symm)
 have HSR : Hid (∀ w3, (Instr.slice 9 (.string M) (some (.int .i64 (u : Int))) none none).run Tryz.prog w3 = .ok (.string R) w3) := Lib.hid (fun w3 => kN w3 M R u (by omega) hR.symm)
 have HCT : Hid (R.size + PB.size <= 9223372036854775807 /\ R ++ PB = RP) := Lib.hid ⟨by omega, hRP.symm⟩
 have HS8 : Hid (∀ w, (sizeOf 209).run Tryz.prog w = .ok 8 w) := Lib.hid (fun w => by kernel_rfl)
 have HA8 : Hid (∀ w, (isAgg 209).run Tryz.prog w = .ok true w) := Lib.hid (fun w => by kernel_rfl)
 have HO8 : Hid (∀ s : S8, (aM s).all (·.oneCell') = true) := Lib.hid (fun s => by unfold aM aF; simp [Value.oneCell'])
 have HNM := Lib.hid hnM
 clear hM hn hz hu hq1 hu64 hX hR hXs hPB hPs hpw hpl hRP hRs hRPs hq2 hRP64 hH1 hH2 hx hs hm
 go_enter Tryz.func102, Tryz.ntmps102
 go_wp2_with (go_at_call 29; refine HJ.out.mono ?_; rintro e w1 ⟨rfl, hb1⟩)
 have HB1 := Lib.hid hb1
 clear hb1
 go_upto_region 3 with fail
 obtain ⟨IC, hIC⟩ : ∃ IC, IC = aM S8.init := ⟨_, rfl⟩
 have hIC' : IC = #[Value.int .u32 1779033703, .int .u32 3144134277, .int .u32 1013904242, .int .u32 2773480762, .int .u32 1359893119, .int .u32 2600822924, .int .u32 528734635, .int .u32 1541459225] := hIC
 rw [<- hIC']
 rw [<- hIC] at HM1
 have HIS : Hid (IC.size = 8) := Lib.hid (by rw [hIC]; rfl)
 clear hIC hIC'
 obtain ⟨g, hg⟩ : ∃ g, g = w1.heap.size := ⟨_, rfl⟩
 have HW1 : Hid (aG (w1.alloc (.cells IC 209)) g 209 IC /\ Below w.heap.size w (w1.alloc (.cells IC 209)) /\ w.heap.size <= g) := Lib.hid ⟨by rw [hg]; exact aG.new w1 _ IC, HB1.out.alloc HB1.out.size _, by rw [hg]; exact HB1.out.size⟩
 obtain ⟨W1, hW1⟩ : ∃ W, W = w1.alloc (.cells IC 209) := ⟨_, rfl⟩
 rw [<- hW1] at HW1
 rw [<- hW1, <- hg]
 clear hW1 hg HB1
 clear w1
 have HJJ : Hid (∀ (C : Array Value) (w3 w4 : World), (aG w3 g 209 C /\ Below w.heap.size w w3) -> w3.grownBy w4 none -> (aG w4 g 209 C /\ Below w.heap.size w w4)) := Lib.hid (fun C w3 w4 ⟨h1, h2⟩ hg => ⟨h1.grown hg (by simp), h2.trans ((fH hg).mono h2.size)⟩)
 refine jM 15 5 19 (fun i => match i with | 0 => .agg IC | 1 => .string M | 2 => .int .i64 (u : Int) | 3 => .string X | _ => .agg (aM H1)) (fun w3 => aG w3 g 209 IC /\ Below w.heap.size w w3) (fun w3 => aG w3 g 209 (aM H1) /\ Below w.heap.size w w3) (by kernel_rfl) (by kernel_rfl) rfl (by kernel_rfl) rfl (by simp) (HJJ.out IC) ⟨HW1.out.1, HW1.out.2.1⟩ ?hops ?hlast ?hK
 case hops =>
  intro i hi x w' hF hJw hw
  rcases (show i = 0 \/ i = 1 \/ i = 2 \/ i = 3 \/ i = 4 by omega) with rfl | rfl | rfl | rfl | rfl
  ·have e5 : x.tmps[5]?.getD undef = .pointer (some ⟨g, 0, none⟩) := hF.get 5 (by omega)
   have HL := Lib.hid (eR (P := Tryz.prog) hJw.1 HA8.out (fun w => by rw [HIS.out]; exact HS8.out w))
   clear hF hJw hw
   exact aA (v := .agg IC) (w' := w') rfl rfl (pM (p := .pointer (some ⟨g, 0, none⟩)) rfl (by simp [Act.eval, e5]) HL.out) ⟨rfl, aC _ _⟩
  ·have e3 : x.tmps[3]?.getD undef = .string M := hF.get 3 (by omega)
   clear hF hJw hw
   refine aA (v := .string M) (w' := w') rfl rfl ?_ ⟨rfl, aC _ _⟩
   go_simp
  ·have e4 : x.tmps[4]?.getD undef = .int .i64 (u : Int) := hF.get 4 (by omega)
   clear hF hJw hw
   refine aA (v := .int .i64 (u : Int)) (w' := w') rfl rfl ?_ ⟨rfl, aC _ _⟩
   go_simp
  ·have e1 : x.tmps[16]?.getD undef = .string M := hw 1 (of_decide_eq_true (by kernel_rfl)) (by omega)
   have e2 : x.tmps[17]?.getD undef = .int .i64 (u : Int) := hw 2 (of_decide_eq_true (by kernel_rfl)) (by omega)
   have hsx := HSX.out
   clear hF hJw hw
   refine aA (v := .string X) (w' := w') rfl rfl ?_ ⟨rfl, aC _ _⟩
   go_simp
  ·have e0 : x.tmps[15]?.getD undef = .agg IC := hw 0 (of_decide_eq_true (by kernel_rfl)) (by omega)
   have e3 : x.tmps[18]?.getD undef = .string X := hw 3 (of_decide_eq_true (by kernel_rfl)) (by omega)
   clear hF hJw hw
   exact aP (f := 152) (args := #[.agg IC, .string X]) rfl rfl (by go_simp) ((HM1.out w').mono fun e w'' ⟨he, hb⟩ => ⟨_, he, rfl, cT hb (Nat.le_refl _)⟩)
 case hlast =>
  intro x w' hF hJw hall
  have e5 : x.tmps[5]?.getD undef = .pointer (some ⟨g, 0, none⟩) := hF.get 5 (by omega)
  have e19 : x.tmps[19]?.getD undef = .agg (aM H1) := hall 4 (by omega)
  have HST := Lib.hid (cN (P := Tryz.prog) (cs := aM H1) hJw.1 (by rw [HIS.out]; rfl) (HO8.out H1) HS8.out)
  have HJ2 : Hid (aG (w'.setRow g (aM H1)) g 209 (aM H1) /\ Below w.heap.size w (w'.setRow g (aM H1))) := Lib.hid ⟨bQ hJw.1 _, below_setRow hJw.2 HW1.out.2.2 _⟩
  clear hF hJw hall
  exact eC rfl rfl (qO (p := .pointer (some ⟨g, 0, none⟩)) (v := .agg (aM H1)) rfl (by simp [Act.eval, e5]) (by simp [Act.eval, e19]) HST.out) ⟨rfl, HJ2.out⟩
 case hK =>
  intro x w2 hF _ hJ2
  have HJ2 := Lib.hid hJ2
  clear hJ2
  obtain ⟨t, d⟩ := x
  obtain ⟨x0, x1, x2, x3, x4, x5, x6, x7, x8, x9, x10, x11, x12, x13, x14, x15, x16, x17, x18, x19, x20, x21, x22, x23, x24, x25, x26, x27, x28, x29, x30, rfl⟩ := Ym t hF.2.1
  obtain rfl : d = [] := hF.1
  obtain rfl : x0 = .slice A m c := Option.some.inj (hF.2.2 0 (by omega))
  obtain rfl : x2 = .string ⟨#[]⟩ := Option.some.inj (hF.2.2 2 (by omega))
  obtain rfl : x3 = .string M := Option.some.inj (hF.2.2 3 (by omega))
  obtain rfl : x4 = .int .i64 (u : Int) := Option.some.inj (hF.2.2 4 (by omega))
  obtain rfl : x5 = .pointer (some ⟨g, 0, none⟩) := Option.some.inj (hF.2.2 5 (by omega))
  clear hF
  obtain ⟨IC2, hIC2⟩ : ∃ IC, IC = aM H1 := ⟨_, rfl⟩
  rw [<- hIC2] at HM2 HJ2
  have HIS2 : Hid (IC2.size = 8) := Lib.hid (by rw [hIC2]; rfl)
  clear hIC2
  go_upto_region 5 with fail
  refine jM 20 9 28 (fun i => match i with | 0 => .agg IC2 | 1 => .string M | 2 => .int .i64 (u : Int) | 3 => .string R | 4 => .string M | 5 => .int .i64 (n : Int) | 6 => .string PB | 7 => .string RP | _ => .agg (aM H2)) (fun w3 => aG w3 g 209 IC2 /\ Below w.heap.size w w3) (fun w3 => aG w3 g 209 (aM H2) /\ Below w.heap.size w w3) (by kernel_rfl) (by kernel_rfl) rfl (by kernel_rfl) rfl (by simp) (HJJ.out IC2) HJ2.out ?hops ?hlast ?hK
  case hops =>
   intro i hi x w' hF hJw hw
   rcases (show i = 0 \/ i = 1 \/ i = 2 \/ i = 3 \/ i = 4 \/ i = 5 \/ i = 6 \/ i = 7 \/ i = 8 by omega) with rfl | rfl | rfl | rfl | rfl | rfl | rfl | rfl | rfl
   ·have e5 : x.tmps[5]?.getD undef = .pointer (some ⟨g, 0, none⟩) := hF.get 5 (by omega)
    have HL := Lib.hid (eR (P := Tryz.prog) hJw.1 HA8.out (fun w => by rw [HIS2.out]; exact HS8.out w))
    clear hF hJw hw
    exact aA (v := .agg IC2) (w' := w') rfl rfl (pM (p := .pointer (some ⟨g, 0, none⟩)) rfl (by simp [Act.eval, e5]) HL.out) ⟨rfl, aC _ _⟩
   ·have e3 : x.tmps[3]?.getD undef = .string M := hF.get 3 (by omega)
    clear hF hJw hw
    refine aA (v := .string M) (w' := w') rfl rfl ?_ ⟨rfl, aC _ _⟩
    go_simp
   ·have e4 : x.tmps[4]?.getD undef = .int .i64 (u : Int) := hF.get 4 (by omega)
    clear hF hJw hw
    refine aA (v := .int .i64 (u : Int)) (w' := w') rfl rfl ?_ ⟨rfl, aC _ _⟩
    go_simp
   ·have e1 : x.tmps[21]?.getD undef = .string M := hw 1 (of_decide_eq_true (by kernel_rfl)) (by omega)
    have e2 : x.tmps[22]?.getD undef = .int .i64 (u : Int) := hw 2 (of_decide_eq_true (by kernel_rfl)) (by omega)
    have hsx := HSR.out
    clear hF hJw hw
    refine aA (v := .string R) (w' := w') rfl rfl ?_ ⟨rfl, aC _ _⟩
    go_simp
   ·have e3 : x.tmps[3]?.getD undef = .string M := hF.get 3 (by omega)
    clear hF hJw hw
    refine aA (v := .string M) (w' := w') rfl rfl ?_ ⟨rfl, aC _ _⟩
    go_simp
   ·have e4 : x.tmps[24]?.getD undef = .string M := hw 4 (of_decide_eq_true (by kernel_rfl)) (by omega)
    have hnM := HNM.out
    clear hF hJw hw
    refine aA (v := .int .i64 (n : Int)) (w' := w') rfl rfl ?_ ⟨rfl, aC _ _⟩
    go_simp
   ·have e5 : x.tmps[25]?.getD undef = .int .i64 (n : Int) := hw 5 (of_decide_eq_true (by kernel_rfl)) (by omega)
    clear hF hJw hw
    exact aP (f := 150) (args := #[.int .i64 (n : Int)]) rfl rfl (by go_simp) ((HP.out w').mono fun e w'' ⟨he, hb⟩ => ⟨_, he, rfl, cT hb (Nat.le_refl _)⟩)
   ·have e3 : x.tmps[23]?.getD undef = .string R := hw 3 (of_decide_eq_true (by kernel_rfl)) (by omega)
    have e6 : x.tmps[26]?.getD undef = .string PB := hw 6 (of_decide_eq_true (by kernel_rfl)) (by omega)
    obtain ⟨hc1, hc2⟩ := HCT.out
    clear hF hJw hw
    refine aA (v := .string RP) (w' := w') rfl rfl ?_ ⟨rfl, aC _ _⟩
    go_simp
   ·have e0 : x.tmps[20]?.getD undef = .agg IC2 := hw 0 (of_decide_eq_true (by kernel_rfl)) (by omega)
    have e7 : x.tmps[27]?.getD undef = .string RP := hw 7 (of_decide_eq_true (by kernel_rfl)) (by omega)
    clear hF hJw hw
    exact aP (f := 152) (args := #[.agg IC2, .string RP]) rfl rfl (by go_simp) ((HM2.out w').mono fun e w'' ⟨he, hb⟩ => ⟨_, he, rfl, cT hb (Nat.le_refl _)⟩)
  case hlast =>
   intro x w' hF hJw hall
   have e5 : x.tmps[5]?.getD undef = .pointer (some ⟨g, 0, none⟩) := hF.get 5 (by omega)
   have e28 : x.tmps[28]?.getD undef = .agg (aM H2) := hall 8 (by omega)
   have HST := Lib.hid (cN (P := Tryz.prog) (cs := aM H2) hJw.1 (by rw [HIS2.out]; rfl) (HO8.out H2) HS8.out)
   have HJ3 : Hid (aG (w'.setRow g (aM H2)) g 209 (aM H2) /\ Below w.heap.size w (w'.setRow g (aM H2))) := Lib.hid ⟨bQ hJw.1 _, below_setRow hJw.2 HW1.out.2.2 _⟩
   clear hF hJw hall
   exact eC rfl rfl (qO (p := .pointer (some ⟨g, 0, none⟩)) (v := .agg (aM H2)) rfl (by simp [Act.eval, e5]) (by simp [Act.eval, e28]) HST.out) ⟨rfl, HJ3.out⟩
  case hK =>
   intro x w3 hF _ hJ3
   have HJ3 := Lib.hid hJ3
   clear hJ3
   obtain ⟨t, d⟩ := x
   obtain ⟨z0, z1, z2, z3, z4, z5, z6, z7, z8, z9, z10, z11, z12, z13, z14, z15, z16, z17, z18, z19, z20, z21, z22, z23, z24, z25, z26, z27, z28, z29, z30, rfl⟩ := Ym t hF.2.1
   obtain rfl : d = [] := hF.1
   obtain rfl : z0 = .slice A m c := Option.some.inj (hF.2.2 0 (by omega))
   obtain rfl : z2 = .string ⟨#[]⟩ := Option.some.inj (hF.2.2 2 (by omega))
   obtain rfl : z3 = .string M := Option.some.inj (hF.2.2 3 (by omega))
   obtain rfl : z4 = .int .i64 (u : Int) := Option.some.inj (hF.2.2 4 (by omega))
   obtain rfl : z5 = .pointer (some ⟨g, 0, none⟩) := Option.some.inj (hF.2.2 5 (by omega))
   clear hF
   have HTX := Lib.hid (fun w => Nd H2 w)
   go_upto_region 6 with fail
   refine wp_region_lit ?_
   refine cZ rfl rfl rfl (eR HJ3.out.1 HA8.out HS8.out) ?_
   refine jB (f := 153) (args := #[.agg (aM H2)]) rfl (by go_simp) ((HTX.out w3).mono ?_)
   rintro e4 w4 ⟨rfl, hb4⟩
   refine ⟨_, rfl, ?_⟩
   have HB4 := Lib.hid hb4
   clear hb4
   go_wp2_with fail
   go_ret
   exact ⟨by rw [HT.out]; rfl, HJ3.out.2.trans (HB4.out.mono HJ3.out.2.size)⟩
set_option maxRecDepth 100000
set_option maxHeartbeats 1000000
theorem tF {P : Program} {fn : Func} {R : Ending -> World -> Prop} {a : Act} {w : World} {q r : Tmp} {ty : TypeId} {ad : Addr} {v u : Value} (h : fn.results = #[.cell q ty, .tmp r]) (hp : a.tmps.getD q undef = .pointer (some ad))
  (hl : (loadVar ty ad).run P w = .ok v w) (hu : a.tmps.getD r undef = u) (hd : a.defers = []) (hR : R (.returned (.tuple #[v, u])) w) : bodyPost P fn R .ret a w := by
 refine bodyPost_ret (v := .tuple #[v, u]) ?_ hd hR
 simp only [results, h]
 have hp' : a.tmps[q]?.getD undef = .pointer (some ad) := by simpa using hp
 have hu' : a.tmps[r]?.getD undef = u := by simpa using hu
 simp [hp', hu', asAddr, hl]
def dE (kind : Int) (xs : List ByteArray) : ByteArray := if kind = 1 then ⟨(Cn (aW xs)).toArray⟩ else ⟨(zT (aW xs)).toArray⟩
def AD (kind : Int) (xs : List ByteArray) : Value := if iJ kind = 0 then .tuple #[.agg #[.int .i64 0, .string .empty], .int .i64 1] else .tuple #[.agg #[.int .i64 kind, .string (dE kind xs)], .int .i64 0]
theorem Vu (k : Int) (A : Option Addr) (m c : Nat) (xs : List ByteArray) (w : World) (hm : xs.length = m) (hx : dL w w.heap.size A xs) (hc : m <= c) (hl : m <= 1000) (hs : (aW xs).length <= 100000) :
  Calls Tryz.prog 59 #[.int .i64 k, .slice A m c] w fun e w' => e = .returned (AD k xs) /\ Below w.heap.size w w' := by
 by_cases h1 : k = 1
 ·subst h1
  have HS := Lib.hid (fun w1 h => Wg A m c xs w1 hm h (by omega) (by omega))
  obtain ⟨T, hT⟩ : ∃ T : ByteArray, T = ⟨(Cn (aW xs)).toArray⟩ := ⟨_, rfl⟩
  have E := Lib.hid (show AD 1 xs = .tuple #[.agg #[.int .i64 1, .string T], .int .i64 0] by rw [hT]; rfl)
  rw [<- hT] at HS
  have HX := Lib.hid hx
  clear hx hT
  go_enter Tryz.func59, Tryz.ntmps59
  go_wp2_with fail
  refine (HS.out _ ((HX.out.below ((Below.refl _ _).alloc (Nat.le_refl _) _)).more (by simp))).mono ?_
  rintro e w1 ⟨rfl, hb1⟩
  have b1 : aG w1 w.heap.size 36 #[.int .i64 0, .string ⟨#[]⟩] := (aG.new w _ _).below hb1 (by simp)
  have hb : Below w.heap.size w w1 := ((Below.refl _ _).alloc (Nat.le_refl _) _).trans (hb1.mono (by simp))
  have c0 := b1.cell 0
  have c1 := b1.cell 1
  have f0 := b1.frozen 0
  have f1 := b1.frozen 1
  simp at c0 c1
  clear hb1
  go_wp2_with fail
  have b2 := (b1.put 0 (.int .i64 1)).put 1 (.string T)
  have hl : (loadVar 36 ⟨w.heap.size, 0, none⟩).run Tryz.prog ((w1.setCell ⟨w.heap.size, 0, none⟩ (.int .i64 1)).setCell ⟨w.heap.size, 1, none⟩ (.string T)) = .ok (.agg #[.int .i64 1, .string T]) _ :=
   aT (off := 0) b2 (fun j v h => by rw [Nat.zero_add]; exact h) (fun w => by kernel_rfl) (fun w => by kernel_rfl)
  refine tF rfl rfl hl rfl rfl ?_
  exact ⟨by rw [E.out]; rfl, (hb.setCell (Nat.le_refl _) _).setCell (Nat.le_refl _) _⟩
 ·by_cases h2 : k = 2
  ·subst h2
   have HS := Lib.hid (fun w1 h => Wi A m c xs w1 hm h hc (by omega) (by omega))
   obtain ⟨T, hT⟩ : ∃ T : ByteArray, T = ⟨(zT (aW xs)).toArray⟩ := ⟨_, rfl⟩
   have E := Lib.hid (show AD 2 xs = .tuple #[.agg #[.int .i64 2, .string T], .int .i64 0] by rw [hT]; rfl)
   rw [<- hT] at HS
   have HX := Lib.hid hx
   clear hx hT
   go_enter Tryz.func59, Tryz.ntmps59
   go_wp2_with fail
   refine (HS.out _ ((HX.out.below ((Below.refl _ _).alloc (Nat.le_refl _) _)).more (by simp))).mono ?_
   rintro e w1 ⟨rfl, hb1⟩
   have b1 : aG w1 w.heap.size 36 #[.int .i64 0, .string ⟨#[]⟩] := (aG.new w _ _).below hb1 (by simp)
   have hb : Below w.heap.size w w1 := ((Below.refl _ _).alloc (Nat.le_refl _) _).trans (hb1.mono (by simp))
   have c0 := b1.cell 0
   have c1 := b1.cell 1
   have f0 := b1.frozen 0
   have f1 := b1.frozen 1
   simp at c0 c1
   clear hb1
   go_wp2_with fail
   have b2 := (b1.put 0 (.int .i64 2)).put 1 (.string T)
   have hl : (loadVar 36 ⟨w.heap.size, 0, none⟩).run Tryz.prog ((w1.setCell ⟨w.heap.size, 0, none⟩ (.int .i64 2)).setCell ⟨w.heap.size, 1, none⟩ (.string T)) = .ok (.agg #[.int .i64 2, .string T]) _ :=
    aT (off := 0) b2 (fun j v h => by rw [Nat.zero_add]; exact h) (fun w => by kernel_rfl) (fun w => by kernel_rfl)
   refine tF rfl rfl hl rfl rfl ?_
   exact ⟨by rw [E.out]; rfl, (hb.setCell (Nat.le_refl _) _).setCell (Nat.le_refl _) _⟩
  ·have E := Lib.hid (show AD k xs = .tuple #[.agg #[.int .i64 0, .string .empty], .int .i64 1] from if_pos (lJ h1 h2))
   have e1 : (k == 1) = false := beq_eq_false_iff_ne.2 h1
   have e2 : (k == 2) = false := beq_eq_false_iff_ne.2 h2
   clear h1 h2 hx
   go_enter Tryz.func59, Tryz.ntmps59
   go_wp2_with fail
   have b1 : aG (w.alloc (.cells #[.int .i64 0, .string ⟨#[]⟩] 36)) w.heap.size 36 #[.int .i64 0, .string ⟨#[]⟩] := aG.new w _ _
   have hl : (loadVar 36 ⟨w.heap.size, 0, none⟩).run Tryz.prog (w.alloc (.cells #[.int .i64 0, .string ⟨#[]⟩] 36)) = .ok (.agg #[.int .i64 0, .string ⟨#[]⟩]) _ :=
    aT (off := 0) b1 (fun j v h => by rw [Nat.zero_add]; exact h) (fun w => by kernel_rfl) (fun w => by kernel_rfl)
   refine tF rfl rfl hl rfl rfl ?_
   exact ⟨by rw [E.out]; rfl, (Below.refl _ _).alloc (Nat.le_refl _) _⟩
set_option maxHeartbeats 400000
def xO (w : World) (o : Nat) : Option Addr -> List (Nat × ByteArray) -> Prop
 | p, [] => p = none
 | p, (q, s) :: r => p = some ⟨q, 0, none⟩ /\ q ≠ o /\ 0 < s.size /\ ∃ p', aG w q 184 #[.pointer p', .string s] /\ xO w o p' r
def Qu : List (Nat × ByteArray) -> List UInt8
 | [] => []
 | (_, s) :: r => Qu r ++ s.data.toList
def bF (w : World) (o : Nat) (s : Wr) : Prop :=
 ∃ (p : Option Addr) (r : List (Nat × ByteArray)), aG w o 149 #[.pointer p, .int .i64 s.l.length, .int .i64 s.e] /\ xO w o p r /\ Qu r = s.l
theorem xO.grown {w w' : World} {o : Nat} (hg : w.grownBy w' (some o)) : ∀ {r : List (Nat × ByteArray)} {p : Option Addr}, xO w o p r -> xO w' o p r
 | [], _, h => h
 | (q, s) :: r, p, ⟨h1, h2, h3, p', h4, h5⟩ => ⟨h1, h2, h3, p', h4.grown hg (by simpa using h2), xO.grown hg h5⟩
theorem bF.below {w w' : World} {o : Nat} {s : Wr} (h : bF w o s) (hb : Below w.heap.size w w') : bF w' o s := by
 obtain ⟨p, r, h1, h2, h3⟩ := h
 exact ⟨p, r, h1.below hb h1.lt, h2.grown (cT hb (Nat.le_refl _)), h3⟩
theorem bF.new (w : World) : bF (w.alloc (.cells #[.pointer none, .int .i64 0, .int .i64 0] 149)) w.heap.size ⟨[], 0⟩ :=
 ⟨none, [], aG.new _ _ _, rfl, rfl⟩
theorem oK (o : Nat) (s : Wr) (c : Int) (w : World) (h : bF w o s) :
  Calls Tryz.prog 126 #[.pointer (some ⟨o, 0, none⟩), .int .i64 c] w fun e w' => e = .returned (.pointer (some ⟨o, 0, none⟩)) /\ bF w' o (s.fail c) /\ w.grownBy w' (some o) := by
 have H := Lib.hid h
 obtain ⟨p, r, h1, h2, h3⟩ := h
 have c0 := h1.cell 0
 have c1 := h1.cell 1
 have c2 := h1.cell 2
 have f0 := h1.frozen 0
 have f1 := h1.frozen 1
 have f2 := h1.frozen 2
 have hl := h1.lt
 simp at c0 c1 c2
 have H1 := Lib.hid h1
 clear h1 h2 h3
 by_cases he : s.e = 0
 ·have R : s.fail c = ⟨[], c⟩ := by unfold Wr.fail; rw [if_pos he]
  rw [R]
  clear R
  rw [he] at c2
  clear he
  go_enter Tryz.func126, Tryz.ntmps126
  go_wp2
  go_ret
  exact ⟨rfl, ⟨none, [], ((H1.out.put 0 _).put 1 _).put 2 _, rfl, rfl⟩, jK (jK (jK (aC _ _) _ _) _ _) _ _⟩
 ·have R : s.fail c = s := by unfold Wr.fail; rw [if_neg he]
  rw [R]
  clear R
  have hc : (s.e == 0) = false := beq_eq_false_iff_ne.2 he
  go_enter Tryz.func126, Tryz.ntmps126
  go_wp2
  go_ret
  exact ⟨rfl, H.out, aC _ _⟩
theorem wD (o : Nat) (s : Wr) (b : ByteArray) (w : World) (h : bF w o s) (hn : s.l.length + b.size <= 9223372036854775807) :
  Calls Tryz.prog 128 #[.pointer (some ⟨o, 0, none⟩), .string b] w fun e w' => e = .returned (.pointer (some ⟨o, 0, none⟩)) /\ bF w' o (s.lay b.data.toList) /\ w.grownBy w' (some o) := by
 have H := Lib.hid h
 obtain ⟨p, r, h1, h2, h3⟩ := h
 have c0 := h1.cell 0
 have c1 := h1.cell 1
 have c2 := h1.cell 2
 have f0 := h1.frozen 0
 have f1 := h1.frozen 1
 have f2 := h1.frozen 2
 have hl := h1.lt
 simp at c0 c1 c2
 have H1 := Lib.hid h1
 have H2 := Lib.hid h2
 have H3 := Lib.hid h3
 clear h1 h2 h3
 by_cases he : s.e = 0
 ·by_cases hb : b.size = 0
  ·have hbl : b = .empty := by
    apply ByteArray.ext
    exact Array.eq_empty_of_size_eq_zero hb
   subst hbl
   have R : s.lay ByteArray.empty.data.toList = s := by unfold Wr.lay; rw [if_pos he]; cases s; simp at he ⊢; exact he.symm
   rw [R]
   clear R
   go_enter Tryz.func128, Tryz.ntmps128
   go_wp2
   go_ret
   exact ⟨rfl, H.out, aC _ _⟩
  ·have R : s.lay b.data.toList = ⟨s.l ++ b.data.toList, 0⟩ := by unfold Wr.lay; rw [if_pos he]
   rw [R]
   clear R
   rw [he] at c2
   have HE := Lib.hid he
   clear he
   have hne : b.toList.isEmpty = false := by
    rw [Lib.toList_data]
    cases hl : b.data.toList with
    | nil => exact absurd (by rw [Lib.size_eq, hl]; rfl) hb
    | cons _ _ => rfl
   have hpos : 0 < b.size := by omega
   clear hb
   go_enter Tryz.func128, Tryz.ntmps128
   go_wp2
   go_ret
   have k1 := ((H1.out.put 0 (.pointer (some ⟨w.heap.size, 0, none⟩))).put 1 (.int .i64 (s.l.length + b.size))).alloc (.cells #[.pointer p, .string b] 184)
   have k2 := bH (jK (jK (aC w (some o)) 0 (.pointer (some ⟨w.heap.size, 0, none⟩))) 1 (.int .i64 (s.l.length + b.size))) (.cells #[.pointer p, .string b] 184)
   refine ⟨rfl, ⟨some ⟨w.heap.size, 0, none⟩, (w.heap.size, b) :: r, ?_, ⟨rfl, by omega, hpos, p, ?_, H2.out.grown k2⟩, by rw [Qu, H3.out]⟩, k2⟩
   ·have e : (((s.l ++ b.data.toList).length : Nat) : Int) = s.l.length + b.size := by rw [List.length_append, <- Lib.size_eq]; simp
    rw [show (Wr.mk (s.l ++ b.data.toList) 0).l = s.l ++ b.data.toList from rfl, e]
    rw [HE.out] at k1
    exact k1
   ·have := aG.new ((w.setCell ⟨o, 0, none⟩ (.pointer (some ⟨w.heap.size, 0, none⟩))).setCell ⟨o, 1, none⟩ (.int .i64 (s.l.length + b.size))) 184 #[.pointer p, .string b]
    simpa using this
 ·have R : s.lay b.data.toList = s := by unfold Wr.lay; rw [if_neg he]
  rw [R]
  clear R
  have hc : (s.e != 0) = true := by rw [bne_iff_ne]; exact he
  go_enter Tryz.func128, Tryz.ntmps128
  go_wp2
  go_ret
  exact ⟨rfl, H.out, aC _ _⟩
end Go.Proofs.YtingkbeifohihaaGreatDoor
