/-
  The law's own run: a row of acts on a Desk. No statement is proved here.
-/
import Derived.Test.YtolbnkpakjdnnaaGreatDoorDeskActs
namespace Go.Proofs.YtolbnkpakjdnnaaGreatDoor
open Go.RowKit

noncomputable def leastN (H : List Int) : Nat := by classical exact if h : ∃ k, Least H k then h.choose else 0
theorem leastN_spec {n : Nat} {H : List Int} (ho : HOk n H) : Least H (leastN H) := by
  have e := least_ex ho
  unfold leastN
  rw [dif_pos e]
  exact e.choose_spec
/-- New as a step: nothing where all are in use. -/
noncomputable def newS (N : Nat) (K : KD) (x : ByteArray) : KD := if leastN K.H < N - 111 then newK K (leastN K.H) x else K
noncomputable def stepK (N : Nat) (K : KD) (d : Op11) : KD :=
  if d.kind = 1 then setK K d.a (fillB d.s) else if d.kind = 2 then newS N K (fillB d.s) else if d.kind = 3 then dropK K d.l else if d.kind = 4 then stayK K d.l else K
noncomputable def runK (N : Nat) (K : KD) (ds : List Op11) : KD := ds.foldl (stepK N) K
theorem runK_snoc {N : Nat} {K : KD} {ds : List Op11} {j : Nat} {d : Op11} (h : ds[j]? = some d) : runK N K (ds.take (j + 1)) = stepK N (runK N K (ds.take j)) d := by
  unfold runK
  rw [List.take_add_one, h, List.foldl_append]
  rfl
section
variable {N : Nat} {K : KD} {h : List ByteArray} {c : Nat}
theorem Run11.newS (r : Run11 N K h c) {x : ByteArray} (hx : x.size = 256) : Run11 N (newS N K x) h c := by
  unfold Go.Proofs.YtolbnkpakjdnnaaGreatDoor.newS
  split
  · exact r.new (leastN_spec r.hok) (by assumption) hx
  · exact r
theorem Run11.step (r : Run11 N K h c) (d : Op11) (hx : (fillB d.s).size = 256) : Run11 N (stepK N K d) h c := by
  unfold stepK
  split
  · exact r.set _ _
  · split
    · exact r.newS hx
    · split
      · exact r.drop _
      · split
        · exact r.stay _
        · exact r
end
section
variable {w0 w w' : World} {g gd m N : Nat} {K : KD} {h : List ByteArray} {c : Nat} {Ms : List MK}
set_option maxRecDepth 100000 in
set_option maxHeartbeats 4000000 in
theorem krun_any (A : Option Addr) (n cA : Nat) (ds : List Op11) (s : DMk w0 w g gd m N K Ms) (r : Run11 N K h c) (hn : ds.length = n) (hx : Acts11 w0 w0.heap.size A ds) (hm : m + n < 1000000) (hf : ∀ d ∈ ds, d.s.size ≤ 100000 ∧ d.l.length ≤ 100000) :
    Calls Tryz.prog 53 #[.pointer (some ⟨g, 0, none⟩), .slice A n cA] w fun e w' => e = .returned (.tuple #[]) ∧ Run11 N (runK N K ds) h c ∧ ∃ m', m' ≤ m + n ∧ DMk w0 w' g gd m' N (runK N K ds) Ms := by
  have HS := Lib.hid s
  have HR := Lib.hid r
  have HN := Lib.hid hn
  have HX := Lib.hid hx
  have HM := Lib.hid hm
  have HF := Lib.hid hf
  have hnI : (n : Int) ≤ 1000000 := by omega
  clear s r hn hx hm hf
  go_enter Tryz.func53, Tryz.ntmps53
  go_wp2_with fail
  go_loopw [4] (fun i wr => ∃ (j m' : Nat), j ≤ n ∧ i = .int .i64 j ∧ m' ≤ m + j ∧ Run11 N (runK N K (ds.take j)) h c ∧ DMk w0 wr g gd m' N (runK N K (ds.take j)) Ms) (fun i _ => n - (intOf i).toNat)
  case atStart => exact ⟨0, m, Nat.zero_le _, rfl, Nat.le_refl _, HR.out, HS.out⟩
  case round =>
    obtain ⟨j, m', hj, rfl, hm', hr, hs⟩ := hrel
    by_cases hlt : j < n
    · have hjI : (j : Int) < (n : Int) := by omega
      have hjl : j < ds.length := by rw [HN.out]; exact hlt
      obtain ⟨d, hd⟩ : ∃ d, ds[j]? = some d := ⟨_, List.getElem?_eq_getElem hjl⟩
      have hst := runK_snoc (N := N) (K := K) hd
      obtain ⟨K1, hK1⟩ : ∃ K1, K1 = runK N K (ds.take j) := ⟨_, rfl⟩
      rw [← hK1] at hr hs hst
      have hb0 : Below w0.heap.size w0 wr := hs.st.at0
      obtain ⟨b, off, rfl, hbw, hbB, hcel⟩ := (HX.out.below hb0.size hb0) (by omega)
      obtain ⟨q0, q1, q2, q3, hin⟩ := hcel j d hd
      obtain ⟨hfs, hfl⟩ := HF.out d (List.mem_of_getElem? hd)
      have HST := Lib.hid hst
      have HR1 := Lib.hid hr
      have HS1 := Lib.hid hs
      have HIN := Lib.hid hin
      have HFS := Lib.hid hfs
      have HFL := Lib.hid hfl
      have HM1 := Lib.hid hm'
      have HLT := Lib.hid hlt
      have HBW := Lib.hid hbw
      have HBB := Lib.hid hbB
      have HB0 := Lib.hid hb0
      have HQ := Lib.hid (And.intro q0 (And.intro q1 q3))
      obtain ⟨kd, a, S, la, lc, l⟩ := d
      simp only at q0 q1 q2 q3
      clear hcel hd hjl hst hr hs hin hfs hfl hK1 hbw hbB hb0 q0 q1 q3 hm'
      have HFI : Hid (Calls Tryz.prog 34 #[.string S] wr fun e w' => e = .returned (.string (fillB S)) ∧ Below wr.heap.size wr w') := Lib.hid (fill_any S wr (by have := HFS.out; simp at this; omega))
      obtain ⟨X, hX⟩ : ∃ X, X = fillB S := ⟨_, rfl⟩
      have HXS : Hid (X.size = 256) := Lib.hid (by rw [hX]; exact fillB_size S)
      rw [← hX] at HFI
      have HXE := Lib.hid hX
      clear hX
      by_cases k1 : kd = 1
      · subst k1
        have HRN : Hid (Run11 N (runK N K (ds.take (j + 1))) h c) := Lib.hid (by rw [HST.out]; exact HR1.out.step _ (fillB_size S))
        have HE : Hid (runK N K (ds.take (j + 1)) = setK K1 a X) := Lib.hid (by rw [HST.out, HXE.out]; simp [stepK])
        go_wp2_with (go_at_call 34; refine HFI.out.mono ?_; rintro e w2 ⟨rfl, hb2⟩; have HB2 := Lib.hid hb2; clear hb2 HFI q2; have hq0 := (HB2.out.cell (p := ⟨b, off + j * 4, none⟩) HBW.out).trans HQ.out.1; have hq1 := (HB2.out.cell (p := ⟨b, off + j * 4 + 1, none⟩) HBW.out).trans HQ.out.2.1; have hq3 := (HB2.out.cell (p := ⟨b, off + j * 4 + 3, none⟩) HBW.out).trans HQ.out.2.2; simp only at hq0 hq1 hq3; have HS2 := Lib.hid (HS1.out.below HB2.out); clear HS1)
        refine (dmk_set HS2.out HR1.out (by have := HM1.out; have := HM.out; have := HLT.out; omega) a (by rw [HXS.out]; omega)).mono ?_
        rintro e w3 ⟨rfl, hs3⟩
        have HS3 := Lib.hid hs3
        clear hs3
        go_wp2_with fail
        refine ⟨⟨j + 1, (m' + 1), HLT.out, by go_num, by have := HM1.out; omega, HRN.out, by rw [HE.out]; exact HS3.out⟩, ?_⟩
        have := HLT.out
        simp [intOf]
        omega
      by_cases k2 : kd = 2
      · subst k2
        clear k1
        have HRN : Hid (Run11 N (runK N K (ds.take (j + 1))) h c) := Lib.hid (by rw [HST.out]; exact HR1.out.step _ (fillB_size S))
        have HE : Hid (runK N K (ds.take (j + 1)) = newS N K1 X) := Lib.hid (by rw [HST.out, HXE.out]; simp [stepK])
        go_wp2_with (go_at_call 34; refine HFI.out.mono ?_; rintro e w2 ⟨rfl, hb2⟩; have HB2 := Lib.hid hb2; clear hb2 HFI q2; have hq0 := (HB2.out.cell (p := ⟨b, off + j * 4, none⟩) HBW.out).trans HQ.out.1; have hq1 := (HB2.out.cell (p := ⟨b, off + j * 4 + 1, none⟩) HBW.out).trans HQ.out.2.1; have hq3 := (HB2.out.cell (p := ⟨b, off + j * 4 + 3, none⟩) HBW.out).trans HQ.out.2.2; simp only at hq0 hq1 hq3; have HS2 := Lib.hid (HS1.out.below HB2.out); clear HS1)
        refine (dmk_new HS2.out HR1.out (by have := HM1.out; have := HM.out; have := HLT.out; omega) (leastN_spec HR1.out.hok) HXS.out).mono ?_
        rintro e w3 (⟨hk, rfl, hs3⟩ | ⟨hk, rfl, hs3⟩)
        · have HS3 : Hid (DMk w0 w3 g gd (m' + 1) N (newS N K1 X) Ms) := Lib.hid (by unfold newS; rw [if_neg (by omega)]; exact hs3)
          clear hs3 hk
          go_wp2_with fail
          refine ⟨⟨j + 1, (m' + 1), HLT.out, by go_num, by have := HM1.out; omega, HRN.out, by rw [HE.out]; exact HS3.out⟩, ?_⟩
          have := HLT.out
          simp [intOf]
          omega
        · have HS3 : Hid (DMk w0 w3 g gd (m' + 1) N (newS N K1 X) Ms) := Lib.hid (by unfold newS; rw [if_pos hk]; exact hs3)
          clear hs3 hk
          go_wp2_with fail
          refine ⟨⟨j + 1, (m' + 1), HLT.out, by go_num, by have := HM1.out; omega, HRN.out, by rw [HE.out]; exact HS3.out⟩, ?_⟩
          have := HLT.out
          simp [intOf]
          omega
      by_cases k3 : kd = 3
      · subst k3
        clear k1 k2
        have HRN : Hid (Run11 N (runK N K (ds.take (j + 1))) h c) := Lib.hid (by rw [HST.out]; exact HR1.out.step _ (fillB_size S))
        have HE : Hid (runK N K (ds.take (j + 1)) = dropK K1 l) := Lib.hid (by rw [HST.out]; simp [stepK])
        go_wp2_with (go_at_call 34; refine HFI.out.mono ?_; rintro e w2 ⟨rfl, hb2⟩; have HB2 := Lib.hid hb2; clear hb2 HFI q2; have hq0 := (HB2.out.cell (p := ⟨b, off + j * 4, none⟩) HBW.out).trans HQ.out.1; have hq1 := (HB2.out.cell (p := ⟨b, off + j * 4 + 1, none⟩) HBW.out).trans HQ.out.2.1; have hq3 := (HB2.out.cell (p := ⟨b, off + j * 4 + 3, none⟩) HBW.out).trans HQ.out.2.2; simp only at hq0 hq1 hq3; have HS2 := Lib.hid (HS1.out.below HB2.out); clear HS1)
        refine (dmk_drop HS2.out HR1.out la l.length lc l rfl (((HIN.out.ls.below (HB2.out.mono HB0.out.size)).more (Nat.le_trans HB0.out.size HB2.out.size))) HFL.out).mono ?_
        rintro e w3 ⟨rfl, hs3⟩
        have HS3 := Lib.hid hs3
        clear hs3
        go_wp2_with fail
        refine ⟨⟨j + 1, m', HLT.out, by go_num, by have := HM1.out; omega, HRN.out, by rw [HE.out]; exact HS3.out⟩, ?_⟩
        have := HLT.out
        simp [intOf]
        omega
      by_cases k4 : kd = 4
      · subst k4
        clear k1 k2 k3
        have HRN : Hid (Run11 N (runK N K (ds.take (j + 1))) h c) := Lib.hid (by rw [HST.out]; exact HR1.out.step _ (fillB_size S))
        have HE : Hid (runK N K (ds.take (j + 1)) = stayK K1 l) := Lib.hid (by rw [HST.out]; simp [stepK])
        go_wp2_with (go_at_call 34; refine HFI.out.mono ?_; rintro e w2 ⟨rfl, hb2⟩; have HB2 := Lib.hid hb2; clear hb2 HFI q2; have hq0 := (HB2.out.cell (p := ⟨b, off + j * 4, none⟩) HBW.out).trans HQ.out.1; have hq1 := (HB2.out.cell (p := ⟨b, off + j * 4 + 1, none⟩) HBW.out).trans HQ.out.2.1; have hq3 := (HB2.out.cell (p := ⟨b, off + j * 4 + 3, none⟩) HBW.out).trans HQ.out.2.2; simp only at hq0 hq1 hq3; have HS2 := Lib.hid (HS1.out.below HB2.out); clear HS1)
        refine (dmk_keep HS2.out HR1.out la l.length lc l rfl (((HIN.out.ls.below (HB2.out.mono HB0.out.size)).more (Nat.le_trans HB0.out.size HB2.out.size))) HFL.out (fun e => (HIN.out.ln e).2)).mono ?_
        rintro e w3 ⟨rfl, hs3⟩
        have HS3 := Lib.hid hs3
        clear hs3
        go_wp2_with fail
        refine ⟨⟨j + 1, m', HLT.out, by go_num, by have := HM1.out; omega, HRN.out, by rw [HE.out]; exact HS3.out⟩, ?_⟩
        have := HLT.out
        simp [intOf]
        omega
      have z1 : (kd == 1) = false := by simpa using k1
      have z2 : (kd == 2) = false := by simpa using k2
      have z3 : (kd == 3) = false := by simpa using k3
      have z4 : (kd == 4) = false := by simpa using k4
      have HE : Hid (runK N K (ds.take (j + 1)) = K1) := Lib.hid (by rw [HST.out]; simp [stepK, k1, k2, k3, k4])
      have HRN : Hid (Run11 N (runK N K (ds.take (j + 1))) h c) := Lib.hid (by rw [HST.out]; exact HR1.out.step _ (fillB_size S))
      clear k1 k2 k3 k4
      go_wp2_with (go_at_call 34; refine HFI.out.mono ?_; rintro e w2 ⟨rfl, hb2⟩; have HB2 := Lib.hid hb2; clear hb2 HFI q2; have hq0 := (HB2.out.cell (p := ⟨b, off + j * 4, none⟩) HBW.out).trans HQ.out.1; have hq1 := (HB2.out.cell (p := ⟨b, off + j * 4 + 1, none⟩) HBW.out).trans HQ.out.2.1; have hq3 := (HB2.out.cell (p := ⟨b, off + j * 4 + 3, none⟩) HBW.out).trans HQ.out.2.2; simp only at hq0 hq1 hq3; have HS2 := Lib.hid (HS1.out.below HB2.out); clear HS1)
      have HS3 := HS2
      refine ⟨⟨j + 1, m', HLT.out, by go_num, by have := HM1.out; omega, HRN.out, by rw [HE.out]; exact HS3.out⟩, ?_⟩
      have := HLT.out
      simp [intOf]
      omega
    · obtain rfl : j = n := by omega
      have ht : ds.take j = ds := List.take_of_length_le (by rw [HN.out]; exact Nat.le_refl _)
      rw [ht] at hr hs
      have HRR := Lib.hid hr
      have HSS := Lib.hid hs
      clear ht hr hs
      go_wp2_with fail
      go_end0
      exact ⟨rfl, HRR.out, m', hm', HSS.out⟩
end
end Go.Proofs.YtolbnkpakjdnnaaGreatDoor
