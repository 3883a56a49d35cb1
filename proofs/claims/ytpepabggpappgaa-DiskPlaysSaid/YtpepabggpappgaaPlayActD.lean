/-
  An act on a disk, and on the document's: Write. No statement is proved here.
-/
import Derived.Test.YtpepabggpappgaaPlayPure
namespace Go.Proofs.Ytpepabggpappgaa
open Go.RowKit

theorem row_putN {w : World} {base : Nat} {e : TypeId} {size n g cap : Nat} {xs : List Value} (h : w.ownsRow base e size (.slice (some ⟨g, 0, none⟩) n cap) n xs) {i : Nat} (u : Value) : (w.setCell ⟨g, i, none⟩ u).ownsRow base e size (.slice (some ⟨g, 0, none⟩) n cap) n (xs.set i u) := by
  refine ⟨by rw [List.length_set]; exact h.1, ?_⟩
  rcases h.2 with ⟨h, _⟩ | ⟨g', cap', cur, h, hb, hg, h1, h2, h3, h4⟩
  · cases h
  · injection h with e1 _ e3
    injection e1 with e1
    injection e1 with e1 _ _
    subst e1 e3
    refine .inr ⟨g, cap, cur.setIfInBounds i u, rfl, hb, Blk.put (show Blk w g e cur from hg) i u, h1, h2, by rw [Array.size_setIfInBounds]; exact h3, ?_⟩
    rw [Array.toList_setIfInBounds, ← h4, List.take_set]
theorem row_writes {w : World} {base : Nat} {e : TypeId} {n c : Nat} {p : Option Addr} {l : List (Int × ByteArray)} (h : w.ownsRow base e 2 (.slice p n c) n (flatI l)) :
    0 < n → ∃ g, p = some ⟨g, 0, none⟩ ∧ base ≤ g ∧ g < w.heap.size ∧ ∀ (j : Nat) (x : Int × ByteArray), l[j]? = some x → w.cell? ⟨g, j * 2, none⟩ = some (.int .i64 x.1) ∧ w.cell? ⟨g, j * 2 + 1, none⟩ = some (.string x.2) := by
  intro hn
  obtain ⟨g, cap, e1, hb, hlt⟩ := h.form hn
  injection e1 with e1 _ e3
  subst e1 e3
  refine ⟨g, rfl, hb, hlt, fun j x hx => ?_⟩
  obtain ⟨q1, q2⟩ := flatI_get hx
  rw [Nat.mul_comm j 2]
  exact ⟨row_cell h q1, row_cell h q2⟩

/-- Filled up to j. -/
def fillW (l : List (Int × ByteArray)) (j : Nat) : List (Int × ByteArray) := (l.take j).map (fun x => (x.1, fillB x.2)) ++ l.drop j
theorem fillW_zero (l : List (Int × ByteArray)) : fillW l 0 = l := by simp [fillW]
theorem fillW_all (l : List (Int × ByteArray)) : fillW l l.length = l.map (fun x => (x.1, fillB x.2)) := by simp [fillW]
theorem fillW_len (l : List (Int × ByteArray)) (j : Nat) : (fillW l j).length = l.length := by
  unfold fillW
  rw [List.length_append, List.length_map, List.length_take, List.length_drop]
  omega
theorem fillW_get {l : List (Int × ByteArray)} {j : Nat} {x : Int × ByteArray} (h : l[j]? = some x) : (fillW l j)[j]? = some x := by
  have hj : j < l.length := by
    rcases Nat.lt_or_ge j l.length with h' | h'
    · exact h'
    · rw [List.getElem?_eq_none h'] at h; cases h
  unfold fillW
  rw [List.getElem?_append_right (by simp; omega), List.length_map, List.length_take, Nat.min_eq_left (by omega), Nat.sub_self, List.getElem?_drop, Nat.add_zero]
  exact h
theorem flatI_append (a b : List (Int × ByteArray)) : flatI (a ++ b) = flatI a ++ flatI b := by simp [flatI]
theorem fillW_next {l : List (Int × ByteArray)} {j : Nat} {x : Int × ByteArray} (h : l[j]? = some x) : flatI (fillW l (j + 1)) = (flatI (fillW l j)).set (2 * j + 1) (.string (fillB x.2)) := by
  have hj : j < l.length := by
    rcases Nat.lt_or_ge j l.length with h' | h'
    · exact h'
    · rw [List.getElem?_eq_none h'] at h; cases h
  have hx : l[j] = x := by rw [List.getElem?_eq_getElem hj] at h; exact Option.some.inj h
  have h1 : l.drop j = x :: l.drop (j + 1) := by rw [List.drop_eq_getElem_cons hj, hx]
  have h2 : l.take (j + 1) = l.take j ++ [x] := by rw [List.take_succ_eq_append_getElem hj, hx]
  unfold fillW
  rw [h1, h2, List.map_append, flatI_append, flatI_append, flatI_append, List.set_append_right _ _ (by rw [flatI_len]; simp; omega), flatI_len, List.length_map, List.length_take, Nat.min_eq_left (by omega)]
  rw [show 2 * j + 1 - j * 2 = 1 by omega, List.append_assoc]
  rfl

set_option maxRecDepth 100000 in
set_option maxHeartbeats 8000000 in
theorem act1_any {w : World} {B : Nat} {O P : List Nat} {g p k : Nat} {S : DS} (d : OpD) (hk : d.kind = 1) (h : Two w B O P g p S S) (hf : S.Fit k) (hk1 : k ≤ 1000) (hd : d.In w B) (hl : d.light) :
    Calls Try.prog 10 #[.pointer (some ⟨g, 0, none⟩), .pointer (some ⟨p, 0, none⟩), .agg d.cells] w fun e w' => e = .returned (.bool true) ∧ PairTurns B (O ++ P) g p (S.write d.done) w w' := by
  obtain ⟨xs, hxs⟩ : ∃ xs, xs = d.done := ⟨_, rfl⟩
  have hxl : xs.length = d.w.length := by rw [hxs, OpD.done_len]
  have hdone : d.done = if d.own then fillW d.w d.w.length else fillW d.w 0 := by
    unfold OpD.done
    rw [fillW_all, fillW_zero]
  rw [← hxs] at hdone ⊢
  obtain ⟨kind, a, wa, wc, ws, own, la, lc, ls⟩ := d
  simp only at hk hxl hdone
  subst hk
  obtain ⟨hws, hwn, -, -⟩ := hd
  obtain ⟨hl1, -, hl3⟩ := hl
  simp only at hws hwn hl1 hl3
  unfold OpD.cells
  simp only
  obtain ⟨n, hn⟩ : ∃ n, n = ws.length := ⟨_, rfl⟩
  have HA : Hid (∀ o : Obj, Two (w.alloc o) B O P g p S S ∧ Below w.heap.size w (w.alloc o)) := Lib.hid (fun o => ⟨h.below ((Below.refl _ _).alloc (Nat.le_refl _) _), (Below.refl _ _).alloc (Nat.le_refl _) _⟩)
  have HM : Hid (∀ b ∈ O ++ P, B ≤ b ∧ b < w.heap.size) := Lib.hid (fun b hb => h.mem hb)
  have HWS := Lib.hid hws
  have HWN := Lib.hid hwn
  have HN := Lib.hid hn
  have HL1 := Lib.hid hl1
  have HL3 := Lib.hid hl3
  have HF := Lib.hid hf
  have HXL : Hid (xs.length = n) := Lib.hid (by rw [hxl, hn])
  have HDONE := Lib.hid hdone
  rw [← hn]
  have hn6 : n ≤ 6000 := by omega
  have hnI : (n : Int) ≤ 6000 := by omega
  clear h hf hws hwn hn hl1 hl3 hxl hdone hxs
  go_enter Try.func10, Try.ntmps10
  go_upto_region 3 with fail
  obtain ⟨W0, hW0⟩ : ∃ W0, W0 = w.alloc (.cells #[.int .i64 1, .int .i64 a, .slice wa n wc, .bool own, .slice la ls.length lc] 34) := ⟨_, rfl⟩
  rw [← hW0]
  have HB0 : Hid (Below w.heap.size w W0) := Lib.hid (by rw [hW0]; exact (HA.out _).2)
  have HT0 : Hid (Two W0 B O P g p S S) := Lib.hid (by rw [hW0]; exact (HA.out _).1)
  have HSZ : Hid (W0.heap.size = w.heap.size + 1) := Lib.hid (by rw [hW0]; simp)
  have HBX : Hid (Blk W0 w.heap.size 34 #[.int .i64 1, .int .i64 a, .slice wa n wc, .bool own, .slice la ls.length lc]) := Lib.hid (by rw [hW0]; exact Blk.new w _ _)
  have HWS0 : Hid (WIn W0 wa ws) := Lib.hid ((HWS.out.keep (O := []) (Keep.of_below HB0.out) (by simp)).win)
  have x2 := HBX.out.cell 2
  simp at x2
  obtain ⟨i0, hi, hz0, hz1, hz2⟩ := info_parts clwrites_info
  clear hW0
  have HAPP : Hid (∃ v W1, (Builtin.append_ #[31, 31] 31 #[.slice none 0 0, .slice wa n wc]).run Try.prog W0 = .ok v W1 ∧ W1.ownsRow W0.heap.size 42 2 v n (flatI ws) ∧ Below W0.heap.size W0 W1) := Lib.hid (by
    have hnn := HN.out
    rcases wa with _ | ad
    · have hc := HWN.out rfl
      subst hc
      have hn0 : n = 0 := by
        rcases Nat.eq_zero_or_pos n with h | h
        · exact h
        · obtain ⟨b, off, e, _⟩ := HWS0.out (by omega)
          cases e
      subst hn0
      have hx : ws = [] := List.eq_nil_of_length_eq_zero hnn.symm
      subst hx
      exact ⟨_, W0, run_append_owned_none (P := Try.prog) (w := W0) W0.heap.size 31 31 42 i0 2 Try.underlying31 hi (.slice none 0 0) 0 [] (World.ownsRow_nil _ _ _ _), World.ownsRow_nil _ _ _ _, Below.refl _ _⟩
    · have hnews : ∀ (j : Nat) (u : Value), (flatI ws)[j]? = some u → W0.cell? (ad.add j) = some u := by
        intro j u hu
        have hj : 0 < ws.length := by
          cases ws with
          | nil => cases hu
          | cons _ _ => simp
        obtain ⟨b, off, e, hB, hc⟩ := HWS0.out hj
        injection e with e
        subst e
        rw [Go.WideShapes.add_plain]
        exact flatI_cells (f := fun j => W0.cell? ⟨b, off + j, none⟩) (fun j x hx => hc j x hx) j u hu
      obtain ⟨v', w', hr, h2, h3, _, _⟩ := run_append_own_at (P := Try.prog) W0 W0.heap.size 31 31 42 i0 (.agg #[.int .i64 0, .string .empty]) 2 24 Try.underlying31 hi hz0 hz1 hz2 rfl (by omega) (.slice none 0 0) 0 [] (World.ownsRow_nil _ _ _ _) ad n wc (flatI ws) (by rw [flatI_len, hnn]) hnews flatI_one (by unfold maxLen; omega) (by omega) (Nat.le_refl _)
      exact ⟨v', w', hr, by simpa using h2, (Below.refl _ _).grown h3 (Nat.le_refl _) (by simp [Value.ownBlock])⟩)
  obtain ⟨v, W1, hrun, hown, hb1⟩ := HAPP.out
  obtain ⟨pv, cv, rfl, -⟩ := row_slice hown
  have HRUN := Lib.hid hrun
  have HOWN := Lib.hid hown
  have HB1 := Lib.hid hb1
  clear hrun hown hb1 HAPP
  go_wp2_with (at_builtin; refine wpList_value rfl (exec_append rfl rfl rfl HRUN.out) ?_)
  have hbx1 : Blk W1 w.heap.size 34 _ := HBX.out.below HB1.out (by have := HSZ.out; omega)
  have HBX1 := Lib.hid hbx1
  have HVB : Hid (∀ b ∈ (Value.slice pv n cv).ownBlock.toList, W0.heap.size ≤ b) := Lib.hid (fun b hb => (HOWN.out.lt b (by simpa using hb)).1)
  have HR1 : Hid (Below w.heap.size w W1) := Lib.hid (HB0.out.trans (HB1.out.mono (by have := HSZ.out; omega)))
  clear hbx1 x2
  go_loopw [8] (fun i wr => ∃ j : Nat, j ≤ n ∧ i = .int .i64 j ∧ (own = false → j = 0) ∧ Keep (Value.slice pv n cv).ownBlock.toList W1 wr ∧ wr.ownsRow W0.heap.size 42 2 (.slice pv n cv) n (flatI (fillW ws j))) (fun i _ => n - (intOf i).toNat)
  case atStart => exact ⟨0, Nat.zero_le _, rfl, fun _ => rfl, Keep.refl _ _, by rw [fillW_zero]; exact HOWN.out⟩
  case round =>
    obtain ⟨j, hj, rfl, hj0, hk, hrow⟩ := hrel
    have HK := Lib.hid hk
    have HR := Lib.hid hrow
    have HBR : Hid (Blk wr w.heap.size 34 #[.int .i64 1, .int .i64 a, .slice wa n wc, .bool own, .slice la ls.length lc]) := Lib.hid ((hk.block _ HBX1.out.lt (fun hm => by have := HVB.out _ hm; have := HSZ.out; omega)).trans HBX1.out)
    have x3 := HBR.out.cell 3
    simp at x3
    clear hk hrow
    by_cases hgo : j < n ∧ own = true
    · obtain ⟨hlt, hown⟩ := hgo
      subst hown
      have hjl : j < ws.length := by rw [← HN.out]; exact hlt
      obtain ⟨x, hx⟩ : ∃ x, x = ws[j] := ⟨_, rfl⟩
      have hxj : ws[j]? = some x := by rw [hx]; exact List.getElem?_eq_getElem hjl
      obtain ⟨gv, rfl, hgv0, hgv1, hgc⟩ := row_writes HR.out (by omega)
      obtain ⟨d0, d1⟩ := hgc j x (fillW_get hxj)
      have HNX := Lib.hid (fillW_next hxj)
      have HXS : Hid (x.2.size ≤ 140737488351232) := Lib.hid (by have := HL3.out x (by rw [hx]; exact List.getElem_mem hjl); omega)
      have HGV := Lib.hid (And.intro hgv0 hgv1)
      have hltI : (j : Int) < (n : Int) := by omega
      obtain ⟨xa, xb⟩ := x
      simp only at d0 d1
      clear hx hxj hgc hj0 hgv0 hgv1
      go_wp2_with fail
      refine (fill_any xb _ HXS.out).mono ?_
      rintro e w2 ⟨rfl, hb2⟩
      have HB2 := Lib.hid hb2
      have HR2 : Hid (w2.ownsRow W0.heap.size 42 2 (.slice (some ⟨gv, 0, none⟩) n cv) n (flatI (fillW ws j))) := Lib.hid (row_below HR.out hb2)
      have e1 : w2.cell? ⟨gv, j * 2 + 1, none⟩ = some (.string xb) := (hb2.cell (p := ⟨gv, j * 2 + 1, none⟩) HGV.out.2).trans d1
      have q1 := row_frozen HR2.out (j * 2 + 1)
      clear d0 d1 hb2 x3
      go_wp2_with fail
      go_roundw
      case rel =>
        refine ⟨j + 1, by omega, by go_num, (fun h => by cases h), ?_, ?_⟩
        · exact (HK.out.below_in HB2.out).put (.inl (by simp [Value.ownBlock])) _ _
        · rw [HNX.out, show 2 * j + 1 = j * 2 + 1 by omega]
          exact row_putN HR2.out _
      case measure => simp [intOf]; omega
    · have HE : Hid (fillW ws j = xs) := Lib.hid (by
        rw [HDONE.out]
        cases own with
        | false => rw [hj0 rfl]; rfl
        | true =>
          have e : j = n := by
            rcases Nat.lt_or_ge j n with h | h
            · exact absurd ⟨h, rfl⟩ hgo
            · omega
          rw [e, HN.out]; rfl)
      rw [HE.out] at HR
      have HWIN : Hid (0 < n → ∃ gv, pv = some ⟨gv, 0, none⟩ ∧ W0.heap.size ≤ gv ∧ gv < wr.heap.size ∧ ∀ (j : Nat) (x : Int × ByteArray), xs[j]? = some x → wr.cell? ⟨gv, j * 2, none⟩ = some (.int .i64 x.1) ∧ wr.cell? ⟨gv, j * 2 + 1, none⟩ = some (.string x.2)) := Lib.hid (row_writes HR.out)
      have HWI : Hid (WIn wr pv xs) := Lib.hid (fun hp => by
        obtain ⟨gv, e, _, h2, h3⟩ := HWIN.out (by rw [← HXL.out]; exact hp)
        exact ⟨gv, 0, e, h2, fun j x hx => by rw [Nat.zero_add]; exact h3 j x hx⟩)
      have HPN : Hid (pv = none → cv = 0) := Lib.hid (by
        intro e
        subst e
        rcases HOWN.out.2 with ⟨h, _⟩ | ⟨_, _, _, h, _⟩
        · injection h
        · cases h)
      have HLENT := Lib.hid (wlent_any pv n cv xs wr HXL.out HWI.out (by omega) HPN.out)
      have HBW : Hid (Below w.heap.size w wr) := Lib.hid (HR1.out.trans (HK.out.below (B := w.heap.size) (fun b hb => by have := HVB.out b hb; have := HSZ.out; omega) (by have := HR1.out.size; omega)))
      have hex : (j : Int) < (n : Int) ∧ own = false ∨ (n : Int) ≤ (j : Int) := by
        rcases Nat.lt_or_ge j n with h | h
        · left
          refine ⟨by omega, ?_⟩
          cases own with
          | false => rfl
          | true => exact absurd ⟨h, rfl⟩ hgo
        · right; omega
      clear hgo hj0
      rcases hex with ⟨hx1, rfl⟩ | hx1
      · go_wp2_with fail
        refine HLENT.out.mono ?_
        rintro e w2 ⟨gm, cap, rfl, hlent, hb2⟩
        have HLT := Lib.hid hlent
        have HB2 := Lib.hid hb2
        have HBF : Hid (Below w.heap.size w w2) := Lib.hid (HBW.out.trans (hb2.mono HBW.out.size))
        have HTF : Hid (∃ O1 P1, O ++ P = O1 ++ P1 ∧ O1 = O ∧ P1 = P ∧ Two w2 B O1 P1 g p S S) := Lib.hid ⟨O, P, rfl, rfl, rfl, (HT0.out.below HB1.out).far (HK.out.below_in hb2) (fun b hb hm => by have := HVB.out b hm; have := (HM.out b hb).2; have := HSZ.out; omega) (fun b hb => by have := HVB.out b hb; have := HT0.out.base; omega)⟩
        clear hlent hb2 x3
        by_cases hn0 : n = 0
        · have hx0 : xs = [] := List.eq_nil_of_length_eq_zero (by rw [HXL.out, hn0])
          have HZ : Hid (S.write xs = S) := Lib.hid (by rw [hx0, DS.write_nil])
          have hnI : (n : Int) = 0 := by omega
          clear hx0
          go_wp2_with fail
          go_ret
          rw [HZ.out]
          obtain ⟨O1, P1, _, rfl, rfl, ht⟩ := HTF.out
          exact ⟨rfl, PairTurns.after HBF.out (PairTurns.refl ht.pair)⟩
        · obtain ⟨O1, P1, _, rfl, rfl, ht⟩ := HTF.out
          have HT := Lib.hid ht
          have hnp : 0 < n := by omega
          have hnI1 : (0 : Int) < (n : Int) := by omega
          have hnI2 : ¬ (n : Int) = 0 := by omega
          have hnI3 : ((n : Int) == 0) = false := beq_eq_false_iff_ne.2 hnI2
          obtain ⟨gv, rfl, hv0, hv1, hv2⟩ := HWIN.out hnp
          have HGV : Hid (w.heap.size < gv ∧ gv < wr.heap.size) := Lib.hid ⟨by have := HSZ.out; omega, hv1⟩
          have HGM : Hid (wr.heap.size ≤ gm ∧ gm < w2.heap.size) := Lib.hid ⟨HLT.out.1, HLT.out.2.1⟩
          have HWS2 : Hid (WIn w2 (some ⟨gv, 0, none⟩) xs) := Lib.hid (HWI.out.below HB2.out)
          have hfw := HF.out.writes
          have hfd := HF.out.dirty
          have HD := Lib.hid (dwrite_any (some ⟨gm, 0, none⟩) n cap xs HT.out.d HF.out.ok HXL.out (fun hp => by
            obtain ⟨b, off, e, h1, h2⟩ := HLT.out.wrts hp
            refine ⟨b, off, e, h1, fun hm => ?_, h2⟩
            have hb : b = gm := by injection e with e; injection e with e1 _; exact e1.symm
            have := (HM.out gm (by simp [← hb, hm])).2
            have := HGM.out.1
            have := HGV.out
            omega) HF.out.left (by omega) (by omega))
          have HP : Hid (∀ w', Keep O1 w2 w' → PlainAt w' B P1 p S → Calls Try.prog 27 #[.pointer (some ⟨p, 0, none⟩), .slice (some ⟨gv, 0, none⟩) n cv] w' fun e w'' => e = .returned (.int .i64 (S.errW xs)) ∧ TurnsP B P1 p (S.write xs) w' w'') := Lib.hid (fun w' hk hp => by
            refine pwrite_any (some ⟨gv, 0, none⟩) n cv xs hp HF.out.ok HXL.out (fun hpp => ?_) HF.out.left (by omega) (by omega) ⟨HF.out.len.1, by have := HF.out.len.2; omega⟩
            obtain ⟨b, off, e, h1, h2⟩ := HWS2.out hpp
            have hb : b = gv ∧ off = 0 := by injection e with e; injection e with e1 e2; exact ⟨e1.symm, e2.symm⟩
            obtain ⟨rfl, rfl⟩ := hb
            have hnO : b ∉ O1 ++ P1 := fun hm => by have := (HM.out b hm).2; have := HGV.out.1; omega
            have hbb := hk.block b h1 (fun hm => hnO (by simp [hm]))
            exact ⟨b, 0, rfl, Nat.lt_of_lt_of_le h1 hk.size, fun hm => hnO (by simp [hm]), fun j x hx => ⟨(World.cell?_of_block (a := ⟨b, 0 + j * 2, none⟩) hbb).trans (h2 j x hx).1, (World.cell?_of_block (a := ⟨b, 0 + j * 2 + 1, none⟩) hbb).trans (h2 j x hx).2⟩⟩)
          obtain ⟨ee, hee⟩ : ∃ ee, ee = S.errW xs := ⟨_, rfl⟩
          rw [← hee] at HD HP
          clear ht hv0 hv1 hv2 hfw hfd hee
          go_wp2_with fail
          refine HD.out.mono ?_
          rintro e w3 ⟨rfl, hT⟩
          obtain ⟨O', t1, t2, t3⟩ := HT.out.first hT
          have HTT := Lib.hid hT
          have HPC := Lib.hid (HP.out w3 t3 t1.p)
          have HK3 := Lib.hid t3
          have HP3 := Lib.hid t1.p
          clear hT t1 t2 t3
          go_wp2_with fail
          refine HPC.out.mono ?_
          rintro e w4 ⟨rfl, hTP⟩
          have HK4 : Hid (Keep (O1 ++ P1) w2 w4) := Lib.hid ((HK3.out.mono (by intro b hb; exact .inl (by simp [hb]))).trans (hTP.choose_spec.2.2.mono (O' := O1 ++ P1) (by intro b hb; exact .inl (by simp [hb]))) (fun _ hb => .inl hb))
          have HPT : Hid (PairTurns B (O1 ++ P1) g p (S.write xs) w w4) := Lib.hid (PairTurns.after HBF.out (HT.out.both HTT.out (fun _ => hTP)))
          have HST := Lib.hid (wstays_any gm cap (some ⟨gv, 0, none⟩) n cv xs _ w4 HXL.out (HLT.out.keep HK4.out (fun hm => by have := (HM.out gm hm).2; have := HGM.out.1; have := HGV.out; omega)) (fun hp => by
            obtain ⟨b, off, e, h1, h2⟩ := HWS2.out hp
            have hb : b = gv ∧ off = 0 := by injection e with e; injection e with e1 e2; exact ⟨e1.symm, e2.symm⟩
            obtain ⟨rfl, rfl⟩ := hb
            have hbb := HK4.out.block b h1 (fun hm => by have := (HM.out b hm).2; have := HGV.out.1; omega)
            exact ⟨b, 0, rfl, Nat.lt_of_lt_of_le h1 HK4.out.size, fun j x hx => ⟨(World.cell?_of_block (a := ⟨b, 0 + j * 2, none⟩) hbb).trans (h2 j x hx).1, (World.cell?_of_block (a := ⟨b, 0 + j * 2 + 1, none⟩) hbb).trans (h2 j x hx).2⟩⟩) (by omega))
          clear hTP
          go_wp2_with fail
          refine HST.out.mono ?_
          rintro e w5 ⟨rfl, q, rfl⟩
          go_wp2_with fail
          go_ret
          exact ⟨rfl, HPT.out.below_in ⟨rfl, rfl, rfl, Nat.le_refl _, fun _ _ => rfl⟩⟩
      · go_wp2_with fail
        refine HLENT.out.mono ?_
        rintro e w2 ⟨gm, cap, rfl, hlent, hb2⟩
        have HLT := Lib.hid hlent
        have HB2 := Lib.hid hb2
        have HBF : Hid (Below w.heap.size w w2) := Lib.hid (HBW.out.trans (hb2.mono HBW.out.size))
        have HTF : Hid (∃ O1 P1, O ++ P = O1 ++ P1 ∧ O1 = O ∧ P1 = P ∧ Two w2 B O1 P1 g p S S) := Lib.hid ⟨O, P, rfl, rfl, rfl, (HT0.out.below HB1.out).far (HK.out.below_in hb2) (fun b hb hm => by have := HVB.out b hm; have := (HM.out b hb).2; have := HSZ.out; omega) (fun b hb => by have := HVB.out b hb; have := HT0.out.base; omega)⟩
        clear hlent hb2 x3
        by_cases hn0 : n = 0
        · have hx0 : xs = [] := List.eq_nil_of_length_eq_zero (by rw [HXL.out, hn0])
          have HZ : Hid (S.write xs = S) := Lib.hid (by rw [hx0, DS.write_nil])
          have hnI : (n : Int) = 0 := by omega
          clear hx0
          go_wp2_with fail
          go_ret
          rw [HZ.out]
          obtain ⟨O1, P1, _, rfl, rfl, ht⟩ := HTF.out
          exact ⟨rfl, PairTurns.after HBF.out (PairTurns.refl ht.pair)⟩
        · obtain ⟨O1, P1, _, rfl, rfl, ht⟩ := HTF.out
          have HT := Lib.hid ht
          have hnp : 0 < n := by omega
          have hnI1 : (0 : Int) < (n : Int) := by omega
          have hnI2 : ¬ (n : Int) = 0 := by omega
          have hnI3 : ((n : Int) == 0) = false := beq_eq_false_iff_ne.2 hnI2
          obtain ⟨gv, rfl, hv0, hv1, hv2⟩ := HWIN.out hnp
          have HGV : Hid (w.heap.size < gv ∧ gv < wr.heap.size) := Lib.hid ⟨by have := HSZ.out; omega, hv1⟩
          have HGM : Hid (wr.heap.size ≤ gm ∧ gm < w2.heap.size) := Lib.hid ⟨HLT.out.1, HLT.out.2.1⟩
          have HWS2 : Hid (WIn w2 (some ⟨gv, 0, none⟩) xs) := Lib.hid (HWI.out.below HB2.out)
          have hfw := HF.out.writes
          have hfd := HF.out.dirty
          have HD := Lib.hid (dwrite_any (some ⟨gm, 0, none⟩) n cap xs HT.out.d HF.out.ok HXL.out (fun hp => by
            obtain ⟨b, off, e, h1, h2⟩ := HLT.out.wrts hp
            refine ⟨b, off, e, h1, fun hm => ?_, h2⟩
            have hb : b = gm := by injection e with e; injection e with e1 _; exact e1.symm
            have := (HM.out gm (by simp [← hb, hm])).2
            have := HGM.out.1
            have := HGV.out
            omega) HF.out.left (by omega) (by omega))
          have HP : Hid (∀ w', Keep O1 w2 w' → PlainAt w' B P1 p S → Calls Try.prog 27 #[.pointer (some ⟨p, 0, none⟩), .slice (some ⟨gv, 0, none⟩) n cv] w' fun e w'' => e = .returned (.int .i64 (S.errW xs)) ∧ TurnsP B P1 p (S.write xs) w' w'') := Lib.hid (fun w' hk hp => by
            refine pwrite_any (some ⟨gv, 0, none⟩) n cv xs hp HF.out.ok HXL.out (fun hpp => ?_) HF.out.left (by omega) (by omega) ⟨HF.out.len.1, by have := HF.out.len.2; omega⟩
            obtain ⟨b, off, e, h1, h2⟩ := HWS2.out hpp
            have hb : b = gv ∧ off = 0 := by injection e with e; injection e with e1 e2; exact ⟨e1.symm, e2.symm⟩
            obtain ⟨rfl, rfl⟩ := hb
            have hnO : b ∉ O1 ++ P1 := fun hm => by have := (HM.out b hm).2; have := HGV.out.1; omega
            have hbb := hk.block b h1 (fun hm => hnO (by simp [hm]))
            exact ⟨b, 0, rfl, Nat.lt_of_lt_of_le h1 hk.size, fun hm => hnO (by simp [hm]), fun j x hx => ⟨(World.cell?_of_block (a := ⟨b, 0 + j * 2, none⟩) hbb).trans (h2 j x hx).1, (World.cell?_of_block (a := ⟨b, 0 + j * 2 + 1, none⟩) hbb).trans (h2 j x hx).2⟩⟩)
          obtain ⟨ee, hee⟩ : ∃ ee, ee = S.errW xs := ⟨_, rfl⟩
          rw [← hee] at HD HP
          clear ht hv0 hv1 hv2 hfw hfd hee
          go_wp2_with fail
          refine HD.out.mono ?_
          rintro e w3 ⟨rfl, hT⟩
          obtain ⟨O', t1, t2, t3⟩ := HT.out.first hT
          have HTT := Lib.hid hT
          have HPC := Lib.hid (HP.out w3 t3 t1.p)
          have HK3 := Lib.hid t3
          have HP3 := Lib.hid t1.p
          clear hT t1 t2 t3
          go_wp2_with fail
          refine HPC.out.mono ?_
          rintro e w4 ⟨rfl, hTP⟩
          have HK4 : Hid (Keep (O1 ++ P1) w2 w4) := Lib.hid ((HK3.out.mono (by intro b hb; exact .inl (by simp [hb]))).trans (hTP.choose_spec.2.2.mono (O' := O1 ++ P1) (by intro b hb; exact .inl (by simp [hb]))) (fun _ hb => .inl hb))
          have HPT : Hid (PairTurns B (O1 ++ P1) g p (S.write xs) w w4) := Lib.hid (PairTurns.after HBF.out (HT.out.both HTT.out (fun _ => hTP)))
          have HST := Lib.hid (wstays_any gm cap (some ⟨gv, 0, none⟩) n cv xs _ w4 HXL.out (HLT.out.keep HK4.out (fun hm => by have := (HM.out gm hm).2; have := HGM.out.1; have := HGV.out; omega)) (fun hp => by
            obtain ⟨b, off, e, h1, h2⟩ := HWS2.out hp
            have hb : b = gv ∧ off = 0 := by injection e with e; injection e with e1 e2; exact ⟨e1.symm, e2.symm⟩
            obtain ⟨rfl, rfl⟩ := hb
            have hbb := HK4.out.block b h1 (fun hm => by have := (HM.out b hm).2; have := HGV.out.1; omega)
            exact ⟨b, 0, rfl, Nat.lt_of_lt_of_le h1 HK4.out.size, fun j x hx => ⟨(World.cell?_of_block (a := ⟨b, 0 + j * 2, none⟩) hbb).trans (h2 j x hx).1, (World.cell?_of_block (a := ⟨b, 0 + j * 2 + 1, none⟩) hbb).trans (h2 j x hx).2⟩⟩) (by omega))
          clear hTP
          go_wp2_with fail
          refine HST.out.mono ?_
          rintro e w5 ⟨rfl, q, rfl⟩
          go_wp2_with fail
          go_ret
          exact ⟨rfl, HPT.out.below_in ⟨rfl, rfl, rfl, Nat.le_refl _, fun _ _ => rfl⟩⟩
end Go.Proofs.Ytpepabggpappgaa
