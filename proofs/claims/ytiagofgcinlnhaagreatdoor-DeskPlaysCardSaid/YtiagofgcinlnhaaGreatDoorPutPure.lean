/-
  A number put at its place, once; lists that rise strictly. No statement is proved here.
-/
import Derived.Test.YtiagofgcinlnhaaGreatDoorWalSmall
import Derived.Maps.OwnSet
import Derived.Maps.StringElems
import Derived.Laws.IdiomMaps
import Derived.OpenShut
import Derived.Maps.RangeWalk
import Derived.MapFrom
import Derived.Test.YtiagofgcinlnhaaGreatDoorNums
namespace Go.Proofs.YtiagofgcinlnhaaGreatDoor
open Go.RowKit
structure WI where
  A : Option Addr
  c : Nat
  l : List Wr1
def WI.val (x : WI) : Value := .slice x.A x.l.length x.c
theorem Wrts.keep {w w' : World} {O O' : List Nat} {A : Option Addr} {l : List (Int × ByteArray)} (h : Wrts w O A l) (hk : Keep O w w') (hO : ∀ b ∈ O', b ∈ O ∨ w.heap.size ≤ b) : Wrts w' O' A l := fun hp => by
  obtain ⟨b, off, e, hb, hn, hc⟩ := h hp
  have hbk := hk.block b hb hn
  refine ⟨b, off, e, Nat.lt_of_lt_of_le hb hk.size, fun hm => ?_, fun j x hx => ?_⟩
  · rcases hO b hm with h1 | h1
    · exact hn h1
    · omega
  · obtain ⟨c1, c2⟩ := hc j x hx
    exact ⟨(World.cell?_of_block (a := ⟨b, off + j * 2, none⟩) hbk).trans c1, (World.cell?_of_block (a := ⟨b, off + j * 2 + 1, none⟩) hbk).trans c2⟩
theorem Wrts.below {w w' : World} {O : List Nat} {A : Option Addr} {l : List (Int × ByteArray)} (h : Wrts w O A l) (hb : Below w.heap.size w w') : Wrts w' O A l := h.keep (Keep.of_below hb) (fun _ hb => .inl hb)
set_option maxRecDepth 100000 in
set_option maxHeartbeats 1000000 in
theorem wput_any {w : World} {gw gd bg m c : Nat} {seq k : Int} {up : Bool} {O : List Nat} {S : DS} (G : List WI) (h : Blk w gw 101 (walC gd seq up k)) (hd : DiskAt w O gd S) (hok : S.Ok) (hgw : gw ∉ O)
    (hm : G.length = m) (hG : ∀ (j : Nat) (x : WI), G[j]? = some x → w.cell? ⟨bg, j, none⟩ = some x.val ∧ Wrts w O x.A x.l ∧ x.l.length ≤ 2000) (hbg : bg < w.heap.size) (hbgO : bg ∉ O) (hm4 : m ≤ 10)
    (hlb : S.left ≤ 9223372036854775807) (hwb : S.writes < 900000000000) (hdb : S.dirty.length < 900000000000) :
    Calls Tryz.prog 94 #[.pointer (some ⟨gw, 0, none⟩), .slice (some ⟨bg, 0, none⟩) m c] w fun e w' => e = .returned (.int .i64 (putE S (G.map WI.l))) ∧ Turns O gd (putS S (G.map WI.l)) w w' := by
  obtain ⟨E, hE⟩ : ∃ E, E = putE S (G.map WI.l) := ⟨_, rfl⟩
  rw [← hE]
  have HE := Lib.hid hE
  have HB := Lib.hid h
  have HD := Lib.hid hd
  have HM := Lib.hid hm
  have HG := Lib.hid hG
  have HOK := Lib.hid hok
  have HGW := Lib.hid hgw
  have HBG := Lib.hid (And.intro hbg hbgO)
  have HBND := Lib.hid (And.intro hlb (And.intro hwb hdb))
  have hm4' : (m : Int) ≤ 10 := by omega
  clear hE h hd hm hG hok hgw hbg hbgO hlb hwb hdb
  go_enter Tryz.func94, Tryz.ntmps94
  go_wp2_with fail
  go_loopw [11] (fun i wr => ∃ (j : Nat) (T : DS), j ≤ m ∧ i = .int .i64 j ∧ Turns O gd T w wr ∧ T.Ok ∧ T.left ≤ S.left ∧ T.writes ≤ S.writes + 2000 * j ∧ T.dirty.length ≤ S.dirty.length + 2000 * j ∧ putE S (G.map WI.l) = putE T ((G.drop j).map WI.l) ∧ putS S (G.map WI.l) = putS T ((G.drop j).map WI.l)) (fun i _ => m - (intOf i).toNat)
  case atStart => exact ⟨0, S, Nat.zero_le _, rfl, Turns.refl HD.out, HOK.out, Nat.le_refl _, by omega, by omega, rfl, rfl⟩
  case round =>
    obtain ⟨j, T, hj, rfl, hT, hTok, hTl, hTw, hTd, he1, he2⟩ := hrel
    have HT := Lib.hid hT
    have HTO := Lib.hid hTok
    have HTB := Lib.hid (And.intro hTl (And.intro hTw hTd))
    have HE1 := Lib.hid he1
    have HE2 := Lib.hid he2
    clear hT hTok hTl hTw hTd he1 he2
    by_cases hlt : j < m
    · have hjl : j < G.length := by rw [HM.out]; exact hlt
      obtain ⟨x, hx⟩ : ∃ x, x = G[j] := ⟨_, rfl⟩
      have hxj : G[j]? = some x := by rw [hx]; exact List.getElem?_eq_getElem hjl
      have hdrop : G.drop j = x :: G.drop (j + 1) := by rw [List.drop_eq_getElem_cons hjl, hx]
      obtain ⟨d0, hW, hxl⟩ := HG.out j x hxj
      obtain ⟨O', hD, hO', hK⟩ := HT.out
      have d0' : wr.cell? ⟨bg, j, none⟩ = some x.val := (World.cell?_of_block (a := ⟨bg, j, none⟩) (hK.block bg HBG.out.1 HBG.out.2)).trans d0
      obtain ⟨xA, xc, xl⟩ := x
      obtain ⟨xn, hxn⟩ : ∃ xn, xn = xl.length := ⟨_, rfl⟩
      unfold WI.val at d0'
      simp only at d0' hW hxl
      rw [← hxn] at d0' hxl
      have hjI : (j : Int) < (m : Int) := by omega
      have hwal : Blk wr gw 101 (walC gd seq up k) := (hK.block gw HB.out.lt HGW.out).trans HB.out
      have c0 := hwal.cell 0
      simp [walC] at c0
      have HBNDT : Hid (T.left ≤ 9223372036854775807 ∧ T.writes < 990000000000 ∧ T.dirty.length < 990000000000) := Lib.hid (by
        obtain ⟨b1, b2, b3⟩ := HBND.out
        obtain ⟨t1, t2, t3⟩ := HTB.out
        have : 2000 * j ≤ 20000 := by omega
        exact ⟨by omega, by omega, by omega⟩)
      have HW1 : Hid (Calls Tryz.prog 73 #[.pointer (some ⟨gd, 0, none⟩), .slice xA xn xc] wr fun e w' => e = .returned (.int .i64 (T.errW xl)) ∧ Turns O gd (T.write xl) w w') := Lib.hid (by
        obtain ⟨b1, b2, b3⟩ := HBNDT.out
        refine (dwrite_any xA xn xc xl hD HTO.out hxn.symm (hW.keep hK hO') b1 (by omega) (by omega)).mono ?_
        rintro e w3 ⟨rfl, hT3⟩
        exact ⟨rfl, turns_comp hO' hK hT3⟩)
      have HQ : Hid ((T.write xl).Ok ∧ (T.write xl).left ≤ T.left ∧ (T.write xl).writes ≤ T.writes + xn ∧ (T.write xl).dirty.length ≤ T.dirty.length + xn) := Lib.hid ⟨HTO.out.write xl, DS.write_left _ _, by rw [hxn]; exact DS.write_writes _ _, by rw [hxn]; exact DS.write_dirty _ _⟩
      have HX2 : Hid (xn ≤ 2000) := Lib.hid hxl
      clear hx hxj hjl d0 hW hD hO' hK hwal hxl hxn
      by_cases he : T.errW xl = 0
      · rw [he] at HW1
        have HF1 : Hid (∀ wz, Turns O gd (T.write xl) w wz → Calls Tryz.prog 74 #[.pointer (some ⟨gd, 0, none⟩)] wz fun e w' => e = .returned (.int .i64 (T.write xl).errF) ∧ Turns O gd (T.write xl).flush w w') := Lib.hid (fun wz hz => by
          obtain ⟨O2, hD2, hO2, hK2⟩ := hz
          refine (dflush_any hD2 HQ.out.1 (by have := HQ.out.2.1; have := HBNDT.out.1; omega)).mono ?_
          rintro e w3 ⟨rfl, hT3⟩
          exact ⟨rfl, turns_comp hO2 hK2 hT3⟩)
        have HQA : Hid ((T.write xl).errF = 0 → putE S (G.map WI.l) = putE (T.write xl).flush ((G.drop (j + 1)).map WI.l) ∧ putS S (G.map WI.l) = putS (T.write xl).flush ((G.drop (j + 1)).map WI.l)) := Lib.hid (fun hf => ⟨HE1.out.trans (by rw [hdrop]; simp only [List.map_cons]; rw [putE, if_pos he, if_pos hf]), HE2.out.trans (by rw [hdrop]; simp only [List.map_cons]; rw [putS, if_pos he, if_pos hf])⟩)
        have HQB : Hid (¬ (T.write xl).errF = 0 → putE S (G.map WI.l) = (T.write xl).errF ∧ putS S (G.map WI.l) = (T.write xl).flush) := Lib.hid (fun hf => ⟨HE1.out.trans (by rw [hdrop]; simp only [List.map_cons]; rw [putE, if_pos he, if_neg hf]), HE2.out.trans (by rw [hdrop]; simp only [List.map_cons]; rw [putS, if_pos he, if_neg hf])⟩)
        clear hdrop he
        go_wp2_with fail
        refine HW1.out.mono ?_
        rintro e wz ⟨rfl, hTz⟩
        have HTZ := Lib.hid hTz
        obtain ⟨O2, hD2, hO2, hK2⟩ := hTz
        have hwal : Blk wz gw 101 (walC gd seq up k) := (hK2.block gw HB.out.lt HGW.out).trans HB.out
        have c0 := hwal.cell 0
        simp [walC] at c0
        clear hD2 hO2 hK2 hwal
        by_cases hf : (T.write xl).errF = 0
        · have HQ2 := Lib.hid (HQA.out hf)
          rw [hf] at HF1
          have HFLN : Hid ((T.write xl).flush.left ≤ S.left ∧ (T.write xl).flush.writes ≤ S.writes + 2000 * (j + 1) ∧ (T.write xl).flush.dirty.length ≤ S.dirty.length + 2000 * (j + 1)) := Lib.hid (by
            obtain ⟨a1, a2, a3, a4⟩ := HQ.out
            obtain ⟨t1, t2, t3⟩ := HTB.out
            have f1 := DS.flush_left (T.write xl)
            have f2 := DS.flush_writes (T.write xl)
            have f3 := DS.flush_dirty (T.write xl)
            have := HX2.out
            exact ⟨by omega, by omega, by omega⟩)
          have HFO : Hid ((T.write xl).flush.Ok) := Lib.hid HQ.out.1.flush
          clear hf
          go_wp2_with fail
          refine (HF1.out _ HTZ.out).mono ?_
          rintro e wf ⟨rfl, hTf⟩
          have HTF := Lib.hid hTf
          clear hTf
          go_wp2_with fail
          go_roundw
          case rel => exact ⟨j + 1, (T.write xl).flush, by omega, by go_num, HTF.out, HFO.out, HFLN.out.1, HFLN.out.2.1, HFLN.out.2.2, HQ2.out.1, HQ2.out.2⟩
          case measure => simp [intOf]; omega
        · have HQ2 := Lib.hid (HQB.out hf)
          obtain ⟨v, hv⟩ : ∃ v, v = (T.write xl).errF := ⟨_, rfl⟩
          rw [← hv] at HF1 hf HQ2
          have hb : (v != 0) = true := bne_iff_ne.2 hf
          clear hv
          go_wp2_with fail
          refine (HF1.out _ HTZ.out).mono ?_
          rintro e wf ⟨rfl, hTf⟩
          have HTF := Lib.hid hTf
          clear hTf
          go_wp2_with fail
          go_ret
          rw [HQ2.out.2, HE.out, HQ2.out.1]
          exact ⟨rfl, HTF.out⟩
      · have q1 : putE T ((G.drop j).map WI.l) = T.errW xl := by rw [hdrop]; simp only [List.map_cons]; rw [putE, if_neg he]
        have q2 : putS T ((G.drop j).map WI.l) = T.write xl := by rw [hdrop]; simp only [List.map_cons]; rw [putS, if_neg he]
        have HQ2 := Lib.hid (And.intro (HE1.out.trans q1) (HE2.out.trans q2))
        obtain ⟨v, hv⟩ : ∃ v, v = T.errW xl := ⟨_, rfl⟩
        rw [← hv] at HW1 he HQ2
        have hb : (v != 0) = true := bne_iff_ne.2 he
        clear q1 q2 hdrop hv
        go_wp2_with fail
        refine HW1.out.mono ?_
        rintro e wz ⟨rfl, hTz⟩
        have HTZ := Lib.hid hTz
        clear hTz
        go_wp2_with fail
        go_ret
        rw [HQ2.out.2, HE.out, HQ2.out.1]
        exact ⟨rfl, HTZ.out⟩
    · obtain rfl : j = m := by omega
      have hd : G.drop j = [] := List.drop_of_length_le (by rw [HM.out]; exact Nat.le_refl _)
      have q1 : E = 0 := by rw [HE.out, HE1.out, hd]; rfl
      have HQ : Hid (putS S (G.map WI.l) = T) := Lib.hid (by rw [HE2.out, hd]; rfl)
      clear hd
      go_wp2_with fail
      go_ret
      rw [HQ.out]
      exact ⟨by rw [q1]; rfl, HT.out⟩
set_option maxRecDepth 100000 in
set_option maxHeartbeats 1000000 in
theorem wrefuse_any {w : World} {gw gd n m c : Nat} {seq k : Int} {O : List Nat} {S : DS} (A : Option Addr) (l : List Wr1) (h : Blk w gw 101 (walC gd seq true k)) (hd : DiskAt w O gd S) (hn : S.now.length = n) (h1 : 111 ≤ n) (h2 : n ≤ 2000)
    (hm : l.length = m) (hl : Wrts w O A l) (hm2 : m ≤ 100000) :
    Calls Tryz.prog 90 #[.pointer (some ⟨gw, 0, none⟩), .slice A m c] w fun e w' => e = .returned (.int .i64 (refE ((n : Int) - 111) l)) ∧ Below w.heap.size w w' := by
  obtain ⟨E, hE⟩ : ∃ E, E = refE ((n : Int) - 111) l := ⟨_, rfl⟩
  rw [← hE]
  have HE := Lib.hid hE
  have HM := Lib.hid hm
  have HL := Lib.hid hl
  have HW := Lib.hid h
  have HHAS : Hid (∀ wx, Below w.heap.size w wx → ∀ at_, Calls Tryz.prog 103 #[.pointer (some ⟨gw, 0, none⟩), .int .i64 at_] wx fun e w' => e = .returned (.bool (decide (0 ≤ at_ ∧ at_ < (n : Int) - 111))) ∧ wx = w') := Lib.hid (fun wx hx at_ => whas_any at_ (h.below hx h.lt) (hd.below hx) hn h1 h2)
  have c4 := h.cell 4
  simp [walC] at c4
  have hm2' : (m : Int) ≤ 100000 := by omega
  clear hE hm hl h hd hn h1 h2
  go_enter Tryz.func90, Tryz.ntmps90
  go_wp2_with fail
  clear c4
  go_loopw [18] (fun i wr => ∃ (j : Nat), j ≤ m ∧ i = .int .i64 j ∧ Below w.heap.size w wr ∧ refE ((n : Int) - 111) l = refE ((n : Int) - 111) (l.drop j)) (fun i _ => m - (intOf i).toNat)
  case atStart => exact ⟨0, Nat.zero_le _, rfl, Below.refl _ _, rfl⟩
  case round =>
    obtain ⟨j, hj, rfl, hb, he⟩ := hrel
    have HB := Lib.hid hb
    have HE1 := Lib.hid he
    clear hb he
    by_cases hlt : j < m
    · have hjl : j < l.length := by rw [HM.out]; exact hlt
      obtain ⟨b, off, rfl, hbw, -, hc⟩ := HL.out (by omega)
      obtain ⟨x, hx⟩ : ∃ x, x = l[j] := ⟨_, rfl⟩
      have hxj : l[j]? = some x := by rw [hx]; exact List.getElem?_eq_getElem hjl
      have hdrop : l.drop j = x :: l.drop (j + 1) := by rw [List.drop_eq_getElem_cons hjl, hx]
      obtain ⟨d0, d1⟩ := hc j x hxj
      obtain ⟨xa, xs⟩ := x
      simp only at d0 d1
      have d0' : wr.cell? ⟨b, off + j * 2, none⟩ = some (.int .i64 xa) := (HB.out.cell (p := ⟨b, off + j * 2, none⟩) hbw).trans d0
      have d1' : wr.cell? ⟨b, off + j * 2 + 1, none⟩ = some (.string xs) := (HB.out.cell (p := ⟨b, off + j * 2 + 1, none⟩) hbw).trans d1
      have hjI : (j : Int) < (m : Int) := by omega
      have HBX : Hid (Below w.heap.size w (wr.alloc (.cells #[.int .i64 xa, .string xs] 90))) := Lib.hid (HB.out.alloc HB.out.size _)
      have HH : Hid (Calls Tryz.prog 103 #[.pointer (some ⟨gw, 0, none⟩), .int .i64 xa] (wr.alloc (.cells #[.int .i64 xa, .string xs] 90)) fun e w' => e = .returned (.bool (decide (0 ≤ xa ∧ xa < (n : Int) - 111))) ∧ (wr.alloc (.cells #[.int .i64 xa, .string xs] 90)) = w') := Lib.hid (HHAS.out _ HBX.out xa)
      clear hx hxj hjl hc d0 d1 hbw
      by_cases hr : 0 ≤ xa ∧ xa < (n : Int) - 111
      · rw [decide_eq_true hr] at HH
        by_cases hs : xs.size = 256
        · have HQ : Hid (refE ((n : Int) - 111) l = refE ((n : Int) - 111) (l.drop (j + 1))) := Lib.hid (by rw [HE1.out, hdrop, refE, if_pos hr, if_pos hs])
          have hsI : (xs.size : Int) = 256 := by omega
          clear hdrop hr hs
          go_wp2_with (go_at_call 103; refine HH.out.mono ?_; rintro e w1 ⟨rfl, rfl⟩)
          go_roundw
          case rel => exact ⟨j + 1, by omega, by go_num, HBX.out, HQ.out⟩
          case measure => simp [intOf]; omega
        · have q : E = 1 := by rw [HE.out, HE1.out, hdrop, refE, if_pos hr, if_neg hs]
          have hsI : ((xs.size : Int) != 256) = true := bne_iff_ne.2 (by omega)
          have hsJ : ¬ (xs.size : Int) = 256 := by omega
          have HQ := Lib.hid q
          clear hdrop hr hs q
          go_wp2_with (go_at_call 103; refine HH.out.mono ?_; rintro e w1 ⟨rfl, rfl⟩)
          go_ret
          exact ⟨by rw [HQ.out]; rfl, HBX.out⟩
      · have q : E = 15 := by rw [HE.out, HE1.out, hdrop, refE, if_neg hr]
        have HQ := Lib.hid q
        rw [decide_eq_false hr] at HH
        clear hdrop hr q
        go_wp2_with (go_at_call 103; refine HH.out.mono ?_; rintro e w1 ⟨rfl, rfl⟩)
        go_ret
        exact ⟨by rw [HQ.out]; rfl, HBX.out⟩
    · obtain rfl : j = m := by omega
      have q : E = 0 := by rw [HE.out, HE1.out, List.drop_of_length_le (by rw [HM.out]; exact Nat.le_refl _)]; rfl
      have HQ := Lib.hid q
      clear q
      go_wp2_with fail
      go_ret
      exact ⟨by rw [HQ.out]; rfl, HB.out⟩
open Go.RowKit Go.WideMaps Go.Maps
theorem mlawI : Keyed Tryz.prog 3 := int_keyed Tryz.underlying3
theorem wfI {n : Int} (h1 : -9223372036854775808 ≤ n) (h2 : n ≤ 9223372036854775807) : (Lit.int .i64 n).wf = true := by
  have e := Go.wf_wrap .i64 n
  have hw : IntKind.i64.wrap n = n := by rw [IntKind.wrap_i64]; omega
  rwa [hw] at e
theorem mkeyI {t : Int} (h1 : -9223372036854775808 ≤ t) (h2 : t ≤ 9223372036854775807) : keyOf Tryz.prog 3 (.int .i64 t) = some (.int .i64 t) := keyOf_int_mk Tryz.underlying3 (wfI h1 h2)
theorem mzeroI (w : World) : (zeroValue 3).run Tryz.prog w = .ok (.int .i64 0) w := by kernel_rfl
def MapI (w : World) (b n : Nat) (M : Int → Int) : Prop :=
  ∃ D : DataW Unit, w.ownsMap Tryz.prog 3 (plainElem Tryz.prog 3) b n D ∧ ∀ t : Int, -9223372036854775808 ≤ t → t ≤ 9223372036854775807 → D.atKey (.int .i64 t) (.lit (.int .i64 0)) = .lit (.int .i64 (M t))
theorem MapI.lt {w : World} {b n : Nat} {M : Int → Int} (h : MapI w b n M) : b < w.heap.size := by
  obtain ⟨D, h, _⟩ := h
  exact h.lt
theorem MapI.kept {w w' : World} {b n : Nat} {M : Int → Int} (h : MapI w b n M) (hb : w'.heap[b]? = w.heap[b]?) : MapI w' b n M := by
  obtain ⟨D, ⟨es, clock, h1, h2⟩, h3⟩ := h
  exact ⟨D, ⟨es, clock, hb.trans h1, h2⟩, h3⟩
theorem MapI.below {w w' : World} {b n : Nat} {M : Int → Int} (h : MapI w b n M) (hb : Below w.heap.size w w') : MapI w' b n M := h.kept (hb.block b h.lt)
theorem MapI.made (w : World) : MapI (w.alloc (.map #[] 0)) w.heap.size 0 (fun _ => 0) :=
  ⟨.map [], World.ownsMap_made _ _ _ _, fun _ _ _ => rfl⟩
set_option maxRecDepth 100000 in
theorem MapI.update {w : World} {b n : Nat} {M : Int → Int} (h : MapI w b n M) (hn : n < 1000000) {k v : Int} (hk1 : -9223372036854775808 ≤ k) (hk2 : k ≤ 9223372036854775807) (hv1 : -9223372036854775808 ≤ v) (hv2 : v ≤ 9223372036854775807) :
    ∃ w', (Instr.mapUpdate 166 (.map (some b)) (.int .i64 k) (.int .i64 v)).run Tryz.prog w = .ok () w' ∧ MapI w' b (n + 1) (fun t => if t = k then v else M t) ∧ w.grownBy w' (some b) := by
  obtain ⟨D, h1, h2⟩ := h
  have hkey := mkeyI hk1 hk2
  obtain ⟨w', hr, h3, h4⟩ := h1.update mlawI Tryz.underlying166 (by unfold maxLen; omega) hkey (plainElem_int Tryz.underlying3 (wfI hv1 hv2))
  refine ⟨w', hr, ⟨_, h3, fun i hi1 hi2 => ?_⟩, h4⟩
  by_cases hik : i = k
  · subst hik
    simp only [if_true]
    exact atKey_put_same h1.isMap (show WideAt.IsKeyLit (Lit.int .i64 i) from trivial) _ _
  · simp only [if_neg hik]
    have hne : (Lit.int .i64 i) ≠ .int .i64 k := fun e => by
      injection e with _ e
      exact hik e
    rw [atKey_put_other hne]
    exact h2 i hi1 hi2
set_option maxRecDepth 100000 in
theorem MapI.look {w : World} {b n : Nat} {M : Int → Int} (h : MapI w b n M) {k : Int} (hk1 : -9223372036854775808 ≤ k) (hk2 : k ≤ 9223372036854775807) :
    (Instr.lookup 166 (.map (some b)) (.int .i64 k) false).run Tryz.prog w = .ok (.int .i64 (M k)) w := by
  obtain ⟨D, h1, h2⟩ := h
  obtain ⟨c, hr, hc, _⟩ := h1.lookup_int mlawI Tryz.underlying166 Tryz.underlying3 (mzeroI w) (mkeyI hk1 hk2)
  rw [h2 k hk1 hk2] at hc
  injection hc with hc
  injection hc with _ hc
  rw [hc]
  exact hr
def lastS (l : List Wr1) : Nat × (Int → Int) := l.foldl (fun s x => (s.1 + 1, fun t => if t = x.1 then (s.1 : Int) else s.2 t)) (0, fun _ => 0)
def lastM (l : List Wr1) : Int → Int := (lastS l).2
theorem lastS_snoc (l : List Wr1) (x : Wr1) : lastS (l ++ [x]) = ((lastS l).1 + 1, fun t => if t = x.1 then ((lastS l).1 : Int) else (lastS l).2 t) := by unfold lastS; rw [List.foldl_append]; rfl
theorem lastB_snoc (l : List Wr1) (x : Wr1) (t : Int) : lastB (l ++ [x]) t = if x.1 = t then x.2 else lastB l t := by
  unfold lastB
  rw [List.foldl_append]
  simp only [List.foldl_cons, List.foldl_nil]
  split <;> rfl
theorem takeW_snoc {l : List Wr1} {j : Nat} {x : Wr1} (h : l[j]? = some x) : l.take (j + 1) = l.take j ++ [x] := by rw [List.take_add_one, h]; rfl
theorem lastS_len (l : List Wr1) : ∀ j, j ≤ l.length → (lastS (l.take j)).1 = j := by
  intro j
  induction j with
  | zero => intro _; rfl
  | succ j ih =>
    intro hj
    have hx : l[j]? = some (l[j]'(by omega)) := List.getElem?_eq_getElem (by omega)
    rw [takeW_snoc hx, lastS_snoc]
    show (lastS (l.take j)).1 + 1 = _
    rw [ih (by omega)]
theorem lastM_next {l : List Wr1} {j : Nat} {x : Wr1} (h : l[j]? = some x) : lastM (l.take (j + 1)) = fun t => if t = x.1 then (j : Int) else lastM (l.take j) t := by
  have hj : j < l.length := by
    rcases Nat.lt_or_ge j l.length with h' | h'
    · exact h'
    · rw [List.getElem?_eq_none h'] at h; cases h
  unfold lastM
  rw [takeW_snoc h, lastS_snoc, lastS_len l j (by omega)]
theorem lastM_spec (l : List Wr1) : ∀ j, j ≤ l.length → ∀ t, (∃ x ∈ l.take j, x.1 = t) → ∃ (i : Nat) (x : Wr1), lastM (l.take j) t = (i : Int) ∧ i < j ∧ l[i]? = some x ∧ x.1 = t ∧ x.2 = lastB (l.take j) t := by
  intro j
  induction j with
  | zero => intro _ t ⟨x, hx, _⟩; simp at hx
  | succ j ih =>
    intro hj t ⟨x, hx, e⟩
    have hy : l[j]? = some (l[j]'(by omega)) := List.getElem?_eq_getElem (by omega)
    rw [lastM_next hy, takeW_snoc hy]
    simp only [lastB_snoc]
    by_cases ht : (l[j]'(by omega)).1 = t
    · rw [if_pos ht.symm, if_pos ht]
      exact ⟨j, _, rfl, by omega, hy, ht, rfl⟩
    · rw [if_neg (fun e => ht e.symm), if_neg ht]
      rw [takeW_snoc hy, List.mem_append, List.mem_singleton] at hx
      rcases hx with hx | hx
      · obtain ⟨i, z, h1, h2, h3, h4, h5⟩ := ih (by omega) t ⟨x, hx, e⟩
        exact ⟨i, z, h1, by omega, h3, h4, h5⟩
      · exact absurd (hx ▸ e) ht
theorem lastM_all (l : List Wr1) {t : Int} (h : t ∈ l.map Prod.fst) : ∃ (i : Nat) (x : Wr1), lastM l t = (i : Int) ∧ i < l.length ∧ l[i]? = some x ∧ x.1 = t ∧ x.2 = lastB l t := by
  obtain ⟨x, hx, e⟩ := List.mem_map.1 h
  have := lastM_spec l l.length (Nat.le_refl _) t
  rw [List.take_length] at this
  exact this ⟨x, hx, e⟩
def arrC (l : List Wr1) (j : Nat) : List Value := ((l.take j).map fun x => Value.int .i64 x.1) ++ List.replicate (l.length - j) (.int .i64 0)
theorem arrC_next {l : List Wr1} {j : Nat} {x : Wr1} (h : l[j]? = some x) : (arrC l j).toArray.setIfInBounds j (.int .i64 x.1) = (arrC l (j + 1)).toArray := by
  have hj : j < l.length := by
    rcases Nat.lt_or_ge j l.length with h' | h'
    · exact h'
    · rw [List.getElem?_eq_none h'] at h; cases h
  rw [List.setIfInBounds_toArray]
  congr 1
  unfold arrC
  rw [takeW_snoc h, List.map_append]
  have hl : ((l.take j).map fun x => Value.int .i64 x.1).length = j := by simp; omega
  rw [List.set_append_right _ _ (by rw [hl]; exact Nat.le_refl _), hl, Nat.sub_self, show l.length - j = (l.length - (j + 1)) + 1 by omega, List.replicate_succ]
  simp
theorem arrC_ints {l : List Wr1} {w : World} {g : Nat} (h : Blk w g 3 (arrC l l.length).toArray) : Ints w w.heap.size (some ⟨g, 0, none⟩) (l.map Prod.fst) := fun hp => by
  refine ⟨g, 0, rfl, h.lt, fun j x hx => ?_⟩
  rw [Nat.zero_add, h.cell]
  have e : arrC l l.length = (l.map Prod.fst).map (Value.int .i64) := by unfold arrC; simp
  rw [e, List.getElem?_toArray, List.getElem?_map, hx]
  rfl
open Go.RowKit Go.WideMaps Go.Maps Go.ChangeMaps
def writeV (t : Int) (x : ByteArray) : Value := .agg #[.int .i64 t, .string x]
def heldR : Value → Option (DataW Value × List MemPlace)
  | .agg cs => match cs.toList with
    | [.int .i64 a, .string s] => some (.held (writeV a s), [])
    | _ => none
  | _ => none
theorem heldR_inv {v : Value} {z : DataW Value × List MemPlace} (h : heldR v = some z) : ∃ t x, v = writeV t x ∧ z = (.held (writeV t x), []) := by
  unfold heldR at h
  split at h
  · rename_i cs
    split at h
    · rename_i a s e
      injection h with h
      refine ⟨a, s, ?_, h.symm⟩
      unfold writeV
      congr 1
      exact Array.toList_inj.1 e
    · cases h
  · cases h
def zeroW : Value := .agg #[.int .i64 0, .string .empty]
def I64 (t : Int) : Prop := -9223372036854775808 ≤ t ∧ t ≤ 9223372036854775807
def MapW (w : World) (b m : Nat) (F : Int → ByteArray) : Prop :=
  ∃ D : DataW Value, w.ownsMap Tryz.prog 3 heldR b m D ∧ ∀ t : Int, I64 t →
    (F t ≠ .empty → Maps.has D (.int .i64 t) = true ∧ ∀ zd, D.atKey (.int .i64 t) zd = .held (writeV t (F t))) ∧ (F t = .empty → Maps.has D (.int .i64 t) = false)
theorem MapW.lt {w : World} {b m : Nat} {F : Int → ByteArray} (h : MapW w b m F) : b < w.heap.size := by
  obtain ⟨D, h, _⟩ := h
  exact h.lt
theorem MapW.kept {w w' : World} {b m : Nat} {F : Int → ByteArray} (h : MapW w b m F) (hb : w'.heap[b]? = w.heap[b]?) : MapW w' b m F := by
  obtain ⟨D, ⟨es, clock, h1, h2⟩, h3⟩ := h
  exact ⟨D, ⟨es, clock, hb.trans h1, h2⟩, h3⟩
theorem MapW.below {w w' : World} {b m : Nat} {F : Int → ByteArray} (h : MapW w b m F) (hb : Below w.heap.size w w') : MapW w' b m F := h.kept (hb.block b h.lt)
theorem MapW.mono {w : World} {b m m' : Nat} {F : Int → ByteArray} (h : MapW w b m F) (hm : m ≤ m') : MapW w b m' F := by
  obtain ⟨D, ⟨es, clock, h1, h2, h3, h4⟩, h5⟩ := h
  exact ⟨D, ⟨es, clock, h1, h2, Nat.le_trans h3 hm, h4⟩, h5⟩
theorem MapW.made (w : World) : MapW (w.alloc (.map #[] 0)) w.heap.size 0 (fun _ => .empty) :=
  ⟨.map [], World.ownsMap_made _ _ _ _, fun _ _ => ⟨fun h => absurd rfl h, fun _ => rfl⟩⟩
def updF (F : Int → ByteArray) (k : Int) (x : ByteArray) : Int → ByteArray := fun t => if t = k then x else F t
theorem updF_same (F : Int → ByteArray) (k : Int) (x : ByteArray) : updF F k x k = x := by unfold updF; rw [if_pos rfl]
theorem updF_other (F : Int → ByteArray) {k t : Int} (x : ByteArray) (h : t ≠ k) : updF F k x t = F t := by unfold updF; rw [if_neg h]
set_option maxRecDepth 100000 in
theorem MapW.update {w : World} {b m : Nat} {F : Int → ByteArray} (h : MapW w b m F) (hm : m < 1000000) {k : Int} (hk : I64 k) {x : ByteArray} (hx : x ≠ .empty) :
    ∃ w', (Instr.mapUpdate 33 (.map (some b)) (.int .i64 k) (.agg #[.int .i64 k, .string x])).run Tryz.prog w = .ok () w' ∧ MapW w' b (m + 1) (updF F k x) ∧ w.grownBy w' (some b) := by
  obtain ⟨D, h1, h2⟩ := h
  have hkey := mkeyI hk.1 hk.2
  obtain ⟨w', hr, h3, h4⟩ := h1.update mlawI Tryz.underlying33 (by unfold maxLen; omega) hkey (show heldR (.agg #[.int .i64 k, .string x]) = some (.held (writeV k x), []) from rfl)
  refine ⟨w', hr, ⟨_, h3, fun t ht => ?_⟩, h4⟩
  by_cases htk : t = k
  · subst htk
    rw [updF_same]
    exact ⟨fun _ => ⟨has_put_same h1.isMap (show WideAt.IsKeyLit (Lit.int .i64 t) from trivial) _, fun zd => atKey_put_same h1.isMap (show WideAt.IsKeyLit (Lit.int .i64 t) from trivial) _ _⟩, fun e => absurd e hx⟩
  · rw [updF_other F x htk]
    have hne : (Lit.int .i64 t) ≠ .int .i64 k := fun e => by
      injection e with _ e
      exact htk e
    refine ⟨fun hu => ?_, fun hu => ?_⟩
    · obtain ⟨q1, q2⟩ := (h2 t ht).1 hu
      exact ⟨by rw [has_put_other hne]; exact q1, fun zd => by rw [atKey_put_other hne]; exact q2 zd⟩
    · rw [has_put_other hne]
      exact (h2 t ht).2 hu
theorem mzeroW (w : World) : (zeroValue 90).run Tryz.prog w = .ok zeroW w := by kernel_rfl
def lookW (F : Int → ByteArray) (k : Int) : Value := if F k = .empty then zeroW else writeV k (F k)
set_option maxRecDepth 100000 in
theorem MapW.look {w : World} {b m : Nat} {F : Int → ByteArray} (h : MapW w b m F) {k : Int} (hk : I64 k) :
    (Instr.lookup 33 (.map (some b)) (.int .i64 k) true).run Tryz.prog w = .ok (.tuple #[lookW F k, .bool (decide (F k ≠ .empty))]) w := by
  obtain ⟨D, h1, h2⟩ := h
  obtain ⟨v, ps, hr, hv⟩ := h1.look_ok mlawI Tryz.underlying33 (mzeroW w) (zd := .held zeroW) (zp := []) rfl (mkeyI hk.1 hk.2)
  have hz : DataW.held v = D.atKey (.int .i64 k) (.held zeroW) := by
    obtain ⟨a, s, rfl, hz⟩ := heldR_inv hv
    exact (congrArg Prod.fst hz).symm
  by_cases he : F k = .empty
  · have hh := (h2 k hk).2 he
    rw [atKey_of_not_has hh] at hz
    injection hz with hz
    rw [hh] at hr
    unfold lookW
    rw [if_pos he, ← hz, show decide (F k ≠ ByteArray.empty) = false from decide_eq_false (fun h => h he)]
    exact hr
  · obtain ⟨q1, q2⟩ := (h2 k hk).1 he
    rw [q2] at hz
    injection hz with hz
    rw [q1] at hr
    unfold lookW
    rw [if_neg he, ← hz, show decide (F k ≠ ByteArray.empty) = true from decide_eq_true he]
    exact hr
theorem MapW.clear {w : World} {b m : Nat} {F : Int → ByteArray} (h : MapW w b m F) :
    ∃ w', (∀ ty, (Builtin.clear_ #[33] ty #[.map (some b)]).run Tryz.prog w = .ok (.tuple #[]) w') ∧ MapW w' b m (fun _ => .empty) ∧ w.grownBy w' (some b) := by
  obtain ⟨D, ⟨es, clock, hb, F0, hs, rfl⟩, h2⟩ := h
  have hlt : b < w.heap.size := (Array.getElem?_eq_some_iff.1 hb).1
  refine ⟨setBlock w b (.map #[] clock), ?_, ⟨.map [], ⟨#[], clock, heap_setBlock_same hb _, ⟨by simp, MapKept.stamped_empty clock, by simp⟩, Nat.zero_le _, rfl⟩, fun _ _ => ⟨fun h => absurd rfl h, fun _ => rfl⟩⟩, ⟨rfl, rfl, rfl, by simp [setBlock], fun i _ hi => heap_setBlock_other hb _ (fun e => hi (by rw [e]))⟩⟩
  · intro ty
    simp [Builtin.clear_, run_underlying Tryz.underlying33, MapKept.run_getObj_map hb, MapKept.run_setObj_map _ hb, Result.andThen, setBlock]
def putL (x : Int) : List Int → List Int
  | [] => [x]
  | y :: r => if y < x then y :: putL x r else if y = x then y :: r else x :: y :: r
theorem putL_mem (x z : Int) : ∀ l : List Int, z ∈ putL x l ↔ z = x ∨ z ∈ l
  | [] => by simp [putL]
  | y :: r => by
    unfold putL
    split
    · rw [List.mem_cons, putL_mem x z r, List.mem_cons]
      constructor
      · rintro (h | h | h)
        · exact .inr (.inl h)
        · exact .inl h
        · exact .inr (.inr h)
      · rintro (h | h | h)
        · exact .inr (.inl h)
        · exact .inl h
        · exact .inr (.inr h)
    · split
      · rename_i h
        subst h
        simp
      · simp
theorem putL_strict (x : Int) : ∀ l : List Int, l.Pairwise (· < ·) → (putL x l).Pairwise (· < ·)
  | [], _ => by simp [putL]
  | y :: r, h => by
    rw [List.pairwise_cons] at h
    unfold putL
    split
    · rename_i hyx
      rw [List.pairwise_cons]
      refine ⟨fun z hz => ?_, putL_strict x r h.2⟩
      rcases (putL_mem x z r).1 hz with rfl | hz
      · exact hyx
      · exact h.1 z hz
    · split
      · rw [List.pairwise_cons]; exact h
      · rename_i h1 h2
        rw [List.pairwise_cons]
        refine ⟨fun z hz => ?_, by rw [List.pairwise_cons]; exact h⟩
        rcases List.mem_cons.1 hz with rfl | hz
        · omega
        · have := h.1 z hz
          omega
theorem strict_ext : ∀ (a b : List Int), a.Pairwise (· < ·) → b.Pairwise (· < ·) → (∀ x, x ∈ a ↔ x ∈ b) → a = b
  | [], [], _, _, _ => rfl
  | [], y :: r, _, _, h => by have := (h y).2 (by simp); cases this
  | x :: l, [], _, _, h => by have := (h x).1 (by simp); cases this
  | x :: l, y :: r, ha, hb, h => by
    rw [List.pairwise_cons] at ha hb
    have hxy : x = y := by
      rcases List.mem_cons.1 ((h x).1 (by simp)) with e | e
      · exact e
      · rcases List.mem_cons.1 ((h y).2 (by simp)) with e' | e'
        · exact e'.symm
        · have h1 := hb.1 x e
          have h2 := ha.1 y e'
          omega
    subst hxy
    congr 1
    refine strict_ext l r ha.2 hb.2 fun z => ⟨fun hz => ?_, fun hz => ?_⟩
    · rcases List.mem_cons.1 ((h z).1 (by simp [hz])) with e | e
      · have := ha.1 z hz
        omega
      · exact e
    · rcases List.mem_cons.1 ((h z).2 (by simp [hz])) with e | e
      · have := hb.1 z hz
        omega
      · exact e
theorem putAll_spec (l : List Int) : ∀ (acc : List Int), acc.Pairwise (· < ·) → (l.foldl (fun a x => putL x a) acc).Pairwise (· < ·) ∧ ∀ z, z ∈ l.foldl (fun a x => putL x a) acc ↔ z ∈ acc ∨ z ∈ l := by
  induction l with
  | nil => intro acc h; exact ⟨h, fun z => by simp⟩
  | cons x r ih =>
    intro acc h
    obtain ⟨h1, h2⟩ := ih (putL x acc) (putL_strict x acc h)
    refine ⟨h1, fun z => ?_⟩
    rw [List.foldl_cons, h2 z, putL_mem, List.mem_cons]
    constructor
    · rintro ((h | h) | h)
      · exact .inr (.inl h)
      · exact .inl h
      · exact .inr (.inr h)
    · rintro (h | h | h)
      · exact .inl (.inr h)
      · exact .inl (.inl h)
      · exact .inr h
end Go.Proofs.YtiagofgcinlnhaaGreatDoor
