/-
  Package chain's Refs. No statement is proved here.
-/
import Derived.Test.YtolbnkpakjdnnaaGreatDoorLinkWalk
import Derived.Test.YtolbnkpakjdnnaaGreatDoorLinkLay
namespace Go.Proofs.YtolbnkpakjdnnaaGreatDoor
open Go.RowKit

def firstC (K : KD) (t : Int) : LK := (chainR K t).1.headD LK.zero
def refsX (x : LK) (by_ : Int) : LK := { x with refs := x.refs + by_ }
/-- What Refs tells (the number, the error), and leaves. -/
def refsE (K : KD) (t by_ : Int) : Int × Int :=
  if (chainR K t).2 ≠ 0 then (0, (chainR K t).2)
  else if by_ < -(firstC K t).refs ∨ 60000 - (firstC K t).refs < by_ then (0, 15)
  else if setE K t (bs (refsX (firstC K t) by_).text) ≠ 0 then (0, setE K t (bs (refsX (firstC K t) by_).text)) else ((firstC K t).refs + by_, 0)
def refsK (K : KD) (t by_ : Int) : KD :=
  if (chainR K t).2 ≠ 0 then K
  else if by_ < -(firstC K t).refs ∨ 60000 - (firstC K t).refs < by_ then K
  else setK K t (bs (refsX (firstC K t) by_).text)
theorem readL_true {b : ByteArray} (h : (readL b).2 = true) : 1 ≤ (readL b).1.gen ∧ (readL b).1.gen ≤ 3 ∧ 0 ≤ (readL b).1.tag ∧ (readL b).1.tag ≤ 200 ∧ (readL b).1.refs ≤ 60000 ∧ (readL b).1.data.size ≤ 236 := by
  unfold readL at h ⊢
  split at h
  · cases h
  · rename_i he
    rw [if_neg he]
    have h : okR b = true := h
    unfold okR at h
    simp only [Bool.and_eq_true, decide_eq_true_eq] at h
    obtain ⟨⟨⟨⟨-, -⟩, h3⟩, h4⟩, h5⟩ := h
    have h3 := of_decide_eq_true h3
    exact ⟨h3.1, h3.2.1, h3.2.2.1, h3.2.2.2, h4, h5⟩
theorem num_lt (s : Rd) (k : Nat) : 0 ≤ (s.num k).1 ∧ (s.num k).1 < ((256 ^ k : Nat) : Int) := by
  have hp : 0 < 256 ^ k := Nat.pow_pos (by decide)
  unfold Rd.num
  cases ht : (s.take k).2.1 with
  | true =>
    have hsz := Rd.take_size ht
    have hl := low_lt (s.take k).1.data.toList
    rw [← Lib.size_eq, hsz] at hl
    simp only [if_true]
    split
    · constructor
      · exact Int.le_refl _
      · omega
    · constructor
      · omega
      · exact Int.ofNat_lt.2 hl
  | false =>
    simp only [Bool.false_eq_true, if_false]
    omega
theorem readL_nums (b : ByteArray) : (0 ≤ (readL b).1.num ∧ (readL b).1.num < 256) ∧ (0 ≤ (readL b).1.refs ∧ (readL b).1.refs < 65536) ∧ (0 ≤ (readL b).1.next ∧ (readL b).1.next < 65536) := by
  unfold readL
  split
  · exact ⟨⟨by decide, by decide⟩, ⟨by decide, by decide⟩, ⟨by decide, by decide⟩⟩
  · exact ⟨num_lt _ 1, num_lt _ 2, num_lt _ 2⟩
theorem walkC_links {G : Int → ByteArray × Int} : ∀ (n : Nat) (l : List LK) (t : Int), (∀ x ∈ l, x.Ok) → ∀ x ∈ (walkC G n l t).1, x.Ok
  | 0, l, t, _ => by intro x hx; cases hx
  | n + 1, l, t, h => by
    unfold walkC
    split
    · intro x hx; cases hx
    · split
      · intro x hx; cases hx
      · rename_i hno
        have hr : (readL (G t).1).2 = true := by
          cases hh : (readL (G t).1).2 with
          | true => rfl
          | false => exact absurd (.inl hh) hno
        have h2 : ∀ x ∈ l ++ [((readL (G t).1).1.put t)], x.Ok := by
          intro x hx
          rcases List.mem_append.1 hx with hx | hx
          · exact h x hx
          · rw [List.mem_singleton.1 hx]
            obtain ⟨a1, a2, a3, a4, a5, a6⟩ := readL_true hr
            obtain ⟨b1, b2, b3⟩ := readL_nums (G t).1
            exact ⟨⟨a1, a2, a3, a4⟩, b1, ⟨b2.1, a5⟩, b3, a6⟩
        split
        · exact h2
        · exact walkC_links n _ _ h2
theorem firstC_ok {K : KD} {t : Int} (he : (chainR K t).2 = 0) : (firstC K t).Ok ∧ (chainR K t).1[0]? = some (firstC K t) := by
  have hp := walkC_ok (getR K) 40 [] t he
  have hl := walkC_links (G := getR K) 40 [] t (fun x hx => by cases hx)
  unfold firstC
  cases hc : (chainR K t).1 with
  | nil =>
    have : (chainR K t).1 = (walkC (getR K) 40 [] t).1 := rfl
    rw [← this, hc] at hp
    exact absurd hp (by simp)
  | cons x r =>
    refine ⟨hl x ?_, rfl⟩
    show x ∈ (chainR K t).1
    rw [hc]
    simp
set_option maxRecDepth 100000 in
set_option maxHeartbeats 8000000 in
theorem crefs_any {w0 w : World} {g gd m N : Nat} {K : KD} {Ms : List MK} {h : List ByteArray} {c0 : Nat} (s : DMk w0 w g gd m N K Ms) (r : Run11 N K h c0) (hm : m < 1000000) {t0 by_ : Int} (ht : I64 t0) (hb : I64 by_) :
    Calls Tryz.prog 18 #[.pointer (some ⟨g, 0, none⟩), .int .i64 t0, .int .i64 by_] w fun e w' => e = .returned (.tuple #[.int .i64 (refsE K t0 by_).1, .int .i64 (refsE K t0 by_).2]) ∧ DMk w0 w' g gd (m + 1) N (refsK K t0 by_) Ms := by
  have HWK := Lib.hid (kwalk_any s.st r ht)
  have HS := Lib.hid s
  have HR := Lib.hid r
  have HM := Lib.hid hm
  have hfo := fun (he : (chainR K t0).2 = 0) => firstC_ok he
  obtain ⟨x, hx⟩ : ∃ x, x = firstC K t0 := ⟨_, rfl⟩
  obtain ⟨er, her⟩ : ∃ er, er = (chainR K t0).2 := ⟨_, rfl⟩
  have HE : Hid (refsE K t0 by_ = if er ≠ 0 then (0, er) else if by_ < -x.refs ∨ 60000 - x.refs < by_ then (0, 15) else if setE K t0 (bs (refsX x by_).text) ≠ 0 then (0, setE K t0 (bs (refsX x by_).text)) else (x.refs + by_, 0)) := Lib.hid (by rw [hx, her]; rfl)
  have HK : Hid (refsK K t0 by_ = if er ≠ 0 then K else if by_ < -x.refs ∨ 60000 - x.refs < by_ then K else setK K t0 (bs (refsX x by_).text)) := Lib.hid (by rw [hx, her]; rfl)
  rw [HE.out, HK.out]
  rw [← hx, ← her] at hfo
  obtain ⟨l, hl⟩ : ∃ l, l = (chainR K t0).1 := ⟨_, rfl⟩
  have hR : chainR K t0 = (l, er) := by rw [hl, her]
  rw [← hl] at hfo
  rw [hR] at HWK
  obtain ⟨n, hn⟩ : ∃ n, n = l.length := ⟨_, rfl⟩
  have HN := Lib.hid hn
  have HF := Lib.hid hfo
  obtain ⟨hb0, hb1⟩ := hb
  clear s r ht hx her HE HK hn hfo hl hR hm
  by_cases he : er = 0
  rotate_left
  · have z0 : (er == 0) = false := by simpa using he
    rw [if_pos he, if_pos he]
    clear he
    go_enter Tryz.func18, Tryz.ntmps18
    go_wp2_with fail
    refine HWK.out.mono ?_
    rintro e w1 ⟨A, c, rfl, -, hb1⟩
    have HS1 := Lib.hid (HS.out.below hb1)
    clear hb1
    go_wp2_with fail
    go_ret2
    exact ⟨rfl, HS1.out.mono (by omega)⟩
  subst he
  have hz0 : ¬ ((0 : Int) ≠ 0) := by simp
  rw [if_neg hz0, if_neg hz0]
  clear hz0
  obtain ⟨hxo, hx0⟩ := HF.out rfl
  have hnp : 0 < n := by
    rw [HN.out]
    rcases Nat.eq_zero_or_pos l.length with h0 | h0
    · rw [List.getElem?_eq_none (by omega)] at hx0; cases hx0
    · exact h0
  have hnpI : 0 < (n : Int) := by omega
  have hr0 := hxo.refs
  have HX0 := Lib.hid hx0
  have HWK2 : Hid (Calls Tryz.prog 59 #[.pointer (some ⟨g, 0, none⟩), .int .i64 t0] w fun e w' => ∃ b c, e = .returned (.tuple #[.slice (some ⟨b, 0, none⟩) n c, .int .i64 0]) ∧ LinkCells w' b 0 x ∧ Below w.heap.size w w') := Lib.hid (HWK.out.mono (fun e w1 ⟨A, c, he, hrow, hb1⟩ => by
    rw [show ((l, (0 : Int)).1.length) = n from HN.out.symm] at he hrow
    obtain ⟨b, rfl, hbb, hblt, hcel⟩ := links_cells hrow hnp
    have hc := hcel 0 x HX0.out
    rw [Nat.zero_mul] at hc
    exact ⟨b, c, he, hc, hb1⟩))
  have HXO := Lib.hid hxo
  obtain ⟨X0, hX0⟩ : ∃ X0, X0 = x := ⟨_, rfl⟩
  have HXE := Lib.hid hX0
  rw [← hX0] at HXO
  obtain ⟨gen, tag, num, refs, next, B, at_⟩ := x
  simp only at hr0 ⊢
  obtain ⟨r0, r1⟩ := hr0
  have q1 : IntKind.i64.wrap (-refs) = -refs := by rw [IntKind.wrap_i64]; omega
  have q2 : IntKind.i64.wrap (60000 - refs) = 60000 - refs := by rw [IntKind.wrap_i64]; omega
  clear hxo hx0 HF HWK HX0 HN hX0
  by_cases h1 : by_ < -refs
  · rw [if_pos (.inl h1), if_pos (.inl h1)]
    go_enter Tryz.func18, Tryz.ntmps18
    go_wp2_with fail
    refine HWK2.out.mono ?_
    rintro e w1 ⟨b, c, rfl, ⟨e0, e1, e2, e3, e4, e5, e6⟩, hb1⟩
    simp only [Nat.zero_add] at e0 e1 e2 e3 e4 e5 e6
    have HS1 := Lib.hid (HS.out.below (hb1.trans (((Below.refl w1.heap.size w1).alloc (Nat.le_refl _) (.cells #[.int .i64 gen, .int .i64 tag, .int .i64 num, .int .i64 refs, .int .i64 next, .string B, .int .i64 at_] 103)).mono hb1.size)))
    clear hb1
    go_wp2_with fail
    go_ret2
    exact ⟨rfl, HS1.out.mono (by omega)⟩
  by_cases h2 : 60000 - refs < by_
  · rw [if_pos (.inr h2), if_pos (.inr h2)]
    go_enter Tryz.func18, Tryz.ntmps18
    go_wp2_with fail
    refine HWK2.out.mono ?_
    rintro e w1 ⟨b, c, rfl, ⟨e0, e1, e2, e3, e4, e5, e6⟩, hb1⟩
    simp only [Nat.zero_add] at e0 e1 e2 e3 e4 e5 e6
    have HS1 := Lib.hid (HS.out.below (hb1.trans (((Below.refl w1.heap.size w1).alloc (Nat.le_refl _) (.cells #[.int .i64 gen, .int .i64 tag, .int .i64 num, .int .i64 refs, .int .i64 next, .string B, .int .i64 at_] 103)).mono hb1.size)))
    clear hb1
    go_wp2_with fail
    go_ret2
    exact ⟨rfl, HS1.out.mono (by omega)⟩
  have hno : ¬ (by_ < -refs ∨ 60000 - refs < by_) := by omega
  rw [if_neg hno, if_neg hno]
  obtain ⟨rr, hrr⟩ : ∃ rr, rr = refs + by_ := ⟨_, rfl⟩
  have q3 : IntKind.i64.wrap (refs + by_) = rr := by rw [IntKind.wrap_i64, hrr]; omega
  have HOK : Hid ((LK.mk gen tag num rr next B at_).Ok) := Lib.hid (by
    have k := HXO.out
    rw [HXE.out] at k
    exact ⟨k.fit, k.num, by show 0 ≤ rr ∧ rr ≤ 60000; omega, k.next, k.data⟩)
  have HLAY : Hid (∀ w1, Calls Tryz.prog 58 #[.agg #[.int .i64 gen, .int .i64 tag, .int .i64 num, .int .i64 rr, .int .i64 next, .string B, .int .i64 at_]] w1 fun e w' => e = .returned (.string (bs (LK.mk gen tag num rr next B at_).text)) ∧ Below w1.heap.size w1 w') := Lib.hid (fun w1 => lklay_any (LK.mk gen tag num rr next B at_) w1 HOK.out)
  have hre : refsX (LK.mk gen tag num refs next B at_) by_ = LK.mk gen tag num rr next B at_ := by rw [hrr]; rfl
  rw [hre, ← hrr]
  obtain ⟨X, hX⟩ : ∃ X, X = bs (LK.mk gen tag num rr next B at_).text := ⟨_, rfl⟩
  rw [← hX] at HLAY ⊢
  have HXS : Hid (X.size ≤ 100000) := Lib.hid (by rw [hX, bs_size, HOK.out.text_len]; omega)
  obtain ⟨se, hse⟩ : ∃ se, se = setE K t0 X := ⟨_, rfl⟩
  rw [← hse]
  have HSE := Lib.hid hse
  obtain ⟨K', hK'⟩ : ∃ K', K' = setK K t0 X := ⟨_, rfl⟩
  rw [← hK']
  have HKE := Lib.hid hK'
  have HSET : Hid (∀ w2 b o, DMk w0 w2 g gd m N K (.held b o :: Ms) → Calls Tryz.prog 28 #[.pointer (some ⟨g, 0, none⟩), .int .i64 t0, .string X] w2 fun e w' => e = .returned (.int .i64 se) ∧ DMk w0 w' g gd (m + 1) N K' (.held b o :: Ms)) := Lib.hid (fun w2 b o hs => by
    rw [HSE.out, HKE.out]
    exact dmk_set hs HR.out HM.out t0 HXS.out)
  clear hno hrr hre hX hse hK'
  have go : ∀ (Q : Ending → World → Prop), (∀ w3, DMk w0 w3 g gd (m + 1) N K' Ms → Q (.returned (.tuple #[.int .i64 (if se ≠ 0 then 0 else rr), .int .i64 se])) w3) → Calls Tryz.prog 18 #[.pointer (some ⟨g, 0, none⟩), .int .i64 t0, .int .i64 by_] w Q := by
    intro Q hQ
    have HQ := Lib.hid hQ
    clear hQ
    go_enter Tryz.func18, Tryz.ntmps18
    go_wp2_with fail
    refine HWK2.out.mono ?_
    rintro e w1 ⟨b, c, rfl, ⟨e0, e1, e2, e3, e4, e5, e6⟩, hb1⟩
    simp only [Nat.zero_add] at e0 e1 e2 e3 e4 e5 e6
    have HS1 := Lib.hid (HS.out.below hb1)
    clear hb1
    go_wp2_with fail
    refine (HLAY.out _).mono ?_
    rintro e w2 ⟨rfl, hb2⟩
    have HS2 : Hid (DMk w0 w2 g gd m N K (.held w1.heap.size (.cells #[.int .i64 gen, .int .i64 tag, .int .i64 num, .int .i64 rr, .int .i64 next, .string B, .int .i64 at_] 103) :: Ms)) := Lib.hid (by
      have h0 := HS1.out.hold (w' := w1.alloc (.cells #[.int .i64 gen, .int .i64 tag, .int .i64 num, .int .i64 rr, .int .i64 next, .string B, .int .i64 at_] 103)) ((Below.refl _ _).alloc (Nat.le_refl _) _) (Nat.le_refl _) (Blk.new w1 103 #[.int .i64 gen, .int .i64 tag, .int .i64 num, .int .i64 rr, .int .i64 next, .string B, .int .i64 at_])
      exact h0.below hb2)
    clear hb2 HS1 e0 e1 e2 e3 e4 e5 e6
    go_wp2_with fail
    refine (HSET.out _ _ _ HS2.out).mono ?_
    rintro e w3 ⟨rfl, hs3⟩
    have cm := Blk.cell (show Blk w3 w1.heap.size 103 #[.int .i64 gen, .int .i64 tag, .int .i64 num, .int .i64 rr, .int .i64 next, .string B, .int .i64 at_] from hs3.held (by simp)) 3
    simp at cm
    have HS3 : Hid (DMk w0 w3 g gd (m + 1) N K' Ms) := Lib.hid (hs3.less (fun M hM => by simp [hM]))
    clear hs3 HS2
    by_cases hz : se = 0
    · subst hz
      go_wp2_with fail
      have := HQ.out w3 HS3.out
      rw [if_neg (by simp)] at this
      exact this
    · have z0 : (se == 0) = false := by simpa using hz
      have HZ := Lib.hid hz
      clear hz
      go_wp2_with fail
      have := HQ.out w3 HS3.out
      rw [if_pos HZ.out] at this
      exact this
  refine go _ (fun w3 h3 => ⟨?_, h3⟩)
  by_cases hz : se = 0
  · rw [if_neg (by simp [hz]), if_neg (by simp [hz]), hz]
  · rw [if_pos hz, if_pos hz]
end Go.Proofs.YtolbnkpakjdnnaaGreatDoor
