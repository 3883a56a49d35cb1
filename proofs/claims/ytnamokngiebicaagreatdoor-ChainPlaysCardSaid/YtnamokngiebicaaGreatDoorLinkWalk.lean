/-
  Package chain's walk. No statement is proved here.
-/
import Derived.Test.YtnamokngiebicaaGreatDoorLinkRead
namespace Go.Proofs.YtnamokngiebicaaGreatDoor
open Go.RowKit

theorem Run11.getR_size {N : Nat} {K : KD} {h : List ByteArray} {c : Nat} (r : Run11 N K h c) (t : Int) : (getR K t).1.size ≤ 100000 := by
  unfold getR
  split
  · exact r.fsize t
  · split
    · show (K.S.read (111 + t)).size ≤ _
      unfold DS.read
      split
      · rw [List.getD_eq_getElem?_getD]
        rcases hx : K.S.now[(111 + t).toNat]? with _ | x
        · decide
        · exact r.small x (List.mem_of_getElem? hx)
      · decide
    · decide
theorem dst_getR {w0 w : World} {g gd m N : Nat} {K : KD} {h : List ByteArray} {c : Nat} (s : DSt w0 w g gd m K) (r : Run11 N K h c) {t : Int} (ht : I64 t) :
    Calls Tryz.prog 49 #[.pointer (some ⟨g, 0, none⟩), .int .i64 t] w fun e w' => e = .returned (.tuple #[.string (getR K t).1, .int .i64 (getR K t).2]) ∧ Below w.heap.size w w' := by
  obtain ⟨P, h1, h2, h3⟩ := s
  have hl := r.ok.len
  have hd := r.ok.dim
  exact kget_any t h1 r.bad r.up (by omega) (by omega) r.small (r.fsize _) ht
theorem walkC_step {G : Int → ByteArray × Int} {n : Nat} {l : List LK} {t : Int} {X : ByteArray} (hG : G t = (X, 0)) (hr : (readL X).2 = true) (hf : followsC (readL X).1 l = true) :
    walkC G (n + 1) l t = if (readL X).1.next = 0 then (l ++ [((readL X).1.put t)], 0) else walkC G n (l ++ [((readL X).1.put t)]) (readL X).1.next := by
  rw [walkC, hG, if_neg (by simp), if_neg (by simp [hr, hf])]
theorem walkC_no {G : Int → ByteArray × Int} {n : Nat} {l : List LK} {t : Int} {X : ByteArray} (hG : G t = (X, 0)) (h : (readL X).2 = false ∨ followsC (readL X).1 l = false) : walkC G (n + 1) l t = ([], 25) := by
  rw [walkC, hG, if_neg (by simp), if_pos h]
theorem walkC_err {G : Int → ByteArray × Int} {n : Nat} {l : List LK} {t : Int} {X : ByteArray} {e : Int} (hG : G t = (X, e)) (h : e ≠ 0) : walkC G (n + 1) l t = ([], e) := by
  rw [walkC, hG, if_pos h]
/-- What walk answers. -/
def WalkSays (w : World) (R : List LK × Int) (e : Ending) (w' : World) : Prop :=
  ∃ A c, e = .returned (.tuple #[.slice A R.1.length c, .int .i64 R.2]) ∧ w'.ownsRow w.heap.size 118 7 (.slice A R.1.length c) R.1.length (flatK R.1) ∧ Below w.heap.size w w'
theorem says_none {w w' : World} {e : Int} (hb : Below w.heap.size w w') : WalkSays w ([], e) (.returned (.tuple #[.slice none 0 0, .int .i64 e])) w' := ⟨none, 0, rfl, World.ownsRow_nil _ _ _ _, hb⟩
theorem first_at {w : World} {base n c : Nat} {p : Option Addr} {l : List LK} (h : w.ownsRow base 118 7 (.slice p n c) n (flatK l)) (hl : l.length = n) : FirstAt w p l := by
  intro x hx
  have hn : 0 < n := by
    rcases Nat.eq_zero_or_pos n with h0 | h0
    · rw [List.getElem?_eq_none (by omega)] at hx; cases hx
    · exact h0
  obtain ⟨g, e, _, hlt, hc⟩ := links_cells h hn
  have := hc 0 x hx
  exact ⟨g, e, hlt, by simpa using this.c0, by simpa using this.c1⟩
set_option maxRecDepth 100000 in
set_option maxHeartbeats 8000000 in
theorem kwalk_any {w0 w : World} {g gd m N : Nat} {K : KD} {h : List ByteArray} {c : Nat} (s : DSt w0 w g gd m K) (r : Run11 N K h c) {t0 : Int} (ht : I64 t0) :
    Calls Tryz.prog 78 #[.pointer (some ⟨g, 0, none⟩), .int .i64 t0] w fun e w' => WalkSays w (chainR K t0) e w' := by
  obtain ⟨i0, hi, hz0, hz1, hz2⟩ := info_parts link_info
  have HI : Hid (Tryz.prog.info? 118 = some i0 ∧ i0.zero = some (.agg #[.int .i64 0, .int .i64 0, .int .i64 0, .int .i64 0, .int .i64 0, .string .empty, .int .i64 0]) ∧ i0.size = 7 ∧ i0.bytes = 64) := Lib.hid ⟨hi, hz0, hz1, hz2⟩
  have HGET : Hid (∀ (w1 : World) (t : Int), Below w.heap.size w w1 → I64 t → Calls Tryz.prog 49 #[.pointer (some ⟨g, 0, none⟩), .int .i64 t] w1 fun e w' => e = .returned (.tuple #[.string (getR K t).1, .int .i64 (getR K t).2]) ∧ Below w1.heap.size w1 w') := Lib.hid (fun w1 t hb ht => dst_getR (s.below hb) r ht)
  have HZ := Lib.hid r.getR_size
  have HT := Lib.hid ht
  clear hi hz0 hz1 hz2 s r ht
  go_enter Tryz.func78, Tryz.ntmps78
  go_wp2_with fail
  go_loopw [1, 6, 11] (fun a v i wr => ∃ (j : Nat) (l : List LK) (t : Int), j ≤ 40 ∧ i = .int .i64 j ∧ a = .int .i64 t ∧ I64 t ∧ l.length = j ∧ wr.ownsRow w.heap.size 118 7 v j (flatK l) ∧ Below w.heap.size w wr ∧ chainR K t0 = walkC (getR K) (40 - j) l t) (fun _ _ i _ => 40 - (intOf i).toNat)
  case atStart => exact ⟨0, [], t0, by omega, rfl, rfl, HT.out, rfl, World.ownsRow_nil _ _ _ _, Below.refl _ _, rfl⟩
  case round =>
    obtain ⟨j, l, t, hj, rfl, rfl, ht, hl, hrow, hb, hw⟩ := hrel
    obtain ⟨p, cap, rfl, -⟩ := row_slice' hrow
    have HL := Lib.hid hl
    have HROW := Lib.hid hrow
    have HB := Lib.hid hb
    have HW := Lib.hid hw
    have HTT := Lib.hid ht
    clear hl hrow hb hw ht
    by_cases hlt : j < 40
    rotate_left
    · obtain rfl : j = 40 := by omega
      have HE : Hid (chainR K t0 = ([], 25)) := Lib.hid (by rw [HW.out]; rfl)
      go_wp2_with fail
      go_ret2
      rw [HE.out]
      exact says_none HB.out
    have hjI : (j : Int) < 40 := by omega
    obtain ⟨n, hn⟩ : ∃ n, 40 - j = n + 1 := ⟨40 - j - 1, by omega⟩
    obtain ⟨X, hX⟩ : ∃ X, X = (getR K t).1 := ⟨_, rfl⟩
    obtain ⟨er, her⟩ : ∃ er, er = (getR K t).2 := ⟨_, rfl⟩
    have HG := Lib.hid (HGET.out wr t HB.out HTT.out)
    rw [← hX, ← her] at HG
    have HXS : Hid (X.size ≤ 100000) := Lib.hid (by rw [hX]; exact HZ.out t)
    have HGE : Hid (getR K t = (X, er)) := Lib.hid (by rw [hX, her])
    have HNN := Lib.hid hn
    have HLT := Lib.hid hlt
    clear hX her hn hlt
    go_wp2_with fail
    refine HG.out.mono ?_
    rintro e w2 ⟨rfl, hb2⟩
    have HB2 : Hid (Below w.heap.size w w2) := Lib.hid (HB.out.trans (hb2.mono HB.out.size))
    have HROW2 := Lib.hid (row_below HROW.out hb2)
    clear hb2 HG HROW
    by_cases he : er = 0
    rotate_left
    · have HE : Hid (chainR K t0 = ([], er)) := Lib.hid (by rw [HW.out, HNN.out]; exact walkC_err HGE.out he)
      have z0 : (er == 0) = false := by simpa using he
      clear he
      go_wp2_with fail
      go_ret2
      rw [HE.out]
      exact says_none HB2.out
    subst he
    obtain ⟨x, hx⟩ : ∃ x, x = (readL X).1 := ⟨_, rfl⟩
    obtain ⟨ok, hok⟩ : ∃ ok, ok = (readL X).2 := ⟨_, rfl⟩
    have HRD := Lib.hid (lkread_any X w2 HXS.out)
    rw [← hx, ← hok] at HRD
    have HXE := Lib.hid hx
    have HOK := Lib.hid hok
    have HDS : Hid (x.data.size ≤ 100000) := Lib.hid (by rw [hx]; exact Nat.le_trans (readL_data X) HXS.out)
    have HNX : Hid (0 ≤ x.next ∧ x.next ≤ 9223372036854775807) := Lib.hid (by rw [hx]; exact readL_next X)
    have HFO : Hid (∀ w1, Below w2.heap.size w2 w1 → Calls Tryz.prog 124 #[x.val, .slice p j cap] w1 fun e w' => e = .returned (.bool (followsC x l)) ∧ Below w1.heap.size w1 w') := Lib.hid (fun w1 hb => lkfollows_any x p j cap l w1 HL.out (first_at (row_below HROW2.out hb) HL.out) (by have := HLT.out; omega) HDS.out)
    obtain ⟨fo, hfo⟩ : ∃ fo, fo = followsC x l := ⟨_, rfl⟩
    rw [← hfo] at HFO
    have HFE := Lib.hid hfo
    obtain ⟨gen, tag, num, refs, next, B, at_⟩ := x
    have hval : (LK.mk gen tag num refs next B at_).val = .agg #[.int .i64 gen, .int .i64 tag, .int .i64 num, .int .i64 refs, .int .i64 next, .string B, .int .i64 at_] := rfl
    rw [hval] at HRD HFO
    simp only at HNX HDS
    clear hx hok hfo hval
    go_wp2_with fail
    refine HRD.out.mono ?_
    rintro e w3 ⟨rfl, hb3⟩
    have HB3 : Hid (Below w.heap.size w w3) := Lib.hid (HB2.out.trans (hb3.mono HB2.out.size))
    have HB23 : Hid (Below w2.heap.size w2 w3) := Lib.hid hb3
    have HROW3 := Lib.hid (row_below HROW2.out hb3)
    clear hb3 HRD
    cases ok with
    | false =>
      have HE : Hid (chainR K t0 = ([], 25)) := Lib.hid (by rw [HW.out, HNN.out]; exact walkC_no HGE.out (.inl HOK.out.symm))
      go_wp2_with fail
      go_ret2
      rw [HE.out]
      exact says_none (HB3.out.alloc HB3.out.size _)
    | true =>
    have HB4 : Hid (Below w2.heap.size w2 (w3.alloc (.cells #[.int .i64 gen, .int .i64 tag, .int .i64 num, .int .i64 refs, .int .i64 next, .string B, .int .i64 at_] 118))) := Lib.hid (HB23.out.alloc HB23.out.size _)
    have HK4 : Hid (Blk (w3.alloc (.cells #[.int .i64 gen, .int .i64 tag, .int .i64 num, .int .i64 refs, .int .i64 next, .string B, .int .i64 at_] 118)) w3.heap.size 118 #[.int .i64 gen, .int .i64 tag, .int .i64 num, .int .i64 refs, .int .i64 next, .string B, .int .i64 at_]) := Lib.hid (Blk.new _ _ _)
    have HB4w : Hid (Below w.heap.size w (w3.alloc (.cells #[.int .i64 gen, .int .i64 tag, .int .i64 num, .int .i64 refs, .int .i64 next, .string B, .int .i64 at_] 118))) := Lib.hid (HB3.out.alloc HB3.out.size _)
    have HROW4 : Hid ((w3.alloc (.cells #[.int .i64 gen, .int .i64 tag, .int .i64 num, .int .i64 refs, .int .i64 next, .string B, .int .i64 at_] 118)).ownsRow w.heap.size 118 7 (.slice p j cap) j (flatK l)) := Lib.hid (HROW3.out.alloc _)
    obtain ⟨W4, hW4⟩ : ∃ W4, W4 = w3.alloc (.cells #[.int .i64 gen, .int .i64 tag, .int .i64 num, .int .i64 refs, .int .i64 next, .string B, .int .i64 at_] 118) := ⟨_, rfl⟩
    obtain ⟨g9, hg9⟩ : ∃ g9, g9 = w3.heap.size := ⟨_, rfl⟩
    have HG9 := Lib.hid hg9
    have HG9B : Hid (w.heap.size ≤ g9) := Lib.hid (by rw [hg9]; exact HB3.out.size)
    have HAP : Hid (∀ k, (Value.slice p j cap).ownBlock = some k → k ≠ g9) := Lib.hid (fun k hk => by have := (HROW3.out.lt k hk).2; rw [hg9]; omega)
    rw [← hg9, ← hW4] at HK4
    rw [← hW4] at HB4 HB4w HROW4
    have HW4 := Lib.hid hW4
    clear hW4 hg9 HROW3 HROW2 HB3 HB23
    have HFOL := Lib.hid (HFO.out _ HB4.out)
    rw [HW4.out] at HFOL
    cases fo with
    | false =>
      have HE : Hid (chainR K t0 = ([], 25)) := Lib.hid (by rw [HW.out, HNN.out]; exact walkC_no HGE.out (.inr (by rw [← HXE.out]; exact HFE.out.symm)))
      go_wp2_with fail
      refine HFOL.out.mono ?_
      rintro e w5 ⟨rfl, hb5⟩
      rw [← HW4.out] at hb5
      go_wp2_with fail
      go_ret2
      rw [HE.out]
      exact says_none (HB4w.out.trans (hb5.mono HB4w.out.size))
    | true =>
    go_wp2_with fail
    refine HFOL.out.mono ?_
    rintro e w5 ⟨rfl, hb5⟩
    rw [← HW4.out] at hb5
    rw [← HG9.out]
    have HB5 : Hid (Below w.heap.size w w5) := Lib.hid (HB4w.out.trans (hb5.mono HB4w.out.size))
    have HK5 := Lib.hid (HK4.out.below hb5 HK4.out.lt)
    have HROW5 := Lib.hid (row_below HROW4.out hb5)
    have HSTEP : Hid (chainR K t0 = if next = 0 then (l ++ [⟨gen, tag, num, refs, next, B, t⟩], 0) else walkC (getR K) n (l ++ [⟨gen, tag, num, refs, next, B, t⟩]) next) := Lib.hid (by
      have e := walkC_step (n := n) (l := l) HGE.out HOK.out.symm (by rw [← HXE.out]; exact HFE.out.symm)
      rw [← HXE.out] at e
      rw [HW.out, HNN.out]
      exact e)
    clear hb5 HFOL HFO HK4 HROW4 HB4 HB4w HW4 HG9 HGE HOK HXE HFE
    have HK6 : Hid (Blk (w5.setCell ⟨g9, 6, none⟩ (.int .i64 t)) g9 118 #[.int .i64 gen, .int .i64 tag, .int .i64 num, .int .i64 refs, .int .i64 next, .string B, .int .i64 t]) := Lib.hid (HK5.out.put 6 _)
    have HB6 : Hid (Below w.heap.size w (w5.setCell ⟨g9, 6, none⟩ (.int .i64 t))) := Lib.hid (HB5.out.setCell HG9B.out _)
    have HROW6 : Hid ((w5.setCell ⟨g9, 6, none⟩ (.int .i64 t)).ownsRow w.heap.size 118 7 (.slice p j cap) j (flatK l)) := Lib.hid (row_kept' HROW5.out (fun k hk => Below.heap_setCell _ _ _ _ (HAP.out k hk)))
    obtain ⟨W6, hW6⟩ : ∃ W6, W6 = w5.setCell ⟨g9, 6, none⟩ (.int .i64 t) := ⟨_, rfl⟩
    rw [← hW6] at HK6 HB6 HROW6
    have hs6 : W6.heap.size = w5.heap.size := by rw [hW6]; simp [World.setCell]
    have HW6 := Lib.hid hW6
    clear hW6
    have c5_0 := HK5.out.cell 0
    have c5_1 := HK5.out.cell 1
    have c5_2 := HK5.out.cell 2
    have c5_3 := HK5.out.cell 3
    have c5_4 := HK5.out.cell 4
    have c5_5 := HK5.out.cell 5
    have c5_6 := HK5.out.cell 6
    have f5_6 := HK5.out.frozen 6
    simp at c5_0 c5_1 c5_2 c5_3 c5_4 c5_5 c5_6
    have HA6 := Lib.hid (HROW6.out.alloc (.cells #[.int .i64 gen, .int .i64 tag, .int .i64 num, .int .i64 refs, .int .i64 next, .string B, .int .i64 t] 118))
    have HN6 : Hid (∀ (i : Nat) (u : Value), (LK.mk gen tag num refs next B t).vals[i]? = some u → (W6.alloc (.cells #[.int .i64 gen, .int .i64 tag, .int .i64 num, .int .i64 refs, .int .i64 next, .string B, .int .i64 t] 118)).cell? ((⟨w5.heap.size, 0, none⟩ : Addr).add i) = some u) := Lib.hid (by
      intro i u hu
      rw [← hs6]
      rw [Go.WideShapes.add_plain, Nat.zero_add]
      have := (Blk.new W6 118 #[.int .i64 gen, .int .i64 tag, .int .i64 num, .int .i64 refs, .int .i64 next, .string B, .int .i64 t]).cell i
      rw [this]
      simpa [LK.vals] using hu)
    have HSZ : Hid (w.heap.size ≤ (W6.alloc (.cells #[.int .i64 gen, .int .i64 tag, .int .i64 num, .int .i64 refs, .int .i64 next, .string B, .int .i64 t] 118)).heap.size) := Lib.hid (by have := HB6.out.size; simp; omega)
    have HK7 : Hid (Blk (W6.alloc (.cells #[.int .i64 gen, .int .i64 tag, .int .i64 num, .int .i64 refs, .int .i64 next, .string B, .int .i64 t] 118)) g9 118 #[.int .i64 gen, .int .i64 tag, .int .i64 num, .int .i64 refs, .int .i64 next, .string B, .int .i64 t]) := Lib.hid (HK6.out.alloc _)
    rw [HW6.out] at HA6 HN6 HSZ HK7
    clear hs6
    have HLJ : Hid (j < 40) := HLT
    have HB7f : Hid (∀ w7, (((w5.setCell ⟨g9, 6, none⟩ (.int .i64 t)).alloc (.cells #[.int .i64 gen, .int .i64 tag, .int .i64 num, .int .i64 refs, .int .i64 next, .string B, .int .i64 t] 118)).grownBy w7 (Value.slice p j cap).ownBlock) → Below w.heap.size w w7) := Lib.hid (fun w7 hg => by
      have hb : Below w.heap.size w ((w5.setCell ⟨g9, 6, none⟩ (.int .i64 t)).alloc (.cells #[.int .i64 gen, .int .i64 tag, .int .i64 num, .int .i64 refs, .int .i64 next, .string B, .int .i64 t] 118)) := by rw [← HW6.out]; exact HB6.out.alloc HB6.out.size _
      exact hb.grown hg HSZ.out (fun k hk => (World.ownsRow.lt HA6.out k hk).1))
    have HEN : Hid (flatK l ++ (LK.mk gen tag num refs next B t).vals = flatK (l ++ [LK.mk gen tag num refs next B t])) := Lib.hid (flatK_snoc _ _).symm
    have HT1 : Hid (∀ (ops : Array Oper) (rest : List Oper) (o : Oper) (a : Act) (Q : Exit → Act → World → Prop) (s x : Operand), o.guard = none → o.op = .call { callee := .builtin .append, args := #[s, x], argTypes := #[120, 120] } → a.eval s = .slice p j cap → a.eval x = .slice (some ⟨w5.heap.size, 0, none⟩) 1 1 → (∀ v' w', w'.ownsRow w.heap.size 118 7 v' (j + 1) (flatK l ++ (LK.mk gen tag num refs next B t).vals) → ((w5.setCell ⟨g9, 6, none⟩ (.int .i64 t)).alloc (.cells #[.int .i64 gen, .int .i64 tag, .int .i64 num, .int .i64 refs, .int .i64 next, .string B, .int .i64 t] 118)).grownBy w' (Value.slice p j cap).ownBlock → w'.cell? ⟨g9, 4, none⟩ = some (.int .i64 next) → wpList Tryz.prog ops Q rest (a.put o.dst v') w') → wpList Tryz.prog ops Q (o :: rest) a ((w5.setCell ⟨g9, 6, none⟩ (.int .i64 t)).alloc (.cells #[.int .i64 gen, .int .i64 tag, .int .i64 num, .int .i64 refs, .int .i64 next, .string B, .int .i64 t] 118))) := Lib.hid (by
      intro ops rest o a Q s x hgd ho hs hx hK
      refine wpList_append_own _ hgd s x 120 ho w.heap.size 118 i0 (.agg #[.int .i64 0, .int .i64 0, .int .i64 0, .int .i64 0, .int .i64 0, .string .empty, .int .i64 0]) 7 64 Tryz.underlying120 HI.out.1 HI.out.2.1 HI.out.2.2.1 HI.out.2.2.2 rfl (by omega) _ _ _ hs HA6.out ⟨w5.heap.size, 0, none⟩ 1 1 (LK.mk gen tag num refs next B t).vals hx rfl HN6.out (LK.vals_one _) (by have := HLJ.out; unfold maxLen; omega) (by have := HLJ.out; omega) HSZ.out (fun v' w' h1 h2 _ => hK v' w' h1 h2 ?_)
      have := (HK7.out.grown h2 (fun e => HAP.out _ e.symm rfl)).cell 4
      simpa using this)
    by_cases hnx : next = 0
    · subst hnx
      have HSE : Hid (chainR K t0 = (l ++ [⟨gen, tag, num, refs, 0, B, t⟩], 0)) := Lib.hid (by rw [HSTEP.out, if_pos rfl])
      go_wp2_with (at_builtin; refine HT1.out _ _ _ _ _ _ _ rfl rfl rfl rfl ?_; intro v1 w7 hown1 hg1 c8; have HO7 := Lib.hid hown1; have HG7 := Lib.hid hg1; clear hown1 hg1)
      obtain ⟨p7, c7, rfl, -⟩ := row_slice' HO7.out
      go_ret2
      rw [HSE.out]
      have hlen : (l ++ [LK.mk gen tag num refs 0 B t]).length = j + 1 := by rw [List.length_append, HL.out]; rfl
      have hr := HO7.out
      rw [HEN.out] at hr
      exact ⟨p7, c7, by rw [hlen]; rfl, by rw [hlen]; exact hr, HB7f.out _ HG7.out⟩
    · have z1 : (next == 0) = false := by simpa using hnx
      have HSE : Hid (chainR K t0 = walkC (getR K) n (l ++ [⟨gen, tag, num, refs, next, B, t⟩]) next) := Lib.hid (by rw [HSTEP.out, if_neg hnx])
      clear hnx
      go_wp2_with (at_builtin; refine HT1.out _ _ _ _ _ _ _ rfl rfl rfl rfl ?_; intro v1 w7 hown1 hg1 c8; have HO7 := Lib.hid hown1; have HG7 := Lib.hid hg1; clear hown1 hg1)
      have hr := HO7.out
      rw [HEN.out] at hr
      have HR7 := Lib.hid hr
      clear hr
      refine ⟨⟨j + 1, l ++ [⟨gen, tag, num, refs, next, B, t⟩], next, HLT.out, by go_num, rfl, ⟨by have := HNX.out.1; omega, HNX.out.2⟩, by rw [List.length_append, HL.out]; rfl, HR7.out, HB7f.out _ HG7.out, by rw [HSE.out, show 40 - (j + 1) = n by have := HNN.out; omega]⟩, ?_⟩
      have := HLT.out
      simp [intOf]
      omega
end Go.Proofs.YtnamokngiebicaaGreatDoor
