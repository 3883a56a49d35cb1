/-
  masonrybook's growSpans. No statement is proved here.
-/
import Derived.Test.YtkcjiogackkecaaSpanPut
import Derived.ArgAppend
import Derived.Deep.AppendLies
namespace Go.Proofs.Ytkcjiogackkecaa
open Go.RowKit

/-- An append to a row of one's own: in place, or in a new block with all else as it was. -/
theorem run_append_twoS {P : Program} (w : World) (t ty : TypeId) (base : Nat) (e : TypeId) (i : TypeInfo) (z : Value) (bytes : Nat) (ht : P.underlying t = some (.slice e)) (hi : P.info? e = some i) (hz : i.zero = some z)
    (hsize : i.size = 2) (hby : i.bytes = bytes) (hzs : z.cells.size = 2)
    (v : Value) (n : Nat) (xs : List Value) (hown : w.ownsRow base e 2 v n xs)
    (ad : Addr) (m c : Nat) (news : List Value) (hl : news.length = m * 2) (hnews : ∀ j u, news[j]? = some u → w.cell? (ad.add j) = some u) (h1 : ∀ u ∈ news, u.oneCell' = true)
    (hm : 0 < m) (h63 : n + m ≤ maxLen) (hbytes : (n + m) * bytes ≤ 140737488355328) (hbase : base ≤ w.heap.size) :
    ∃ g cap w', (Builtin.append_ #[t, t] ty #[v, .slice (some ad) m c]).run P w = .ok (.slice (some ⟨g, 0, none⟩) (n + m) cap) w' ∧
      w'.ownsRow base e 2 (.slice (some ⟨g, 0, none⟩) (n + m) cap) (n + m) (xs ++ news) ∧ g < w'.heap.size ∧ ((v.ownBlock = some g ∧ w.grownBy w' (some g)) ∨ (w.heap.size ≤ g ∧ w.grownBy w' none)) := by
  obtain ⟨g, cap, w', hr, h2, h3, h4, h5⟩ := run_append_lies (P := P) w t ty base e i z 2 bytes ht hi hz hsize hby hzs (by omega) v n xs hown ad m c news (by omega) hnews h1 hm h63 hbytes hbase _ rfl
  refine ⟨g, cap, w', hr, h2, h5, ?_⟩
  rcases hown.2 with ⟨rfl, rfl⟩ | ⟨g0, cap0, cur, rfl, hbg, hg, hnc, hcm, hcs, htake⟩
  · right
    rcases h4 with h4 | h4
    · cases h4
    · exact ⟨Nat.le_of_eq h4.symm, h3⟩
  · have hb0 : Blk w g0 e cur := hg
    by_cases hroom : n + m ≤ cap0
    · left
      have hr' := run_append_room_cells (P := P) w t ty e i ht hi g0 0 n cap0 ad m c news (by rw [hsize]; omega) hnews h1 hroom (fun j hj => by
        rw [hb0.cell]
        rw [hsize]
        have hlt : 0 + n * 2 + j < cur.size := by omega
        rw [Array.getElem?_eq_getElem hlt]
        rfl) (fun j hj => hb0.frozen _)
      rw [hr] at hr'
      injection hr' with e1 e2
      injection e1 with e1 _ _
      injection e1 with e1
      injection e1 with e1 _ _
      subst e1
      exact ⟨rfl, h3⟩
    · right
      obtain ⟨v', w'', hr', ho, hgb⟩ := run_append_arg_grows (P := P) w t ty e i z 2 bytes ht hi hz hsize hby hzs (by omega) ⟨g0, 0, none⟩ n cap0 xs hown.1 (hown.cells (g := g0) rfl) ad m c news (by omega) hnews (by omega) h63 hbytes
      rw [hr] at hr'
      injection hr' with e1 e2
      subst e1
      subst e2
      exact ⟨(ho.lt g rfl).1, hgb⟩

/-- A kept list that is grown: its value now, by t marks more than z's n. -/
structure GrowAtS (w1 w : World) (B : Nat) (z : LS) (i n t : Nat) (v : Value) : Prop where
  row : w.ownsRow B 36 2 v (n + t) (flatS (marksS i 0 (n + t)))
  place : v.ownBlock = z.val.ownBlock ∨ ∃ b, v.ownBlock = some b ∧ w1.heap.size ≤ b
  zspans : Spans w w.heap.size z.A z.xs
  kept : KeptS [z] B w1 w
theorem freeS_one {z : LS} {b : Nat} (h : z.val.ownBlock ≠ some b) : FreeS [z] b := fun l hl => by rw [List.mem_singleton.1 hl]; exact h
theorem GrowAtS.below {w1 w w' : World} {B : Nat} {z : LS} {i n t : Nat} {v : Value} (h : GrowAtS w1 w B z i n t v) (hB : B ≤ w.heap.size) (hb : Below w.heap.size w w') : GrowAtS w1 w' B z i n t v :=
  ⟨row_kept' h.row fun k hk => hb.block k (h.row.lt k hk).2, h.place, (h.zspans.below hb).more hb.size, h.kept.more hB hb⟩
theorem KeptS.by_own {ls : List LS} {B g : Nat} {w w' w'' : World} (h : KeptS ls B w w') (hg : w'.grownBy w'' (some g)) (hB : B ≤ g) (hB' : B ≤ w'.heap.size) (ho : (∃ l ∈ ls, l.val.ownBlock = some g) ∨ w.heap.size ≤ g) : KeptS ls B w w'' :=
  ⟨h.below.grown hg hB' (fun q e => by injection e with e; omega), fun b h1 h2 => (hg.block b (Nat.lt_of_lt_of_le h1 h.below.size) (fun e => by
    injection e with e
    subst e
    rcases ho with ⟨l, hl, hl2⟩ | ho
    · exact h2 l hl hl2
    · omega)).trans (h.block b h1 h2)⟩
theorem KeptS.by_none {ls : List LS} {B : Nat} {w w' w'' : World} (h : KeptS ls B w w') (hg : w'.grownBy w'' none) (hB' : B ≤ w'.heap.size) : KeptS ls B w w'' :=
  ⟨h.below.grown hg hB' (fun q e => by cases e), fun b h1 h2 => (hg.block b (Nat.lt_of_lt_of_le h1 h.below.size) (fun e => by cases e)).trans (h.block b h1 h2)⟩
/-- So many marks more. -/
theorem GrowAtS.append {w1 w w' : World} {B : Nat} {z : LS} {i n t m g cap : Nat} {v : Value} (h : GrowAtS w1 w B z i n t v) (hB : B ≤ w.heap.size) (hz : z.xs = marksS i 0 n) (hz0 : ∀ a, z.A = some a → a = ⟨a.block, 0, none⟩)
    (hrow : w'.ownsRow B 36 2 (.slice (some ⟨g, 0, none⟩) (n + t + m) cap) (n + t + m) (flatS (marksS i 0 (n + t)) ++ flatS (marksS i (n + t) m)))
    (hw : (v.ownBlock = some g ∧ w.grownBy w' (some g)) ∨ (w.heap.size ≤ g ∧ w.grownBy w' none)) : GrowAtS w1 w' B z i n (t + m) (.slice (some ⟨g, 0, none⟩) (n + (t + m)) cap) := by
  have hmk : flatS (marksS i 0 (n + t)) ++ flatS (marksS i (n + t) m) = flatS (marksS i 0 (n + t + m)) := by
    rw [← flatS_append]
    congr 1
    have := marksS_append i 0 (n + t) m
    rwa [Nat.zero_add] at this
  rw [hmk] at hrow
  have hsz : w.heap.size ≤ w'.heap.size := by rcases hw with ⟨_, h⟩ | ⟨_, h⟩ <;> exact h.size
  rw [show n + (t + m) = n + t + m by omega]
  refine ⟨by rw [show n + (t + m) = n + t + m by omega]; exact hrow, ?_, ?_, ?_⟩
  · rcases hw with ⟨h1, _⟩ | ⟨h1, _⟩
    · rcases h.place with h2 | ⟨b, h2, h3⟩
      · left; rw [← h2, h1]; rfl
      · right; exact ⟨b, by rw [← h2, h1]; rfl, h3⟩
    · right; exact ⟨g, rfl, Nat.le_trans h.kept.below.size h1⟩
  · intro hp
    obtain ⟨b, off, e, hb, hc⟩ := h.zspans hp
    refine ⟨b, off, e, Nat.lt_of_lt_of_le hb hsz, fun j x hx => ?_⟩
    have hx' := hx
    rw [hz] at hx'
    have hjn : j < n := by
      rcases Nat.lt_or_ge j n with h | h
      · exact h
      · rw [List.getElem?_eq_none (by rw [marksS_length]; exact h)] at hx'; cases hx'
    rw [marksS_get hjn] at hx'
    by_cases hgb : g = b
    · subst hgb
      have ho := hz0 _ e
      injection ho with _ ho _
      subst ho
      have h2 := flatS_get (marksS_get (show j < n + t + m by omega) : (marksS i 0 (n + t + m))[j]? = _)
      rw [Nat.mul_comm 2 j] at h2
      injection hx' with hx'
      rw [← hx']
      simp only [Nat.zero_add] at h2 ⊢
      exact ⟨krow_cell hrow h2.1, krow_cell hrow h2.2⟩
    · have hbk : w'.heap[b]? = w.heap[b]? := by
        rcases hw with ⟨_, h'⟩ | ⟨_, h'⟩
        · exact h'.block b hb (fun e => by injection e with e; exact hgb e.symm)
        · exact h'.block b hb (fun e => by cases e)
      exact ⟨(World.cell?_of_block (w := w) hbk).trans (hc j x hx).1, (World.cell?_of_block (w := w) hbk).trans (hc j x hx).2⟩
  · rcases hw with ⟨h1, h2⟩ | ⟨_, h2⟩
    · refine h.kept.by_own h2 ((h.row.lt g h1).1) hB ?_
      rcases h.place with h3 | ⟨b, h3, h4⟩
      · left; exact ⟨z, List.mem_singleton.2 rfl, by rw [← h3, h1]⟩
      · right
        rw [h1] at h3
        injection h3 with h3
        omega
    · exact h.kept.by_none h2 hB
end Go.Proofs.Ytkcjiogackkecaa

namespace Go.Proofs.Ytkcjiogackkecaa
open Go.RowKit

/-- So many of the kept lists are grown. -/
structure GrowStS (w wr : World) (B : Nat) (zs gs : List LS) (i : Nat) : Prop where
  len : gs.length = i
  rows : ∀ (a : Nat) (l : LS), gs[a]? = some l → wr.ownsRow B 36 2 l.val l.xs.length (flatS l.xs) ∧ l.xs = marksS a 0 l.xs.length ∧ l.xs.length ≤ 1000000 ∧ ((∃ z, zs[a]? = some z ∧ l.val.ownBlock = z.val.ownBlock) ∨ ∃ b, l.val.ownBlock = some b ∧ w.heap.size ≤ b)
  left : ∀ (a : Nat) (z : LS), zs[a]? = some z → i ≤ a → wr.ownsRow B 36 2 z.val z.xs.length (flatS z.xs)
  zspans : ∀ (a : Nat) (z : LS), zs[a]? = some z → Spans wr wr.heap.size z.A z.xs
  kept : KeptS zs B w wr
theorem spans_blocks {w w' : World} {A : Option Addr} {xs : List (Int × Int)} (h : Spans w w.heap.size A xs) (hs : w.heap.size ≤ w'.heap.size) (hb : ∀ b off, A = some ⟨b, off, none⟩ → b < w.heap.size → w'.heap[b]? = w.heap[b]?) : Spans w' w'.heap.size A xs := fun hp => by
  obtain ⟨b, off, e, hbl, hc⟩ := h hp
  exact ⟨b, off, e, Nat.lt_of_lt_of_le hbl hs, fun j x hx => ⟨(World.cell?_of_block (w := w) (hb b off e hbl)).trans (hc j x hx).1, (World.cell?_of_block (w := w) (hb b off e hbl)).trans (hc j x hx).2⟩⟩
theorem GrowStS.start {w : World} {B : Nat} {zs : List LS} (hr : RowsS w B zs) (hz : ∀ (a : Nat) (z : LS), zs[a]? = some z → Spans w w.heap.size z.A z.xs) : GrowStS w w B zs [] 0 :=
  ⟨rfl, fun a l h => by simp at h, fun a z h _ => hr.own a z h, hz, KeptS.refl _ _ _⟩
/-- One more is grown. -/
theorem GrowStS.next {w wr w2 : World} {B : Nat} {zs gs : List LS} {i n t g cap : Nat} {z : LS} (h : GrowStS w wr B zs gs i) (hr : RowsS w B zs) (hz : zs[i]? = some z) (hnt : n + t ≤ 1000000)
    (hg : GrowAtS wr w2 B z i n t (.slice (some ⟨g, 0, none⟩) (n + t) cap)) : GrowStS w w2 B zs (gs ++ [⟨some ⟨g, 0, none⟩, cap, marksS i 0 (n + t)⟩]) (i + 1) := by
  have hzb : ∀ b, z.val.ownBlock = some b → b < w.heap.size := fun b hb => ((hr.own i z hz).lt b hb).2
  have hfar : ∀ b, b < wr.heap.size → z.val.ownBlock ≠ some b → w2.heap[b]? = wr.heap[b]? := fun b h1 h2 => hg.kept.block b h1 (freeS_one h2)
  refine ⟨by rw [List.length_append, h.len]; rfl, fun a l hl => ?_, fun a y hy ha => ?_, fun a y hy => ?_, ?_⟩
  · rcases Nat.lt_or_ge a gs.length with ha | ha
    · rw [List.getElem?_append_left ha] at hl
      obtain ⟨r1, r2, r3, r4⟩ := h.rows a l hl
      refine ⟨row_kept' r1 fun q hq => hfar q (r1.lt q hq).2 fun e => ?_, r2, r3, r4⟩
      rcases r4 with ⟨y, hy, h4⟩ | ⟨b, h4, h5⟩
      · rw [h4] at hq
        exact hr.apart a i y z q hy hz (by rw [h.len] at ha; omega) hq e
      · rw [h4] at hq
        injection hq with hq
        subst hq
        have := hzb _ e
        omega
    · have ha' : a = i := by
        rw [List.getElem?_append_right ha] at hl
        rcases Nat.eq_or_lt_of_le ha with e | e
        · rw [← e, h.len]
        · rw [List.getElem?_eq_none (by simp; omega)] at hl; cases hl
      subst ha'
      rw [List.getElem?_append_right ha, h.len, Nat.sub_self] at hl
      injection hl with hl
      subst hl
      refine ⟨?_, by simp only [marksS_length], by simp only [marksS_length]; exact hnt, ?_⟩
      · unfold LS.val
        simp only [marksS_length]
        exact hg.row
      · rcases hg.place with h5 | ⟨b, h5, h6⟩
        · left
          refine ⟨z, hz, ?_⟩
          rw [← h5]
          rfl
        · right
          refine ⟨b, ?_, Nat.le_trans h.kept.below.size h6⟩
          rw [← h5]
          rfl
  · have ho := h.left a y hy (by omega)
    exact row_kept' ho fun q hq => hfar q (ho.lt q hq).2 fun e => hr.apart a i y z q hy hz (by omega) hq e
  · by_cases hai : a = i
    · subst hai
      rw [hz] at hy
      cases hy
      exact hg.zspans
    · refine spans_blocks (h.zspans a y hy) hg.kept.below.size fun b off e hb => hfar b hb fun e2 => hr.apart a i y z b hy hz hai (by unfold LS.val; rw [e]; rfl) e2
  · refine ⟨h.kept.below.trans hg.kept.below, fun b h1 h2 => ?_⟩
    exact (hfar b (Nat.lt_of_lt_of_le h1 h.kept.below.size) (h2 z (List.mem_of_getElem? hz))).trans (h.kept.block b h1 h2)
/-- A block of another kind turns. -/
theorem GrowStS.grown {w wr w2 : World} {B : Nat} {zs gs : List LS} {i : Nat} {row : Option Nat} (h : GrowStS w wr B zs gs i) (hr : RowsS w B zs) (hB : B ≤ w.heap.size) (hg : wr.grownBy w2 row) (h1 : ∀ q, row = some q → w.heap.size ≤ q) (h2 : ∀ q, row = some q → ∀ l ∈ gs, l.val.ownBlock ≠ some q) : GrowStS w w2 B zs gs i := by
  have hlow : ∀ b, b < w.heap.size → w2.heap[b]? = wr.heap[b]? := fun b hb => hg.block b (Nat.lt_of_lt_of_le hb h.kept.below.size) fun e => by have := h1 b e.symm; omega
  refine ⟨h.len, fun a l hl => ?_, fun a y hy ha => ?_, fun a y hy => ?_, ?_⟩
  · obtain ⟨r1, r2, r3, r4⟩ := h.rows a l hl
    exact ⟨row_kept' r1 fun q hq => hg.block q (r1.lt q hq).2 fun e => h2 q e.symm l (List.mem_of_getElem? hl) hq, r2, r3, r4⟩
  · exact row_kept' (h.left a y hy ha) fun q hq => hlow q ((hr.own a y hy).lt q hq).2
  · exact spans_blocks (h.zspans a y hy) hg.size fun b off e _ => hlow b ((hr.own a y hy).lt b (by unfold LS.val; rw [e]; rfl)).2
  · exact ⟨h.kept.below.grown hg (Nat.le_trans hB h.kept.below.size) fun q e => Nat.le_trans hB (h1 q e), fun b hb hf => (hlow b hb).trans (h.kept.block b hb hf)⟩
/-- Rows of different kinds lie apart. -/
theorem rows_kindsS {w : World} {b1 b2 n1 n2 : Nat} {v1 v2 : Value} {x1 x2 : List Value} (h1 : w.ownsRow b1 36 2 v1 n1 x1) (h2 : w.ownsRow b2 33 1 v2 n2 x2) (q : Nat) (e1 : v1.ownBlock = some q) (e2 : v2.ownBlock = some q) : False := by
  rcases h1.2 with ⟨rfl, _⟩ | ⟨g1, c1, u1, rfl, _, k1, _⟩
  · cases e1
  · rcases h2.2 with ⟨rfl, _⟩ | ⟨g2, c2, u2, rfl, _, k2, _⟩
    · cases e2
    · injection e1 with e1
      injection e2 with e2
      have e1 : g1 = q := e1
      have e2 : g2 = q := e2
      subst e1
      subst e2
      rw [k1] at k2
      injection k2 with k2
      injection k2 with _ k2 _
      revert k2
      decide
end Go.Proofs.Ytkcjiogackkecaa

namespace Go.Proofs.Ytkcjiogackkecaa
open Go.RowKit

theorem hspanrows_info : (Try.prog.info? 33).map (fun i => (i.zero, i.size, i.bytes)) = some (some (.slice none 0 0), 1, 24) := by kernel_rfl

set_option maxRecDepth 100000 in
set_option maxHeartbeats 8000000 in
theorem sgrow_any (g B : Nat) (p : Option Addr) (k cp : Nat) (zs : List LS) (w : World) (hg : g < w.heap.size) (hB : B ≤ w.heap.size) (h2 : w.cell? ⟨g, 4, none⟩ = some (.slice p k cp))
    (hk : zs.length = k) (hp : RowAt w p (zs.map LS.val)) (hb : k ≤ 1000) (hr : RowsS w B zs) (hfg : FreeS zs g) (hfp : ∀ a, p = some a → FreeS zs a.block) (hn : ∀ l ∈ zs, l.xs.length ≤ 900000)
    (hm : ∀ (i : Nat) (z : LS), zs[i]? = some z → z.xs = marksS i 0 z.xs.length) (hz : ∀ (a : Nat) (z : LS), zs[a]? = some z → Spans w w.heap.size z.A z.xs) :
    Calls Try.prog 62 #[.pointer (some ⟨g, 0, none⟩)] w fun e w' => ∃ v gs, e = .returned v ∧ GrowStS w w' B zs gs k ∧ w'.ownsRow w.heap.size 33 1 v k (gs.map LS.val) := by
  obtain ⟨i0, hi0, hz0, hz1, hz2⟩ := info_parts hspans_info
  obtain ⟨i1, hi1, hy0, hy1, hy2⟩ := info_parts hspanrows_info
  have HC : Hid (∀ w', KeptS zs B w w' → w'.cell? ⟨g, 4, none⟩ = some (.slice p k cp)) := Lib.hid (fun w' hw => (hw.cell (p := ⟨g, 4, none⟩) hg hfg).trans h2)
  have HK := Lib.hid hk
  have HP := Lib.hid hp
  have HFP := Lib.hid hfp
  have HN := Lib.hid hn
  have HBS := Lib.hid hB
  have HR := Lib.hid hr
  have HM := Lib.hid hm
  have HS := Lib.hid (GrowStS.start hr hz)
  have hkI : (k : Int) ≤ 1000 := by omega
  clear hk hp hfp hr h2 hfg hn hB hm hz
  go_enter Try.func62, Try.ntmps62
  go_wp2_with fail
  go_loopw [3, 4] (fun o i wr => ∃ (j : Nat) (gs : List LS), j ≤ k ∧ i = .int .i64 j ∧ GrowStS w wr B zs gs j ∧ wr.ownsRow w.heap.size 33 1 o j (gs.map LS.val)) (fun _ i _ => k - (intOf i).toNat)
  case atStart => exact ⟨0, [], Nat.zero_le _, rfl, HS.out, World.ownsRow_nil _ _ _ _⟩
  case round =>
    obtain ⟨i, gs, hi, rfl, hst, hov⟩ := hrel
    obtain ⟨oA, oC, rfl, -, -, ho0, hoa⟩ := krow_form hov
    have HST := Lib.hid hst
    have HOV := Lib.hid hov
    have c2 := HC.out _ hst.kept
    have HBW : Hid (B ≤ wr.heap.size) := Lib.hid (Nat.le_trans HBS.out hst.kept.below.size)
    clear hst hov HS ho0 hoa
    by_cases hlt : i < k
    · obtain ⟨z, hz⟩ : ∃ z, zs[i]? = some z := ⟨zs[i]'(by rw [HK.out]; exact hlt), List.getElem?_eq_getElem _⟩
      have hll := HN.out z (List.mem_of_getElem? hz)
      have hzm := HM.out i z hz
      obtain ⟨b, off, rfl, hbl, hcl⟩ := HP.out (by rw [List.length_map, HK.out]; omega)
      have hcc := hcl i z.val (by rw [List.getElem?_map, hz]; rfl)
      have hcx : wr.cell? ⟨b, off + i, none⟩ = some z.val := (HST.out.kept.cell (p := ⟨b, off + i, none⟩) hbl (show FreeS zs b from HFP.out ⟨b, off, none⟩ rfl)).trans hcc
      have hzo := HST.out.left i z hz (Nat.le_refl _)
      obtain ⟨pp, cc, ee, -, -, h0, hza⟩ := krow_form hzo
      have hA : ∀ a, z.A = some a → a = ⟨a.block, 0, none⟩ := fun a ha => hza a (by unfold LS.val at ee; injection ee with ee _ _; rw [← ee]; exact ha)
      obtain ⟨n, hnn⟩ : ∃ n, n = z.xs.length := ⟨_, rfl⟩
      have HZL : Hid (∀ b', z.val.ownBlock = some b' → b' < w.heap.size) := Lib.hid (fun b' hb' => ((HR.out.own i z hz).lt b' hb').2)
      have HZS := Lib.hid hz
      have HZA := Lib.hid hA
      have HXN : Hid (z.xs = marksS i 0 n) := Lib.hid (by rw [hnn]; exact hzm)
      have HG0 : Hid (GrowAtS wr wr B z i n 0 z.val) := Lib.hid ⟨by rw [Nat.add_zero, hnn, ← hzm]; exact hzo, .inl rfl, HST.out.zspans i z hz, KeptS.refl _ _ _⟩
      have hval : z.val = .slice z.A n z.c := by unfold LS.val; rw [hnn]
      rw [hval] at hcx HG0
      obtain ⟨zA, hzA⟩ : ∃ a, a = z.A := ⟨_, rfl⟩
      obtain ⟨zc, hzc⟩ : ∃ a, a = z.c := ⟨_, rfl⟩
      rw [← hzA, ← hzc] at hcx HG0
      have hiI : (i : Int) < (k : Int) := by omega
      have hnI : n ≤ 900000 := by omega
      obtain ⟨W1, hW1⟩ : ∃ W, W = wr := ⟨_, rfl⟩
      have HG1 : Hid (GrowAtS W1 wr B z i n 0 (.slice zA n zc)) := by rw [hW1]; exact HG0
      have HBW1 : Hid (B ≤ W1.heap.size) := by rw [hW1]; exact HBW
      have HST1 : Hid (GrowStS w W1 B zs gs i) := by rw [hW1]; exact HST
      have HOV1 : Hid (W1.ownsRow w.heap.size 33 1 (.slice oA i oC) i (gs.map LS.val)) := by rw [hW1]; exact HOV
      clear hz hll hzm hbl hcl hcc hzo ee h0 hza hA hnn hval hzA hzc HG0 HBW HST HOV hW1
      go_wp2_with fail
      clear hcx c2
      go_loopw [5, 6] (fun l q wq => ∃ t : Nat, t ≤ 12 ∧ q = .int .i64 t ∧ GrowAtS W1 wq B z i n t l) (fun _ q _ => 12 - (intOf q).toNat)
      case atStart => exact ⟨0, Nat.zero_le _, rfl, HG1.out⟩
      case round =>
        obtain ⟨t, ht, rfl, hga⟩ := hrel
        obtain ⟨lp, lc, rfl, -, -, -, -⟩ := krow_form hga.row
        have HGA := Lib.hid hga
        have HBQ : Hid (B ≤ wr.heap.size) := Lib.hid (Nat.le_trans HBW1.out hga.kept.below.size)
        clear hga HG1
        by_cases htt : t < 12
        · have HMK : Hid (∀ W, Calls Try.prog 95 #[.int .i64 i, .int .i64 ((n + t : Nat) : Int), .int .i64 1] W fun e w' => ∃ v, e = .returned v ∧ w'.ownsRow W.heap.size 36 2 v 1 (flatS (marksS i (n + t) 1)) ∧ Below W.heap.size W w') := Lib.hid (fun W => smark_any i (n + t) 1 W (by omega) (by omega) (by omega))
          have htI : (t : Int) < 12 := by omega
          go_wp2_with fail
          refine (HMK.out _).mono ?_
          rintro e w2 ⟨v, rfl, hmr, hb2⟩
          obtain ⟨mp, mc, rfl, -, -, hm0, hma⟩ := krow_form hmr
          obtain ⟨mg, rfl⟩ : ∃ mg, mp = some ⟨mg, 0, none⟩ := by
            rcases mp with _ | a
            · exact absurd (hm0 rfl) (by omega)
            · exact ⟨a.block, by rw [← hma a rfl]⟩
          have hga2 := HGA.out.below HBQ.out hb2
          have hB2 : B ≤ w2.heap.size := Nat.le_trans HBQ.out hb2.size
          obtain ⟨gd, cap, w3, hrun, hown, hlt3, hwh⟩ := run_append_twoS (P := Try.prog) w2 33 33 B 36 i0 (.agg #[.int .i64 0, .int .i64 0]) 16 Try.underlying33 hi0 hz0 hz1 hz2 rfl (.slice lp (n + t) lc) (n + t) _ hga2.row ⟨mg, 0, none⟩ 1 mc (flatS (marksS i (n + t) 1)) (by rw [flatS_len, marksS_length]) (hmr.cells (g := mg) rfl) flatS_one (by omega) (by unfold maxLen; omega) (by omega) hB2
          have HRUN := Lib.hid hrun
          have HGN : Hid (GrowAtS W1 w3 B z i n (t + 1) (.slice (some ⟨gd, 0, none⟩) (n + (t + 1)) cap)) := Lib.hid (hga2.append hB2 HXN.out HZA.out hown hwh)
          clear hmr hm0 hma hga2 hrun hown hwh hb2
          go_wp2_with (at_builtin; refine wpList_value rfl (exec_append rfl rfl rfl HRUN.out) ?_)
          go_roundw
          case rel => exact ⟨t + 1, by omega, by go_num, HGN.out⟩
          case measure => simp [intOf]; omega
        · obtain rfl : t = 12 := by omega
          have HMK : Hid (∀ W, Calls Try.prog 95 #[.int .i64 i, .int .i64 ((n + 12 : Nat) : Int), .int .i64 60] W fun e w' => ∃ v, e = .returned v ∧ w'.ownsRow W.heap.size 36 2 v 60 (flatS (marksS i (n + 12) 60)) ∧ Below W.heap.size W w') := Lib.hid (fun W => smark_any i (n + 12) 60 W (by omega) (by omega) (by omega))
          go_wp2_with fail
          refine (HMK.out _).mono ?_
          rintro e w2 ⟨v, rfl, hmr, hb2⟩
          obtain ⟨mp, mc, rfl, -, -, hm0, hma⟩ := krow_form hmr
          obtain ⟨mg, rfl⟩ : ∃ mg, mp = some ⟨mg, 0, none⟩ := by
            rcases mp with _ | a
            · exact absurd (hm0 rfl) (by omega)
            · exact ⟨a.block, by rw [← hma a rfl]⟩
          have hga2 := HGA.out.below HBQ.out hb2
          have hB2 : B ≤ w2.heap.size := Nat.le_trans HBQ.out hb2.size
          obtain ⟨gd, cap, w3, hrun, hown, hlt3, hwh⟩ := run_append_twoS (P := Try.prog) w2 33 33 B 36 i0 (.agg #[.int .i64 0, .int .i64 0]) 16 Try.underlying33 hi0 hz0 hz1 hz2 rfl (.slice lp (n + 12) lc) (n + 12) _ hga2.row ⟨mg, 0, none⟩ 60 mc (flatS (marksS i (n + 12) 60)) (by rw [flatS_len, marksS_length]) (hmr.cells (g := mg) rfl) flatS_one (by omega) (by unfold maxLen; omega) (by omega) hB2
          have HRUN := Lib.hid hrun
          have HGN : Hid (GrowAtS W1 w3 B z i n (12 + 60) (.slice (some ⟨gd, 0, none⟩) (n + (12 + 60)) cap)) := Lib.hid (hga2.append hB2 HXN.out HZA.out hown hwh)
          clear hmr hm0 hma hga2 hrun hown hwh hb2
          have hov3 : w3.ownsRow w.heap.size 33 1 (.slice oA i oC) i (gs.map LS.val) := row_kept' HOV1.out fun q hq => HGN.out.kept.block q (HOV1.out.lt q hq).2 (freeS_one fun e => by have := HZL.out q e; have := (HOV1.out.lt q hq).1; omega)
          have hst3 := HST1.out.next HR.out HZS.out (by omega) HGN.out
          obtain ⟨gl, hgl⟩ : ∃ gl : LS, gl = ⟨some ⟨gd, 0, none⟩, cap, marksS i 0 (n + (12 + 60))⟩ := ⟨_, rfl⟩
          rw [← hgl] at hst3
          have hglv : gl.val = .slice (some ⟨gd, 0, none⟩) (n + 12 + 60) cap := by rw [hgl]; unfold LS.val; simp only [marksS_length]
          have hst4 : GrowStS w (w3.alloc (.cells #[.slice (some ⟨gd, 0, none⟩) (n + 12 + 60) cap] 33)) B zs (gs ++ [gl]) (i + 1) := GrowStS.grown (row := none) hst3 HR.out HBS.out (by_alloc (by_refl _ _) _) (fun q e => by cases e) (fun q e => by cases e)
          have hov4 := hov3.alloc (.cells #[.slice (some ⟨gd, 0, none⟩) (n + 12 + 60) cap] 33)
          have hws : w.heap.size ≤ w3.heap.size := hst3.kept.below.size
          have HST4 := Lib.hid hst4
          have HOV4 := Lib.hid hov4
          have HGL := Lib.hid hglv
          clear hov3 hst3 hst4 hov4 hgl hglv
          go_wp2_with (first
            | (at_builtin; refine wpList_value rfl (exec_append rfl rfl rfl HRUN.out) ?_)
            | (at_builtin; refine wpList_append_lies _ rfl (.tmp 33) (.tmp 40) 54 rfl w.heap.size 33 i1 (.slice none 0 0) 1 24 Try.underlying54 hi1 hy0 hy1 hy2 rfl (by omega) _ i _ rfl HOV4.out ⟨w3.heap.size, 0, none⟩ 1 1 [.slice (some ⟨gd, 0, none⟩) (n + 12 + 60) cap] rfl rfl ?c1 ?c2 (by omega) (by unfold maxLen; omega) (by omega) (by simp; omega) _ rfl ?_))
          case c1 =>
            intro a u ha
            match a, ha with
            | 0, ha => simp at ha; subst ha; simp [Addr.add]
          case c2 => intro u hu; simp at hu; subst hu; rfl
          intro g2 cap2 w5 hown5 hg5 hor5 hlt5
          have HST5 : Hid (GrowStS w w5 B zs (gs ++ [gl]) (i + 1)) := Lib.hid (HST4.out.grown HR.out HBS.out hg5 (fun q e => (HOV4.out.lt q e).1) (fun q e l hl hq => by
            obtain ⟨a, ha⟩ := List.mem_iff_getElem?.1 hl
            exact rows_kindsS (HST4.out.rows a l ha).1 HOV4.out q hq e))
          have HOV5 : Hid (w5.ownsRow w.heap.size 33 1 (.slice (some ⟨g2, 0, none⟩) (i + 1) cap2) (i + 1) ((gs ++ [gl]).map LS.val)) := Lib.hid (by rw [List.map_append, List.map_cons, List.map_nil, HGL.out]; exact hown5)
          clear hown5 hg5 hor5 hlt5
          go_wp2_with fail
          go_roundw
          case rel => exact ⟨i + 1, gs ++ [gl], by omega, by go_num, HST5.out, HOV5.out⟩
          case measure => simp [intOf]; omega
    · obtain rfl : i = k := by omega
      go_wp2_with fail
      go_ret
      exact ⟨_, gs, rfl, HST.out, HOV.out⟩
end Go.Proofs.Ytkcjiogackkecaa
