/-
  masonrybook's lists of spans that are kept: all are marked. No statement is proved here.
-/
import Derived.Test.YtkcjiogackkecaaSpanStill
import Derived.Test.YtkcjiogackkecaaSinks
namespace Go.Proofs.Ytkcjiogackkecaa
open Go.RowKit

/-- Lists of spans, each in a block of its own. -/
structure RowsS (w : World) (B : Nat) (ls : List LS) : Prop where
  own : ∀ (i : Nat) (l : LS), ls[i]? = some l → w.ownsRow B 36 2 l.val l.xs.length (flatS l.xs)
  apart : ∀ (i j : Nat) (l l' : LS) (b : Nat), ls[i]? = some l → ls[j]? = some l' → i ≠ j → l.val.ownBlock = some b → l'.val.ownBlock ≠ some b
/-- Nobody's block among those lists'. -/
def FreeS (ls : List LS) (b : Nat) : Prop := ∀ l ∈ ls, l.val.ownBlock ≠ some b
/-- What may turn: the blocks of those lists. -/
structure KeptS (ls : List LS) (B : Nat) (w w' : World) : Prop where
  below : Below B w w'
  block : ∀ b, b < w.heap.size → FreeS ls b → w'.heap[b]? = w.heap[b]?
theorem KeptS.refl (ls : List LS) (B : Nat) (w : World) : KeptS ls B w w := ⟨Below.refl _ _, fun _ _ _ => rfl⟩
theorem KeptS.more {ls : List LS} {B : Nat} {w w' w'' : World} (h : KeptS ls B w w') (hB : B ≤ w'.heap.size) (hb : Below w'.heap.size w' w'') : KeptS ls B w w'' :=
  ⟨h.below.trans (hb.mono hB), fun b h1 h2 => (hb.block b (Nat.lt_of_lt_of_le h1 h.below.size)).trans (h.block b h1 h2)⟩
theorem KeptS.cell {ls : List LS} {B : Nat} {w w' : World} (h : KeptS ls B w w') {p : Addr} (hp : p.block < w.heap.size) (hf : FreeS ls p.block) : w'.cell? p = w.cell? p := World.cell?_of_block (h.block _ hp hf)
theorem KeptS.put {ls : List LS} {B : Nat} {w w' : World} (h : KeptS ls B w w') {g i : Nat} (u : Value) (hB : B ≤ g) (hg : ∃ l ∈ ls, l.val.ownBlock = some g) : KeptS ls B w (w'.setCell ⟨g, i, none⟩ u) :=
  ⟨h.below.setCell hB _, fun b h1 h2 => (Below.heap_setCell _ _ _ _ (fun e => by
    obtain ⟨l, hl, hl2⟩ := hg
    have e : b = g := e
    exact h2 l hl (by rw [hl2, e]))).trans (h.block b h1 h2)⟩
theorem RowsS.below {w w' : World} {B : Nat} {ls : List LS} (h : RowsS w B ls) (hb : Below w.heap.size w w') : RowsS w' B ls :=
  ⟨fun i l hl => row_kept' (h.own i l hl) fun k hk => hb.block k ((h.own i l hl).lt k hk).2, h.apart⟩
/-- As far as the marks are put. -/
structure PutToS (ls zs : List LS) (i j : Nat) : Prop where
  len : zs.length = ls.length
  like : ∀ (a : Nat) (z l : LS), zs[a]? = some z → ls[a]? = some l → z.A = l.A ∧ z.c = l.c ∧ z.xs.length = l.xs.length
  done : ∀ (a : Nat) (z : LS), zs[a]? = some z → a < i → z.xs = marksS a 0 z.xs.length
  here : ∀ (z : LS), zs[i]? = some z → z.xs.take j = marksS i 0 j
theorem PutToS.start (ls : List LS) : PutToS ls ls 0 0 := ⟨rfl, fun a z l h1 h2 => by rw [h1] at h2; cases h2; exact ⟨rfl, rfl, rfl⟩, fun a z _ h => by omega, fun z _ => by simp [marksS]⟩
theorem PutToS.next {ls zs : List LS} {i n : Nat} (h : PutToS ls zs i n) (hn : ∀ z, zs[i]? = some z → z.xs.length = n) : PutToS ls zs (i + 1) 0 :=
  ⟨h.len, h.like, fun a z ha hi => by
    rcases Nat.lt_or_ge a i with h1 | h1
    · exact h.done a z ha h1
    · obtain rfl : a = i := by omega
      have := h.here z ha
      rw [List.take_of_length_le (by rw [hn z ha]; exact Nat.le_refl _)] at this
      rw [hn z ha]
      exact this, fun z _ => by simp [marksS]⟩
theorem take_set_snoc {α : Type} (l : List α) (j : Nat) (x : α) (h : j < l.length) : (l.set j x).take (j + 1) = l.take j ++ [x] := by
  rw [List.take_succ_eq_append_getElem (by rw [List.length_set]; exact h), List.take_set_of_le (Nat.le_refl _), List.getElem_set_self]
def LS.put (l : LS) (j : Nat) (x : Int × Int) : LS := ⟨l.A, l.c, l.xs.set j x⟩
theorem LS.put_val (l : LS) (j : Nat) (x : Int × Int) : (l.put j x).val = l.val := by unfold LS.put LS.val; simp
theorem PutToS.step {ls zs : List LS} {i j : Nat} {z : LS} (h : PutToS ls zs i j) (hz : zs[i]? = some z) (hj : j < z.xs.length) : PutToS ls (zs.set i (z.put j (markS i (0 + j), 0))) i (j + 1) := by
  have hil : i < zs.length := by
    rcases Nat.lt_or_ge i zs.length with h | h
    · exact h
    · rw [List.getElem?_eq_none h] at hz; cases hz
  refine ⟨by rw [List.length_set]; exact h.len, fun a y l hy hl => ?_, fun a y hy ha => ?_, fun y hy => ?_⟩
  · by_cases hai : a = i
    · subst hai
      rw [List.getElem?_set_self hil] at hy
      cases hy
      have := h.like a z l hz hl
      exact ⟨this.1, this.2.1, by unfold LS.put; simp only [List.length_set]; exact this.2.2⟩
    · rw [List.getElem?_set_ne (fun e => hai e.symm)] at hy
      exact h.like a y l hy hl
  · rw [List.getElem?_set_ne (by omega)] at hy
    exact h.done a y hy ha
  · rw [List.getElem?_set_self hil] at hy
    cases hy
    unfold LS.put
    simp only
    rw [take_set_snoc _ _ _ hj, h.here z hz, marksS_snoc]
theorem flatS_set (l : List (Int × Int)) (j : Nat) (x : Int × Int) : flatS (l.set j x) = ((flatS l).set (j * 2) (.int .i64 x.1)).set (j * 2 + 1) (.int .i64 x.2) := by
  induction l generalizing j with
  | nil => rfl
  | cons y r ih =>
    have e : flatS (y :: r) = .int .i64 y.1 :: .int .i64 y.2 :: flatS r := rfl
    cases j with
    | zero => rfl
    | succ j =>
      rw [List.set_cons_succ, e, show (j + 1) * 2 = j * 2 + 1 + 1 by omega]
      simp only [List.set_cons_succ]
      rw [← ih]
      rfl
theorem RowsS.put {w : World} {B : Nat} {zs : List LS} {i j bi : Nat} {z : LS} {x : Int × Int} (h : RowsS w B zs) (hz : zs[i]? = some z) (hb : z.A = some ⟨bi, 0, none⟩) : RowsS ((w.setCell ⟨bi, j * 2, none⟩ (.int .i64 x.1)).setCell ⟨bi, j * 2 + 1, none⟩ (.int .i64 x.2)) B (zs.set i (z.put j x)) := by
  have hil : i < zs.length := by
    rcases Nat.lt_or_ge i zs.length with h | h
    · exact h
    · rw [List.getElem?_eq_none h] at hz; cases hz
  have hob : z.val.ownBlock = some bi := by unfold LS.val; rw [hb]; rfl
  have get : ∀ (a : Nat) (l : LS), (zs.set i (z.put j x))[a]? = some l → ∃ l0, zs[a]? = some l0 ∧ l.val = l0.val ∧ ((a = i ∧ l = z.put j x) ∨ (a ≠ i ∧ l = l0)) := fun a l hl => by
    by_cases hai : a = i
    · subst hai
      rw [List.getElem?_set_self hil] at hl
      cases hl
      exact ⟨z, hz, LS.put_val _ _ _, .inl ⟨rfl, rfl⟩⟩
    · rw [List.getElem?_set_ne (fun e => hai e.symm)] at hl
      exact ⟨l, hl, rfl, .inr ⟨hai, rfl⟩⟩
  refine ⟨fun a l hl => ?_, fun a a' l l' b h1 h2 hne h3 => ?_⟩
  · obtain ⟨l0, h0, hv, ⟨rfl, rfl⟩ | ⟨hai, rfl⟩⟩ := get a l hl
    · rw [LS.put_val]
      have ho := h.own a z hz
      unfold LS.val at ho ⊢
      rw [hb] at ho ⊢
      have := krow_put (krow_put ho (i := j * 2) (.int .i64 x.1)) (i := j * 2 + 1) (.int .i64 x.2)
      unfold LS.put
      simp only [List.length_set]
      rw [flatS_set]
      exact this
    · exact krow_far (krow_far (h.own a l h0) (fun e => h.apart a i l z bi h0 hz hai e hob) _) (fun e => h.apart a i l z bi h0 hz hai e hob) _
  · obtain ⟨l0, h0, hv, -⟩ := get a l h1
    obtain ⟨l0', h0', hv', -⟩ := get a' l' h2
    rw [hv] at h3
    rw [hv']
    exact h.apart a a' l0 l0' b h0 h0' hne h3

set_option maxRecDepth 100000 in
set_option maxHeartbeats 8000000 in
theorem sput_any (g B : Nat) (p : Option Addr) (k cp : Nat) (ls : List LS) (w : World) (hg : g < w.heap.size) (hB : B ≤ w.heap.size) (h2 : w.cell? ⟨g, 4, none⟩ = some (.slice p k cp))
    (hk : ls.length = k) (hp : RowAt w p (ls.map LS.val)) (hb : k ≤ 1000) (hr : RowsS w B ls) (hfg : FreeS ls g) (hfp : ∀ a, p = some a → FreeS ls a.block) (hn : ∀ l ∈ ls, l.xs.length ≤ 1000000) :
    Calls Try.prog 55 #[.pointer (some ⟨g, 0, none⟩)] w fun e w' => e = .returned (.tuple #[]) ∧ ∃ zs, PutToS ls zs k 0 ∧ RowsS w' B zs ∧ KeptS ls B w w' := by
  have HC : Hid (∀ w', KeptS ls B w w' → w'.cell? ⟨g, 4, none⟩ = some (.slice p k cp)) := Lib.hid (fun w' hw => (hw.cell (p := ⟨g, 4, none⟩) hg hfg).trans h2)
  have HK := Lib.hid hk
  have HP := Lib.hid hp
  have HFP := Lib.hid hfp
  have HN := Lib.hid hn
  have HBS := Lib.hid hB
  have HR := Lib.hid hr
  have hkI : (k : Int) ≤ 1000 := by omega
  clear hk hp hfp hr h2 hfg hn hB
  go_enter Try.func55, Try.ntmps55
  go_wp2_with fail
  go_loopw [2] (fun i wr => ∃ (j : Nat) (zs : List LS), j ≤ k ∧ i = .int .i64 j ∧ PutToS ls zs j 0 ∧ RowsS wr B zs ∧ KeptS ls B w wr) (fun i _ => k - (intOf i).toNat)
  case atStart => exact ⟨0, ls, Nat.zero_le _, rfl, PutToS.start ls, HR.out, KeptS.refl _ _ _⟩
  case round =>
    obtain ⟨i, zs, hi, rfl, hpt, hrw, hkb⟩ := hrel
    have HPT := Lib.hid hpt
    have HRW := Lib.hid hrw
    have HKB := Lib.hid hkb
    have c2 := HC.out _ hkb
    clear hpt hrw hkb HR
    by_cases hlt : i < k
    · obtain ⟨l, hl⟩ : ∃ l, ls[i]? = some l := ⟨ls[i]'(by rw [HK.out]; exact hlt), List.getElem?_eq_getElem _⟩
      obtain ⟨z, hz⟩ : ∃ z, zs[i]? = some z := ⟨zs[i]'(by rw [HPT.out.len, HK.out]; exact hlt), List.getElem?_eq_getElem _⟩
      obtain ⟨e1, e2, e3⟩ := HPT.out.like i z l hz hl
      have hll := HN.out l (List.mem_of_getElem? hl)
      obtain ⟨b, off, rfl, hbl, hcl⟩ := HP.out (by rw [List.length_map, HK.out]; omega)
      have hcc := hcl i l.val (by rw [List.getElem?_map, hl]; rfl)
      have HX : Hid (∀ w', KeptS ls B w w' → w'.cell? ⟨b, off + i, none⟩ = some (.slice l.A l.xs.length l.c)) := Lib.hid (fun w' hw => (hw.cell (p := ⟨b, off + i, none⟩) hbl (show FreeS ls b from HFP.out ⟨b, off, none⟩ rfl)).trans hcc)
      have HL := Lib.hid hl
      obtain ⟨A, c, xs⟩ := l
      simp only at e1 e2 e3 hll HX
      obtain ⟨n, hnn⟩ : ∃ n, n = xs.length := ⟨_, rfl⟩
      rw [← hnn] at e3 hll HX
      have hcx := HX.out _ HKB.out
      have hiI : (i : Int) < (k : Int) := by omega
      have HMK : Hid (∀ W, Calls Try.prog 95 #[.int .i64 i, .int .i64 0, .int .i64 n] W fun e w' => ∃ v, e = .returned v ∧ w'.ownsRow W.heap.size 36 2 v n (flatS (marksS i 0 n)) ∧ Below W.heap.size W w') := Lib.hid (fun W => smark_any i 0 n W (by omega) (by omega) hll)
      have hnI : (n : Int) ≤ 1000000 := by omega
      have HZ : Hid (z.A = A ∧ z.c = c ∧ z.xs.length = n) := Lib.hid ⟨e1, e2, e3⟩
      have HZS := Lib.hid hz
      have HLT : Hid (∀ b', (Value.slice A n c).ownBlock = some b' → B ≤ b' ∧ b' < wr.heap.size) := Lib.hid (fun b' hb' => (HRW.out.own i z hz).lt b' (by unfold LS.val; rw [e1, e2, e3]; exact hb'))
      have HXN : Hid (n = xs.length) := Lib.hid hnn
      have HBL := Lib.hid hbl
      clear hl hz e1 e2 e3 hcl hcc hnn hbl
      go_wp2_with fail
      refine (HMK.out _).mono ?_
      rintro e w1 ⟨v, rfl, hmr, hb1⟩
      obtain ⟨mp, mc, rfl, -, -, hm0, hma⟩ := krow_form hmr
      have HMR := Lib.hid hmr
      have HRW1 : Hid (RowsS w1 B zs) := Lib.hid (HRW.out.below hb1)
      have HKB1 : Hid (KeptS ls B w w1) := Lib.hid (HKB.out.more (Nat.le_trans HBS.out HKB.out.below.size) hb1)
      have HWS : Hid (wr.heap.size ≤ w1.heap.size) := Lib.hid hb1.size
      have HM0 := Lib.hid hm0
      have HMA := Lib.hid hma
      obtain ⟨s0, hs0⟩ : ∃ s0, s0 = wr.heap.size := ⟨_, rfl⟩
      rw [← hs0] at HMR HLT
      clear hmr hb1 hm0 hma hcx c2 HWS hs0
      go_wp2_with fail
      go_loopw [4] (fun q wq => ∃ (j : Nat) (ys : List LS), j ≤ n ∧ q = .int .i64 j ∧ PutToS ls ys i j ∧ RowsS wq B ys ∧ KeptS ls B w wq ∧ wq.ownsRow s0 36 2 (.slice mp n mc) n (flatS (marksS i 0 n))) (fun q _ => n - (intOf q).toNat)
      case atStart => exact ⟨0, zs, Nat.zero_le _, rfl, HPT.out, HRW1.out, HKB1.out, HMR.out⟩
      case round =>
        obtain ⟨j, ys, hj, rfl, hpt, hrw, hkb, hmr⟩ := hrel
        have HPQ := Lib.hid hpt
        have HRQ := Lib.hid hrw
        have HKQ := Lib.hid hkb
        have HMQ := Lib.hid hmr
        have c2 := HC.out _ hkb
        have hcx := HX.out _ hkb
        clear hpt hrw hkb hmr
        by_cases hjt : j < n
        · obtain ⟨y, hy⟩ : ∃ y, ys[i]? = some y := ⟨ys[i]'(by rw [HPQ.out.len, HK.out]; exact hlt), List.getElem?_eq_getElem _⟩
          obtain ⟨e1, e2, e3⟩ := HPQ.out.like i y _ hy HL.out
          simp only at e1 e2 e3
          have hyn : y.xs.length = n := by rw [e3]; exact HXN.out.symm
          have hyo := HRQ.out.own i y hy
          have hyv : y.val = .slice A n c := by unfold LS.val; rw [e1, e2, hyn]
          rw [hyv, hyn] at hyo
          obtain ⟨bi, rfl⟩ : ∃ bi, A = some ⟨bi, 0, none⟩ := by
            obtain ⟨pp, cc, ee, -, -, h0, ha⟩ := krow_form hyo
            injection ee with ee _ _
            subst ee
            rcases A with _ | a
            · exact absurd (h0 rfl) (by omega)
            · exact ⟨a.block, by rw [← ha a rfl]⟩
          obtain ⟨mg, rfl⟩ : ∃ mg, mp = some ⟨mg, 0, none⟩ := by
            rcases mp with _ | a
            · exact absurd (HM0.out rfl) (by omega)
            · exact ⟨a.block, by rw [← HMA.out a rfl]⟩
          obtain ⟨mk, hmk⟩ : ∃ mk, mk = markS i (0 + j) := ⟨_, rfl⟩
          have hmv2 := flatS_get (marksS_get hjt : (marksS i 0 n)[j]? = _)
          rw [Nat.mul_comm 2 j, ← hmk] at hmv2
          have hmv : wr.cell? ⟨mg, j * 2, none⟩ = some (.int .i64 mk) := krow_cell HMQ.out hmv2.1
          have hmw : wr.cell? ⟨mg, j * 2 + 1, none⟩ = some (.int .i64 0) := krow_cell HMQ.out hmv2.2
          clear hmv2
          have hfz : wr.frozen? ⟨bi, j * 2, none⟩ = false := krow_frozen hyo _
          have hfy : wr.frozen? ⟨bi, j * 2 + 1, none⟩ = false := krow_frozen hyo _
          obtain ⟨old, hold⟩ : ∃ x, y.xs[j]? = some x := ⟨y.xs[j]'(by omega), List.getElem?_eq_getElem _⟩
          have hcb2 := flatS_get hold
          rw [Nat.mul_comm 2 j] at hcb2
          obtain ⟨o1, o2⟩ := old
          have hcb : wr.cell? ⟨bi, j * 2, none⟩ = some (.int .i64 o1) := krow_cell hyo hcb2.1
          have hcy : wr.cell? ⟨bi, j * 2 + 1, none⟩ = some (.int .i64 o2) := krow_cell hyo hcb2.2
          clear hold hcb2
          have hbb : B ≤ bi ∧ bi < s0 := HLT.out bi rfl
          have hmg := (HMQ.out.lt mg rfl).1
          have HREL : Hid (∃ (j' : Nat) (ys' : List LS), j' ≤ n ∧ Value.int .i64 ((j : Int) + 1) = .int .i64 j' ∧ PutToS ls ys' i j' ∧ RowsS ((wr.drew.setCell ⟨bi, j * 2, none⟩ (.int .i64 mk)).setCell ⟨bi, j * 2 + 1, none⟩ (.int .i64 0)) B ys' ∧ KeptS ls B w ((wr.drew.setCell ⟨bi, j * 2, none⟩ (.int .i64 mk)).setCell ⟨bi, j * 2 + 1, none⟩ (.int .i64 0)) ∧ ((wr.drew.setCell ⟨bi, j * 2, none⟩ (.int .i64 mk)).setCell ⟨bi, j * 2 + 1, none⟩ (.int .i64 0)).ownsRow s0 36 2 (.slice (some ⟨mg, 0, none⟩) n mc) n (flatS (marksS i 0 n))) := Lib.hid (by
            refine ⟨j + 1, ys.set i (y.put j (mk, 0)), hjt, by simp, ?_, ?_, ?_, ?_⟩
            · rw [hmk]
              exact HPQ.out.step hy (by omega)
            · exact RowsS.put (j := j) (x := (mk, 0)) (HRQ.out.below (Below.refl _ _).drew) hy e1
            · exact KeptS.put (KeptS.put (HKQ.out.more (Nat.le_trans HBS.out HKQ.out.below.size) (Below.refl _ _).drew) _ hbb.1 ⟨_, List.mem_of_getElem? HL.out, by unfold LS.val; rfl⟩) _ hbb.1 ⟨_, List.mem_of_getElem? HL.out, by unfold LS.val; rfl⟩
            · refine krow_far (krow_far (row_kept' HMQ.out fun k hk => rfl) ?_ _) ?_ _ <;>
              exact fun e => by
                injection e with e
                have e : mg = bi := e
                omega)
          have hjI : (j : Int) < (n : Int) := by omega
          have hiI' : (i : Int) < (k : Int) := by omega
          clear hy hyo hyv e1 e2 e3 hyn hmk
          go_upto_region 7 with fail
          refine wp_region_sinks 30 13 42 1 (fun | 0 => .pointer (some ⟨g, 0, none⟩) | 1 => .pointer (some ⟨g, 0, none⟩) | 2 => .pointer (some ⟨g, 4, none⟩) | 3 => .slice (some ⟨b, off, none⟩) k cp | 4 => .int .i64 (i : Int) | 5 => .pointer (some ⟨b, off + i, none⟩) | 6 => .slice (some ⟨bi, 0, none⟩) n c | 7 => .int .i64 (j : Int) | 8 => .slice (some ⟨mg, 0, none⟩) n mc | 9 => .int .i64 (j : Int) | 10 => .pointer (some ⟨mg, j * 2, none⟩) | 11 => .agg #[.int .i64 mk, .int .i64 0] | _ => .pointer (some ⟨bi, j * 2, none⟩))
            (fun _ w' => w' = wr.drew) (by kernel_rfl) (by kernel_rfl) rfl (by omega) (by kernel_rfl) rfl (by simp) rfl ?hops ?hrest
          case hops =>
            intro o ho L y w' hc hF hLi hJ hw hv
            have HJ := Lib.hid hJ
            clear hJ
            rcases (show o = 0 ∨ o = 1 ∨ o = 2 ∨ o = 3 ∨ o = 4 ∨ o = 5 ∨ o = 6 ∨ o = 7 ∨ o = 8 ∨ o = 9 ∨ o = 10 ∨ o = 11 ∨ o = 12 by omega) with rfl | rfl | rfl | rfl | rfl | rfl | rfl | rfl | rfl | rfl | rfl | rfl | rfl
            · have t0 : y.tmps[0]?.getD undef = .pointer (some ⟨g, 0, none⟩) := by rw [hF.2.2 0 (by omega)]; rfl
              clear hw hv hF
              refine wpOp_value (v := .pointer (some ⟨g, 0, none⟩)) (w' := _) rfl rfl ?_ ⟨rfl, HJ.out⟩
              go_simp
            · have t1 : y.tmps[30]?.getD undef = .pointer (some ⟨g, 0, none⟩) := hv 0 (of_decide_eq_true (by kernel_rfl)) (by omega)
              clear hw hv hF
              refine wpOp_value (v := .pointer (some ⟨g, 0, none⟩)) (w' := _) rfl rfl ?_ ⟨rfl, HJ.out⟩
              go_simp
            · have t1 : y.tmps[31]?.getD undef = .pointer (some ⟨g, 0, none⟩) := hv 1 (of_decide_eq_true (by kernel_rfl)) (by omega)
              clear hw hv hF
              refine wpOp_value (v := .pointer (some ⟨g, 4, none⟩)) (w' := _) rfl rfl ?_ ⟨rfl, HJ.out⟩
              go_simp
            · have t1 : y.tmps[32]?.getD undef = .pointer (some ⟨g, 4, none⟩) := hv 2 (of_decide_eq_true (by kernel_rfl)) (by omega)
              have hj' : w' = wr.drew := HJ.out
              subst hj'
              clear hw hv hF
              refine wpOp_value (v := .slice (some ⟨b, off, none⟩) k cp) (w' := _) rfl rfl ?_ ⟨rfl, HJ.out⟩
              go_simp
            · have t0 : y.tmps[2]?.getD undef = .int .i64 (i : Int) := by rw [hF.2.2 2 (by omega)]; rfl
              clear hw hv hF
              refine wpOp_value (v := .int .i64 (i : Int)) (w' := _) rfl rfl ?_ ⟨rfl, HJ.out⟩
              go_simp
            · have t1 : y.tmps[33]?.getD undef = .slice (some ⟨b, off, none⟩) k cp := hv 3 (of_decide_eq_true (by kernel_rfl)) (by omega)
              have t2 : y.tmps[34]?.getD undef = .int .i64 (i : Int) := hv 4 (of_decide_eq_true (by kernel_rfl)) (by omega)
              clear hw hv hF
              refine wpOp_value (v := .pointer (some ⟨b, off + i, none⟩)) (w' := _) rfl rfl ?_ ⟨rfl, HJ.out⟩
              go_simp
            · have t1 : y.tmps[35]?.getD undef = .pointer (some ⟨b, off + i, none⟩) := hv 5 (of_decide_eq_true (by kernel_rfl)) (by omega)
              have hj' : w' = wr.drew := HJ.out
              subst hj'
              clear hw hv hF
              refine wpOp_value (v := .slice (some ⟨bi, 0, none⟩) n c) (w' := _) rfl rfl ?_ ⟨rfl, HJ.out⟩
              go_simp
            · have t0 : y.tmps[4]?.getD undef = .int .i64 (j : Int) := by rw [hF.2.2 4 (by omega)]; rfl
              clear hw hv hF
              refine wpOp_value (v := .int .i64 (j : Int)) (w' := _) rfl rfl ?_ ⟨rfl, HJ.out⟩
              go_simp
            · have t0 : y.tmps[3]?.getD undef = .slice (some ⟨mg, 0, none⟩) n mc := by rw [hF.2.2 3 (by omega)]; rfl
              clear hw hv hF
              refine wpOp_value (v := .slice (some ⟨mg, 0, none⟩) n mc) (w' := _) rfl rfl ?_ ⟨rfl, HJ.out⟩
              go_simp
            · have t0 : y.tmps[4]?.getD undef = .int .i64 (j : Int) := by rw [hF.2.2 4 (by omega)]; rfl
              clear hw hv hF
              refine wpOp_value (v := .int .i64 (j : Int)) (w' := _) rfl rfl ?_ ⟨rfl, HJ.out⟩
              go_simp
            · have t1 : y.tmps[38]?.getD undef = .slice (some ⟨mg, 0, none⟩) n mc := hv 8 (of_decide_eq_true (by kernel_rfl)) (by omega)
              have t2 : y.tmps[39]?.getD undef = .int .i64 (j : Int) := hv 9 (of_decide_eq_true (by kernel_rfl)) (by omega)
              clear hw hv hF
              refine wpOp_value (v := .pointer (some ⟨mg, j * 2, none⟩)) (w' := _) rfl rfl ?_ ⟨rfl, HJ.out⟩
              go_simp
            · have t1 : y.tmps[40]?.getD undef = .pointer (some ⟨mg, j * 2, none⟩) := hv 10 (of_decide_eq_true (by kernel_rfl)) (by omega)
              have hj' : w' = wr.drew := HJ.out
              subst hj'
              clear hw hv hF
              refine wpOp_value (v := .agg #[.int .i64 mk, .int .i64 0]) (w' := _) rfl rfl ?_ ⟨rfl, HJ.out⟩
              go_simp
            · have t1 : y.tmps[36]?.getD undef = .slice (some ⟨bi, 0, none⟩) n c := hv 6 (of_decide_eq_true (by kernel_rfl)) (by omega)
              have t2 : y.tmps[37]?.getD undef = .int .i64 (j : Int) := hv 7 (of_decide_eq_true (by kernel_rfl)) (by omega)
              clear hw hv hF
              refine wpOp_value (v := .pointer (some ⟨bi, j * 2, none⟩)) (w' := _) rfl rfl ?_ ⟨rfl, HJ.out⟩
              go_simp
          case hrest =>
            intro L w' hL hJ
            have hJ' : w' = wr.drew := hJ
            subst hJ'
            clear hL hJ L
            rw [show List.range' 13 1 = [13] from rfl]
            simp only [putAll, List.range, List.range.loop, List.foldl, Nat.reduceAdd, List.setIfInBounds_toArray, List.set_cons_succ, List.set_cons_zero]
            rw [wpOps_cons]
            refine wpOp_skip (w' := (wr.drew.setCell ⟨bi, j * 2, none⟩ (.int .i64 mk)).setCell ⟨bi, j * 2 + 1, none⟩ (.int .i64 0)) rfl rfl (by go_simp) ?_
            simp only [wpOps, Act.put, List.setIfInBounds_toArray]
            clear c2 hcx hmv hmw hfz hfy hcb hcy
            go_wp2_with fail
            go_roundw
            case rel => exact HREL.out
            case measure => simp [intOf]; omega
        · obtain rfl : j = n := by omega
          have HNX : Hid (PutToS ls ys (i + 1) 0) := Lib.hid (HPQ.out.next fun y hy => by
            have := (HPQ.out.like i y _ hy HL.out).2.2
            rw [this]
            exact HXN.out.symm)
          go_wp2_with fail
          go_roundw
          case rel => exact ⟨i + 1, ys, by omega, by go_num, HNX.out, HRQ.out, HKQ.out⟩
          case measure => simp [intOf]; omega
    · obtain rfl : i = k := by omega
      go_wp2_with fail
      go_end0
      exact ⟨rfl, zs, HPT.out, HRW.out, HKB.out⟩
end Go.Proofs.Ytkcjiogackkecaa
