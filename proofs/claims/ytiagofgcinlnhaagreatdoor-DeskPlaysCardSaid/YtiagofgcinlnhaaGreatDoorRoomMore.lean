/-
  Package room: made, copied, all in use, given back. No statement is proved here.
-/
import Derived.Test.YtiagofgcinlnhaaGreatDoorGrow
import Derived.Test.YtiagofgcinlnhaaGreatDoorWalPure
import Derived.Test.YtiagofgcinlnhaaGreatDoorPutPure
import Derived.Test.YtiagofgcinlnhaaGreatDoorHeadParse
import Derived.Maps.AppendAt
import Derived.Deep.AppendLies
namespace Go.Proofs.YtiagofgcinlnhaaGreatDoor
open Go.RowKit
structure LI where
  A : Option Addr
  c : Nat
  xs : List Int
def LI.val (l : LI) : Value := .slice l.A l.xs.length l.c
theorem RowAt.get {w : World} {p : Option Addr} {ls : List LI} {j : Nat} {l : LI} (h : RowAt w p (ls.map LI.val)) (hl : ls[j]? = some l) : ∃ b off, p = some ⟨b, off, none⟩ ∧ ∀ w', Below w.heap.size w w' → w'.cell? ⟨b, off + j, none⟩ = some l.val := by
  have hj : j < ls.length := by
    rcases Nat.lt_or_ge j ls.length with h | h
    · exact h
    · rw [List.getElem?_eq_none h] at hl; cases hl
  obtain ⟨b, off, e, hbl, hc⟩ := h (by rw [List.length_map]; omega)
  exact ⟨b, off, e, fun w' hw => (hw.cell (p := ⟨b, off + j, none⟩) hbl).trans (hc j _ (by rw [List.getElem?_map, hl]; rfl))⟩
structure RowsI (w : World) (B : Nat) (ls : List LI) : Prop where
  own : ∀ (i : Nat) (l : LI), ls[i]? = some l → w.ownsRow B 3 1 l.val l.xs.length (l.xs.map (Value.int .i64))
  apart : ∀ (i j : Nat) (l l' : LI) (b : Nat), ls[i]? = some l → ls[j]? = some l' → i ≠ j → l.val.ownBlock = some b → l'.val.ownBlock ≠ some b
def FreeOf (ls : List LI) (b : Nat) : Prop := ∀ l ∈ ls, l.val.ownBlock ≠ some b
structure KeptBut (ls : List LI) (B : Nat) (w w' : World) : Prop where
  below : Below B w w'
  block : ∀ b, b < w.heap.size → FreeOf ls b → w'.heap[b]? = w.heap[b]?
theorem KeptBut.refl (ls : List LI) (B : Nat) (w : World) : KeptBut ls B w w := ⟨Below.refl _ _, fun _ _ _ => rfl⟩
theorem KeptBut.more {ls : List LI} {B : Nat} {w w' w'' : World} (h : KeptBut ls B w w') (hB : B ≤ w'.heap.size) (hb : Below w'.heap.size w' w'') : KeptBut ls B w w'' :=
  ⟨h.below.trans (hb.mono hB), fun b h1 h2 => (hb.block b (Nat.lt_of_lt_of_le h1 h.below.size)).trans (h.block b h1 h2)⟩
theorem KeptBut.cell {ls : List LI} {B : Nat} {w w' : World} (h : KeptBut ls B w w') {p : Addr} (hp : p.block < w.heap.size) (hf : FreeOf ls p.block) : w'.cell? p = w.cell? p := World.cell?_of_block (h.block _ hp hf)
theorem KeptBut.put {ls : List LI} {B : Nat} {w w' : World} (h : KeptBut ls B w w') {g i : Nat} (u : Value) (hB : B ≤ g) (hg : ∃ l ∈ ls, l.val.ownBlock = some g) : KeptBut ls B w (w'.setCell ⟨g, i, none⟩ u) :=
  ⟨h.below.setCell hB _, fun b h1 h2 => (Below.heap_setCell _ _ _ _ (fun e => by
    obtain ⟨l, hl, hl2⟩ := hg
    have e : b = g := e
    exact h2 l hl (by rw [hl2, e]))).trans (h.block b h1 h2)⟩
theorem RowsI.below {w w' : World} {B : Nat} {ls : List LI} (h : RowsI w B ls) (hb : Below w.heap.size w w') : RowsI w' B ls :=
  ⟨fun i l hl => row_kept' (h.own i l hl) fun k hk => hb.block k ((h.own i l hl).lt k hk).2, h.apart⟩
structure PutTo (ls zs : List LI) (i j : Nat) : Prop where
  len : zs.length = ls.length
  like : ∀ (a : Nat) (z l : LI), zs[a]? = some z → ls[a]? = some l → z.A = l.A ∧ z.c = l.c ∧ z.xs.length = l.xs.length
  done : ∀ (a : Nat) (z : LI), zs[a]? = some z → a < i → z.xs = marksOf a 0 z.xs.length
  here : ∀ (z : LI), zs[i]? = some z → z.xs.take j = marksOf i 0 j
theorem PutTo.start (ls : List LI) : PutTo ls ls 0 0 := ⟨rfl, fun a z l h1 h2 => by rw [h1] at h2; cases h2; exact ⟨rfl, rfl, rfl⟩, fun a z _ h => by omega, fun z _ => by simp [marksOf]⟩
theorem PutTo.next {ls zs : List LI} {i n : Nat} (h : PutTo ls zs i n) (hn : ∀ z, zs[i]? = some z → z.xs.length = n) : PutTo ls zs (i + 1) 0 :=
  ⟨h.len, h.like, fun a z ha hi => by
    rcases Nat.lt_or_ge a i with h1 | h1
    · exact h.done a z ha h1
    · obtain rfl : a = i := by omega
      have := h.here z ha
      rw [List.take_of_length_le (by rw [hn z ha]; exact Nat.le_refl _)] at this
      rw [hn z ha]
      exact this, fun z _ => by simp [marksOf]⟩
theorem take_set_snoc {α : Type} (l : List α) (j : Nat) (x : α) (h : j < l.length) : (l.set j x).take (j + 1) = l.take j ++ [x] := by
  rw [List.take_succ_eq_append_getElem (by rw [List.length_set]; exact h), List.take_set_of_le (Nat.le_refl _), List.getElem_set_self]
def LI.put (l : LI) (j : Nat) (x : Int) : LI := ⟨l.A, l.c, l.xs.set j x⟩
theorem LI.put_val (l : LI) (j : Nat) (x : Int) : (l.put j x).val = l.val := by unfold LI.put LI.val; simp
theorem PutTo.step {ls zs : List LI} {i j : Nat} {z : LI} (h : PutTo ls zs i j) (hz : zs[i]? = some z) (hj : j < z.xs.length) : PutTo ls (zs.set i (z.put j (markAt i (0 + j)))) i (j + 1) := by
  have hil : i < zs.length := by
    rcases Nat.lt_or_ge i zs.length with h | h
    · exact h
    · rw [List.getElem?_eq_none h] at hz; cases hz
  refine ⟨by rw [List.length_set]; exact h.len, fun a y l hy hl => ?_, fun a y hy ha => ?_, fun y hy => ?_⟩
  · by_cases hai : a = i
    · subst hai
      rw [List.getElem?_set_self hil] at hy
      cases hy
      have := h.like a z l hz hl
      exact ⟨this.1, this.2.1, by unfold LI.put; simp only [List.length_set]; exact this.2.2⟩
    · rw [List.getElem?_set_ne (fun e => hai e.symm)] at hy
      exact h.like a y l hy hl
  · rw [List.getElem?_set_ne (by omega)] at hy
    exact h.done a y hy ha
  · rw [List.getElem?_set_self hil] at hy
    cases hy
    unfold LI.put
    simp only
    rw [take_set_snoc _ _ _ hj, h.here z hz, marksOf_snoc]
theorem RowsI.put {w : World} {B : Nat} {zs : List LI} {i j bi : Nat} {z : LI} {x : Int} (h : RowsI w B zs) (hz : zs[i]? = some z) (hb : z.A = some ⟨bi, 0, none⟩) : RowsI (w.setCell ⟨bi, j, none⟩ (.int .i64 x)) B (zs.set i (z.put j x)) := by
  have hil : i < zs.length := by
    rcases Nat.lt_or_ge i zs.length with h | h
    · exact h
    · rw [List.getElem?_eq_none h] at hz; cases hz
  have hob : z.val.ownBlock = some bi := by unfold LI.val; rw [hb]; rfl
  have get : ∀ (a : Nat) (l : LI), (zs.set i (z.put j x))[a]? = some l → ∃ l0, zs[a]? = some l0 ∧ l.val = l0.val ∧ ((a = i ∧ l = z.put j x) ∨ (a ≠ i ∧ l = l0)) := fun a l hl => by
    by_cases hai : a = i
    · subst hai
      rw [List.getElem?_set_self hil] at hl
      cases hl
      exact ⟨z, hz, LI.put_val _ _ _, .inl ⟨rfl, rfl⟩⟩
    · rw [List.getElem?_set_ne (fun e => hai e.symm)] at hl
      exact ⟨l, hl, rfl, .inr ⟨hai, rfl⟩⟩
  refine ⟨fun a l hl => ?_, fun a a' l l' b h1 h2 hne h3 => ?_⟩
  · obtain ⟨l0, h0, hv, ⟨rfl, rfl⟩ | ⟨hai, rfl⟩⟩ := get a l hl
    · rw [LI.put_val]
      have ho := h.own a z hz
      unfold LI.val at ho ⊢
      rw [hb] at ho ⊢
      have := krow_put ho (i := j) (.int .i64 x)
      unfold LI.put
      simp only [List.length_set, List.map_set]
      exact this
    · exact krow_far (h.own a l h0) (fun e => h.apart a i l z bi h0 hz hai e hob) _
  · obtain ⟨l0, h0, hv, -⟩ := get a l h1
    obtain ⟨l0', h0', hv', -⟩ := get a' l' h2
    rw [hv] at h3
    rw [hv']
    exact h.apart a a' l0 l0' b h0 h0' hne h3
theorem putL_take (x : Int) : ∀ (l : List Int) (k : Nat), (∀ y ∈ l.take k, y < x) → putL x l = l.take k ++ putL x (l.drop k)
  | l, 0, _ => by simp
  | [], k + 1, _ => by simp [putL]
  | y :: r, k + 1, h => by
    have hy : y < x := h y (by simp)
    have := putL_take x r k (fun z hz => h z (by simp [hz]))
    simp only [putL, if_pos hy, List.take_succ_cons, List.drop_succ_cons, List.cons_append]
    rw [this]
structure PuJ (W : World) (V : Nat → Option Value) (k n : Nat) (x : Int) (pre all : List Int) (L : Nat → Bool) (f : Nat → Value) (w' : World) : Prop where
  vals : ∀ i v, L i = true → V i = some v → f i = v
  r3 : L 3 = true → L 6 = false → w'.ownsRow W.heap.size 3 1 (f 3) k (pre.map (Value.int .i64))
  r5 : L 5 = true → L 6 = false → ∃ b, f 5 = .slice (some ⟨b, 0, none⟩) 1 1 ∧ Blk w' b 3 #[.int .i64 x] ∧ W.heap.size ≤ b ∧ (L 3 = true → (f 3).ownBlock ≠ some b)
  r6 : L 6 = true → L 10 = false → w'.ownsRow W.heap.size 3 1 (f 6) (k + 1) ((pre ++ [x]).map (Value.int .i64))
  r10 : L 10 = true → w'.ownsRow W.heap.size 3 1 (f 10) (n + 1) (all.map (Value.int .i64))
  c6 : L 6 = true → L 3 = true ∧ L 5 = true
  c10 : L 10 = true → L 6 = true
  below : Below W.heap.size W w'
theorem PuJ.val {W : World} {V : Nat → Option Value} {k n : Nat} {x : Int} {pre all : List Int} {L : Nat → Bool} {f : Nat → Value} {w' : World} (h : PuJ W V k n x pre all L f w') {i : Nat} {v : Value} (h3 : i ≠ 3) (h5 : i ≠ 5) (h6 : i ≠ 6) (h10 : i ≠ 10) (hv : V i = some v) :
    PuJ W V k n x pre all (fun j => if i = j then true else L j) (fun j => if i = j then v else f j) w' := by
  refine ⟨fun j u hj hu => ?_, ?_, ?_, ?_, ?_, ?_, ?_, h.below⟩
  · by_cases e : i = j
    · subst e
      rw [hv] at hu
      injection hu with hu
      subst hu
      exact if_pos rfl
    · simp only [if_neg e] at hj ⊢
      exact h.vals j u hj hu
  all_goals simp only [if_neg h3, if_neg h5, if_neg h6, if_neg h10]
  · exact h.r3
  · exact h.r5
  · exact h.r6
  · exact h.r10
  · exact h.c6
  · exact h.c10
theorem PuJ.start (W : World) (V : Nat → Option Value) (k n : Nat) (x : Int) (pre all : List Int) : PuJ W V k n x pre all (fun _ => false) (fun _ => undef) W.drew :=
  ⟨(fun _ _ h => by cases h), (fun h => by cases h), (fun h => by cases h), (fun h => by cases h), (fun h => by cases h), (fun h => by cases h), (fun h => by cases h), (Below.refl _ _).drew⟩
def putV (A : Option Addr) (n c k : Nat) (x : Int) : Nat → Option Value
  | 0 => some (.slice A n c) | 1 => some (.int .i64 k) | 2 => some (.slice A k c) | 4 => some (.int .i64 x) | 7 => some (.slice A n c) | 8 => some (.int .i64 k) | 9 => some (sliced A k n c 1) | _ => none
set_option maxRecDepth 100000 in
theorem append_part {w : World} {B : Nat} {i : TypeInfo} (hi : Tryz.prog.info? 3 = some i) (hy0 : i.zero = some (.int .i64 0)) (hy1 : i.size = 1) (hy2 : i.bytes = 8) (v : Value) (n : Nat) (xs : List Value) (hown : w.ownsRow B 3 1 v n xs)
    (A : Option Addr) (m c : Nat) (ys : List Int) (hm : ys.length = m) (h0 : A = none → m = 0 ∧ c = 0) (hc : ∀ a, A = some a → ∀ (j : Nat) (y : Int), ys[j]? = some y → w.cell? (a.add j) = some (.int .i64 y)) (hb : n + m ≤ 2000000) (hB : B ≤ w.heap.size) :
    ∃ v' w', (Builtin.append_ #[39, 39] 39 #[v, .slice A m c]).run Tryz.prog w = .ok v' w' ∧ w'.ownsRow B 3 1 v' (n + m) (xs ++ ys.map (Value.int .i64)) ∧ Below B w w' ∧ w.grownBy w' v.ownBlock := by
  cases A with
  | none =>
    obtain ⟨rfl, rfl⟩ := h0 rfl
    have : ys = [] := List.eq_nil_of_length_eq_zero hm
    subst this
    exact ⟨v, w, run_append_owned_none (P := Tryz.prog) (w := w) B _ _ 3 i 1 Tryz.underlying39 hi v n xs hown, by simpa using hown, Below.refl _ _, ⟨rfl, rfl, rfl, Nat.le_refl _, fun _ _ _ => rfl⟩⟩
  | some a =>
    obtain ⟨v', w', hr, h2, h3, _, _⟩ := run_append_own_at (P := Tryz.prog) w B _ _ 3 i _ 1 8 Tryz.underlying39 hi hy0 hy1 hy2 rfl (by omega) v n xs hown a m c (ys.map (Value.int .i64)) (by simpa using hm)
      (fun j u hu => by
        rw [List.getElem?_map] at hu
        cases hy : ys[j]? with
        | none => rw [hy] at hu; cases hu
        | some y =>
          rw [hy] at hu
          injection hu with hu
          rw [← hu]
          exact hc a rfl j y hy)
      (fun u hu => by
        obtain ⟨y, _, rfl⟩ := List.mem_map.1 hu
        rfl) (by unfold maxLen; omega) (by omega) hB
    exact ⟨v', w', hr, h2, (Below.refl _ _).grown h3 hB (fun q e => (hown.lt q e).1), h3⟩
theorem RoomTurns.refl {w : World} {g n : Nat} {H : List Int} (h : RoomAt w g n H) : RoomTurns w w g n H := ⟨h, by_refl _ _⟩
theorem RoomTurns.drewN {w w' : World} {g n : Nat} {H : List Int} (h : RoomTurns w w' g n H) (d : Nat) : RoomTurns w (w'.drewN d) g n H := ⟨h.room.drewN d, by_drewN h.by_ d⟩
theorem RoomTurns.trans {w w' w'' : World} {g n : Nat} {H H' : List Int} (h : RoomTurns w w' g n H) (k : RoomTurns w' w'' g n H') : RoomTurns w w'' g n H' := ⟨k.room, by_trans h.by_ k.by_⟩
theorem RoomTurns.below {w w' w'' : World} {g n : Nat} {H : List Int} (h : RoomTurns w w' g n H) (k : Below w'.heap.size w' w'') : RoomTurns w w'' g n H := ⟨h.room.below k, by_trans h.by_ (by_below k (Nat.le_refl _))⟩
theorem RoomTurns.cell {w w' : World} {g n : Nat} {H : List Int} (h : RoomTurns w w' g n H) {p : Addr} (hp : p.block < w.heap.size) (hne : p.block ≠ g) : w'.cell? p = w.cell? p :=
  World.cell?_of_block (h.by_.block _ hp (fun e => hne (Option.some.inj e)))
theorem RoomTurns.ints {w w' : World} {g n : Nat} {H : List Int} (h : RoomTurns w w' g n H) {A : Option Addr} {xs : List Int} (hx : Ints w w.heap.size A xs) (hne : ∀ a, A = some a → a.block ≠ g) : Ints w' w'.heap.size A xs := fun hp => by
  obtain ⟨b, off, e, hb, hc⟩ := hx hp
  exact ⟨b, off, e, Nat.lt_of_lt_of_le hb h.by_.size, fun j x hj => (h.cell (p := ⟨b, off + j, none⟩) hb (by have := hne _ e; exact this)).trans (hc j x hj)⟩
theorem RoomTurns.under {w0 w w' : World} {B g n : Nat} {H : List Int} (h : RoomTurns w w' g n H) (hb : Below B w0 w) (hg : B ≤ g) (hB : B ≤ w.heap.size) : Below B w0 w' :=
  ⟨h.by_.os.trans hb.os, h.by_.tape.trans hb.tape, h.by_.output.trans hb.output, Nat.le_trans hb.size h.by_.size, fun i hi => (h.by_.block i (by omega) (fun e => by have := Option.some.inj e; omega)).trans (hb.block i hi)⟩
set_option maxRecDepth 100000 in
set_option maxHeartbeats 2000000 in
theorem rall_any {w : World} {g n : Nat} {H : List Int} (h : RoomAt w g n H) : Calls Tryz.prog 61 #[.pointer (some ⟨g, 0, none⟩)] w fun e w' =>
    ∃ A c, e = .returned (.slice A H.length c) ∧ w'.ownsRow w.heap.size 3 1 (.slice A H.length c) H.length (H.map (Value.int .i64)) ∧ Below w.heap.size w w' := by
  obtain ⟨i0, hi, hz0, hz1, hz2⟩ := info_parts hints_info
  have hs := h.size
  have HS : Hid (∀ W, Below w.heap.size w W → Calls Tryz.prog 50 #[.pointer (some ⟨g, 0, none⟩)] W fun e w' => e = .returned (.int .i64 (n : Int)) ∧ w' = W) := Lib.hid (fun W hW => size_any (h.below hW))
  have HU : Hid (∀ (j : Nat) (W : World), Below w.heap.size w W → Calls Tryz.prog 43 #[.pointer (some ⟨g, 0, none⟩), .int .i64 (j : Int)] W fun e w' => e = .returned (.bool (inP H j)) ∧ ∃ d, w' = W.drewN d) := Lib.hid (fun j W hW => rused_any (j : Int) (h.below hW))
  have HA : Hid (((List.range n).filter (inP H)).map (fun i : Nat => (i : Int)) = H) := Lib.hid (all_list h.ok)
  obtain ⟨P, hP⟩ : ∃ P, P = inP H := ⟨_, rfl⟩
  rw [← hP] at HU HA
  clear h hP
  go_enter Tryz.func61, Tryz.ntmps61
  go_wp2_with fail
  refine (HS.out _ (Below.refl _ _)).mono ?_
  rintro e w1 ⟨rfl, rfl⟩
  go_wp2_with fail
  go_loopw [3, 7] (fun v i wr => ∃ (j : Nat) (xs : List Int), j ≤ n ∧ i = .int .i64 j ∧ xs = ((List.range j).filter P).map (fun i : Nat => (i : Int)) ∧ xs.length ≤ j ∧ wr.ownsRow w1.heap.size 3 1 v xs.length (xs.map (Value.int .i64)) ∧ Below w1.heap.size w1 wr) (fun _ i _ => n - (intOf i).toNat)
  case atStart => exact ⟨0, [], Nat.zero_le _, rfl, rfl, Nat.le_refl _, World.ownsRow_nil _ _ _ _, Below.refl _ _⟩
  case round =>
    obtain ⟨j, xs, hj, rfl, hxs, hxl, hrow, hbr⟩ := hrel
    have HX := Lib.hid hxs
    have HRW := Lib.hid hrow
    have HBR := Lib.hid hbr
    clear hxs hrow hbr
    by_cases hlt : j < n
    · have hjI : (j : Int) < (n : Int) := by omega
      have HC := Lib.hid (HU.out j _ HBR.out)
      obtain ⟨r, hr⟩ : ∃ r, r = P j := ⟨_, rfl⟩
      rw [← hr] at HC
      have HN : Hid (((List.range (j + 1)).filter P).map (fun i : Nat => (i : Int)) = if r = true then xs ++ [(j : Int)] else xs) := Lib.hid (by
        rw [List.range_succ, List.filter_append, List.map_append, ← HX.out, hr]
        simp only [List.filter_cons, List.filter_nil]
        split <;> simp)
      clear hr
      cases r with
      | true =>
        rw [if_pos rfl] at HN
        go_wp2_with fail
        refine HC.out.mono ?_
        rintro e w2 ⟨rfl, d, rfl⟩
        have HB2 : Hid (Below w1.heap.size w1 (wr.drewN d)) := Lib.hid ⟨HBR.out.os, HBR.out.tape, HBR.out.output, HBR.out.size, HBR.out.block⟩
        have HR2 : Hid ((wr.drewN d).ownsRow w1.heap.size 3 1 u3 xs.length (xs.map (Value.int .i64))) := Lib.hid (row_kept' HRW.out fun _ _ => rfl)
        obtain ⟨w2, hw2⟩ : ∃ w2, w2 = wr.drewN d := ⟨_, rfl⟩
        rw [← hw2] at HB2 HR2
        rw [← hw2]
        clear hw2
        go_wp2_with (at_builtin; refine wpList_append_lies _ rfl (.tmp 13) (.tmp 15) 39 rfl w1.heap.size 3 i0 (.int .i64 0) 1 8 Tryz.underlying39 hi hz0 hz1 hz2 rfl (by omega) _ xs.length _ rfl (HR2.out.alloc _) ⟨w2.heap.size, 0, none⟩ 1 1 [.int .i64 j] rfl rfl ?c1 ?c2 (by omega) (by unfold maxLen; omega) (by omega) (by have := HB2.out.size; simp; omega) _ rfl ?_)
        case c1 =>
          intro a u ha
          match a, ha with
          | 0, ha => simp at ha; subst ha; simp [Addr.add]
        case c2 => intro u hu; simp at hu; subst hu; rfl
        intro g2 cap w3 hown hg hor hlt1
        have HB3 : Hid (Below w1.heap.size w1 w3) := Lib.hid ((HB2.out.alloc HB2.out.size _).grown hg (by have := HB2.out.size; simp; omega) (fun q e => (HR2.out.lt q e).1))
        have HR3 : Hid (w3.ownsRow w1.heap.size 3 1 (.slice (some ⟨g2, 0, none⟩) (xs.length + 1) cap) (xs.length + 1) ((xs ++ [(j : Int)]).map (Value.int .i64))) := Lib.hid (by rw [List.map_append]; exact hown)
        clear hown hg hor hlt1
        go_wp2_with fail
        go_roundw
        case rel =>
          refine ⟨j + 1, xs ++ [(j : Int)], by omega, by go_num, HN.out.symm, by simp; omega, ?_, HB3.out⟩
          rw [List.length_append]
          exact HR3.out
        case measure => simp [intOf]; omega
      | false =>
        rw [if_neg (by decide)] at HN
        go_wp2_with fail
        refine HC.out.mono ?_
        rintro e w2 ⟨rfl, d, rfl⟩
        have HB2 : Hid (Below w1.heap.size w1 (wr.drewN d)) := Lib.hid ⟨HBR.out.os, HBR.out.tape, HBR.out.output, HBR.out.size, HBR.out.block⟩
        have HR2 : Hid ((wr.drewN d).ownsRow w1.heap.size 3 1 u3 xs.length (xs.map (Value.int .i64))) := Lib.hid (row_kept' HRW.out fun _ _ => rfl)
        obtain ⟨w2, hw2⟩ : ∃ w2, w2 = wr.drewN d := ⟨_, rfl⟩
        rw [← hw2] at HB2 HR2
        rw [← hw2]
        clear hw2
        go_wp2_with fail
        go_roundw
        case rel => exact ⟨j + 1, xs, by omega, by go_num, HN.out.symm, by omega, HR2.out, HB2.out⟩
        case measure => simp [intOf]; omega
    · obtain rfl : j = n := by omega
      have hxe : xs = H := by rw [HX.out, HA.out]
      subst hxe
      obtain ⟨p, cap, rfl⟩ : ∃ p cap, u3 = .slice p xs.length cap := by
        obtain ⟨p, cap, e, _⟩ := row_slice' HRW.out
        exact ⟨p, cap, e⟩
      go_wp2_with fail
      go_ret
      exact ⟨_, _, rfl, HRW.out, HBR.out⟩
end Go.Proofs.YtiagofgcinlnhaaGreatDoor
