/-
  Package room's small calls: a room's cells, whether a sector is there, in use; its bit. No statement is proved here.
-/
import Derived.Test.YtingkbeifohihaaGreatDoorWalMap
import Derived.Maps.OwnSet
import Derived.Maps.RangeWalk
import Derived.MapFrom
import Derived.Test.YtingkbeifohihaaGreatDoorCrcSeal
import Derived.Test.YtingkbeifohihaaGreatDoorOneMix
import Derived.Test.YtingkbeifohihaaGreatDoorOuts
import Derived.Laws.BitsAllLaws
namespace Go.Proofs.YtingkbeifohihaaGreatDoor
open Go.RowKit Go.WideMaps Go.Maps Go.ChangeMaps
set_option maxRecDepth 100000
def dJ (t : Int) (x : ByteArray) : Value := .agg #[.int .i64 t, .string x]
def iB : Value -> Option (DataW Value × List MemPlace)
 | .agg cs => match cs.toList with
   | [.int .i64 a, .string s] => some (.held (dJ a s), [])
   | _ => none
 | _ => none
theorem pP {v : Value} {z : DataW Value × List MemPlace} (h : iB v = some z) : ∃ t x, v = dJ t x /\ z = (.held (dJ t x), []) := by
 unfold iB at h
 split at h
 ·rename_i cs
  split at h
  ·rename_i a s e
   injection h with h
   refine ⟨a, s, ?_, h.symm⟩
   unfold dJ
   congr 1
   exact Array.toList_inj.1 e
  ·cases h
 ·cases h
def sC : Value := .agg #[.int .i64 0, .string .empty]
def nK (t : Int) : Prop := -9223372036854775808 <= t /\ t <= 9223372036854775807
def eX (w : World) (b m : Nat) (F : Int -> ByteArray) : Prop :=
 ∃ D : DataW Value, w.ownsMap Tryz.prog 3 iB b m D /\ ∀ t : Int, nK t ->
   (F t ≠ .empty -> Maps.has D (.int .i64 t) = true /\ ∀ zd, D.atKey (.int .i64 t) zd = .held (dJ t (F t))) /\ (F t = .empty -> Maps.has D (.int .i64 t) = false)
theorem eX.lt {w : World} {b m : Nat} {F : Int -> ByteArray} (h : eX w b m F) : b < w.heap.size := by
 obtain ⟨D, h, _⟩ := h
 exact h.lt
theorem eX.kept {w w' : World} {b m : Nat} {F : Int -> ByteArray} (h : eX w b m F) (hb : w'.heap[b]? = w.heap[b]?) : eX w' b m F := by
 obtain ⟨D, ⟨es, clock, h1, h2⟩, h3⟩ := h
 exact ⟨D, ⟨es, clock, hb.trans h1, h2⟩, h3⟩
theorem eX.below {w w' : World} {b m : Nat} {F : Int -> ByteArray} (h : eX w b m F) (hb : Below w.heap.size w w') : eX w' b m F := h.kept (hb.block b h.lt)
theorem eX.mono {w : World} {b m m' : Nat} {F : Int -> ByteArray} (h : eX w b m F) (hm : m <= m') : eX w b m' F := by
 obtain ⟨D, ⟨es, clock, h1, h2, h3, h4⟩, h5⟩ := h
 exact ⟨D, ⟨es, clock, h1, h2, Nat.le_trans h3 hm, h4⟩, h5⟩
theorem eX.made (w : World) : eX (w.alloc (.map #[] 0)) w.heap.size 0 (fun _ => .empty) :=
 ⟨.map [], World.ownsMap_made _ _ _ _, fun _ _ => ⟨fun h => absurd rfl h, fun _ => rfl⟩⟩
def vQ (F : Int -> ByteArray) (k : Int) (x : ByteArray) : Int -> ByteArray := fun t => if t = k then x else F t
theorem iP (F : Int -> ByteArray) (k : Int) (x : ByteArray) : vQ F k x k = x := by unfold vQ; rw [if_pos rfl]
theorem iQ (F : Int -> ByteArray) {k t : Int} (x : ByteArray) (h : t ≠ k) : vQ F k x t = F t := by unfold vQ; rw [if_neg h]
theorem eX.update {w : World} {b m : Nat} {F : Int -> ByteArray} (h : eX w b m F) (hm : m < 1000000) {k : Int} (hk : nK k) {x : ByteArray} (hx : x ≠ .empty) :
  ∃ w', (Instr.mapUpdate 64 (.map (some b)) (.int .i64 k) (.agg #[.int .i64 k, .string x])).run Tryz.prog w = .ok () w' /\ eX w' b (m + 1) (vQ F k x) /\ w.grownBy w' (some b) := by
 obtain ⟨D, h1, h2⟩ := h
 have hkey := Ls hk.1 hk.2
 obtain ⟨w', hr, h3, h4⟩ := h1.update qE Tryz.underlying64 (by unfold maxLen; omega) hkey (show iB (.agg #[.int .i64 k, .string x]) = some (.held (dJ k x), []) from rfl)
 refine ⟨w', hr, ⟨_, h3, fun t ht => ?_⟩, h4⟩
 by_cases htk : t = k
 ·subst htk
  rw [iP]
  exact ⟨fun _ => ⟨has_put_same h1.isMap (show WideAt.IsKeyLit (Lit.int .i64 t) from trivial) _, fun zd => atKey_put_same h1.isMap (show WideAt.IsKeyLit (Lit.int .i64 t) from trivial) _ _⟩, fun e => absurd e hx⟩
 ·rw [iQ F x htk]
  have hne : (Lit.int .i64 t) ≠ .int .i64 k := fun e => by
   injection e with _ e
   exact htk e
  refine ⟨fun hu => ?_, fun hu => ?_⟩
  ·obtain ⟨q1, q2⟩ := (h2 t ht).1 hu
   exact ⟨by rw [has_put_other hne]; exact q1, fun zd => by rw [atKey_put_other hne]; exact q2 zd⟩
  ·rw [has_put_other hne]
   exact (h2 t ht).2 hu
theorem Zj (w : World) : (zeroValue 74).run Tryz.prog w = .ok sC w := by kernel_rfl
def xY (F : Int -> ByteArray) (k : Int) : Value := if F k = .empty then sC else dJ k (F k)
theorem eX.look {w : World} {b m : Nat} {F : Int -> ByteArray} (h : eX w b m F) {k : Int} (hk : nK k) :
  (Instr.lookup 64 (.map (some b)) (.int .i64 k) true).run Tryz.prog w = .ok (.tuple #[xY F k, .bool (decide (F k ≠ .empty))]) w := by
 obtain ⟨D, h1, h2⟩ := h
 obtain ⟨v, ps, hr, hv⟩ := h1.look_ok qE Tryz.underlying64 (Zj w) (zd := .held sC) (zp := []) rfl (Ls hk.1 hk.2)
 have hz : DataW.held v = D.atKey (.int .i64 k) (.held sC) := by
  obtain ⟨a, s, rfl, hz⟩ := pP hv
  exact (congrArg Prod.fst hz).symm
 by_cases he : F k = .empty
 ·have hh := (h2 k hk).2 he
  rw [atKey_of_not_has hh] at hz
  injection hz with hz
  rw [hh] at hr
  unfold xY
  rw [if_pos he, <- hz, show decide (F k ≠ ByteArray.empty) = false from decide_eq_false (fun h => h he)]
  exact hr
 ·obtain ⟨q1, q2⟩ := (h2 k hk).1 he
  rw [q2] at hz
  injection hz with hz
  rw [q1] at hr
  unfold xY
  rw [if_neg he, <- hz, show decide (F k ≠ ByteArray.empty) = true from decide_eq_true he]
  exact hr
theorem eX.clear {w : World} {b m : Nat} {F : Int -> ByteArray} (h : eX w b m F) :
  ∃ w', (∀ ty, (Builtin.clear_ #[64] ty #[.map (some b)]).run Tryz.prog w = .ok (.tuple #[]) w') /\ eX w' b m (fun _ => .empty) /\ w.grownBy w' (some b) := by
 obtain ⟨D, ⟨es, clock, hb, F0, hs, rfl⟩, h2⟩ := h
 have hlt : b < w.heap.size := (Array.getElem?_eq_some_iff.1 hb).1
 refine ⟨setBlock w b (.map #[] clock), ?_, ⟨.map [], ⟨#[], clock, heap_setBlock_same hb _, ⟨by simp, MapKept.stamped_empty clock, by simp⟩, Nat.zero_le _, rfl⟩, fun _ _ => ⟨fun h => absurd rfl h, fun _ => rfl⟩⟩, ⟨rfl, rfl, rfl, by simp [setBlock], fun i _ hi => heap_setBlock_other hb _ (fun e => hi (by rw [e]))⟩⟩
 ·intro ty
  simp [Builtin.clear_, run_underlying Tryz.underlying64, MapKept.run_getObj_map hb, MapKept.run_setObj_map _ hb, Result.andThen, setBlock]
def mD (x : Int) : List Int -> List Int
 | [] => [x]
 | y :: r => if y < x then y :: mD x r else if y = x then y :: r else x :: y :: r
theorem jH (x z : Int) : ∀ l : List Int, z ∈ mD x l ↔ z = x \/ z ∈ l
 | [] => by simp [mD]
 | y :: r => by
   unfold mD
   split
   ·rw [List.mem_cons, jH x z r, List.mem_cons]
    constructor
    ·rintro (h | h | h)
     ·exact .inr (.inl h)
     ·exact .inl h
     ·exact .inr (.inr h)
    ·rintro (h | h | h)
     ·exact .inr (.inl h)
     ·exact .inl h
     ·exact .inr (.inr h)
   ·split
    ·rename_i h
     subst h
     simp
    ·simp
theorem vC (x : Int) : ∀ l : List Int, l.Pairwise (· < ·) -> (mD x l).Pairwise (· < ·)
 | [], _ => by simp [mD]
 | y :: r, h => by
   rw [List.pairwise_cons] at h
   unfold mD
   split
   ·rename_i hyx
    rw [List.pairwise_cons]
    refine ⟨fun z hz => ?_, vC x r h.2⟩
    rcases (jH x z r).1 hz with rfl | hz
    ·exact hyx
    ·exact h.1 z hz
   ·split
    ·rw [List.pairwise_cons]; exact h
    ·rename_i h1 h2
     rw [List.pairwise_cons]
     refine ⟨fun z hz => ?_, by rw [List.pairwise_cons]; exact h⟩
     rcases List.mem_cons.1 hz with rfl | hz
     ·omega
     ·have := h.1 z hz
      omega
theorem iS : ∀ (a b : List Int), a.Pairwise (· < ·) -> b.Pairwise (· < ·) -> (∀ x, x ∈ a ↔ x ∈ b) -> a = b
 | [], [], _, _, _ => rfl
 | [], y :: r, _, _, h => by have := (h y).2 (by simp); cases this
 | x :: l, [], _, _, h => by have := (h x).1 (by simp); cases this
 | x :: l, y :: r, ha, hb, h => by
   rw [List.pairwise_cons] at ha hb
   have hxy : x = y := by
    rcases List.mem_cons.1 ((h x).1 (by simp)) with e | e
    ·exact e
    ·rcases List.mem_cons.1 ((h y).2 (by simp)) with e' | e'
     ·exact e'.symm
     ·have h1 := hb.1 x e
      have h2 := ha.1 y e'
      omega
   subst hxy
   congr 1
   refine iS l r ha.2 hb.2 fun z => ⟨fun hz => ?_, fun hz => ?_⟩
   ·rcases List.mem_cons.1 ((h z).1 (by simp [hz])) with e | e
    ·have := ha.1 z hz
     omega
    ·exact e
   ·rcases List.mem_cons.1 ((h z).2 (by simp [hz])) with e | e
    ·have := hb.1 z hz
     omega
    ·exact e
def oA (b : Bool) (v : Nat) : Nat := if b then v else 0
def lF (b0 b1 b2 b3 b4 b5 b6 b7 : Bool) : Nat := oA b0 1 + oA b1 2 + oA b2 4 + oA b3 8 + oA b4 16 + oA b5 32 + oA b6 64 + oA b7 128
def cV (P : Nat -> Bool) (k : Nat) : Nat := lF (P (k * 8)) (P (k * 8 + 1)) (P (k * 8 + 2)) (P (k * 8 + 3)) (P (k * 8 + 4)) (P (k * 8 + 5)) (P (k * 8 + 6)) (P (k * 8 + 7))
def vS (P : Nat -> Bool) (i : Nat) (v : Bool) : Nat -> Bool := fun t => if t = i then v else P t
theorem Zs (b0 b1 b2 b3 b4 b5 b6 b7 : Bool) : lF b0 b1 b2 b3 b4 b5 b6 b7 < 256 := by revert b0 b1 b2 b3 b4 b5 b6 b7; decide +kernel
theorem oX (P : Nat -> Bool) (k : Nat) : cV P k < 256 := Zs _ _ _ _ _ _ _ _
theorem Pb {P Q : Nat -> Bool} {k : Nat} (h : ∀ j, j < 8 -> P (k * 8 + j) = Q (k * 8 + j)) : cV P k = cV Q k := by
 unfold cV
 have h0 : P (k * 8) = Q (k * 8) := h 0 (by omega)
 rw [h0, h 1 (by omega), h 2 (by omega), h 3 (by omega), h 4 (by omega), h 5 (by omega), h 6 (by omega), h 7 (by omega)]
theorem Ue {P : Nat -> Bool} {i k : Nat} {v : Bool} (h : i / 8 ≠ k) : cV (vS P i v) k = cV P k :=
 Pb fun j hj => by unfold vS; rw [if_neg (by omega)]
theorem Zt (b0 b1 b2 b3 b4 b5 b6 b7 : Bool) : (lF b0 b1 b2 b3 b4 b5 b6 b7 ||| 1 = lF true b1 b2 b3 b4 b5 b6 b7 /\ lF b0 b1 b2 b3 b4 b5 b6 b7 ||| 2 = lF b0 true b2 b3 b4 b5 b6 b7 /\ lF b0 b1 b2 b3 b4 b5 b6 b7 ||| 4 = lF b0 b1 true b3 b4 b5 b6 b7 /\ lF b0 b1 b2 b3 b4 b5 b6 b7 ||| 8 = lF b0 b1 b2 true b4 b5 b6 b7) /\
  (lF b0 b1 b2 b3 b4 b5 b6 b7 ||| 16 = lF b0 b1 b2 b3 true b5 b6 b7 /\ lF b0 b1 b2 b3 b4 b5 b6 b7 ||| 32 = lF b0 b1 b2 b3 b4 true b6 b7 /\ lF b0 b1 b2 b3 b4 b5 b6 b7 ||| 64 = lF b0 b1 b2 b3 b4 b5 true b7 /\ lF b0 b1 b2 b3 b4 b5 b6 b7 ||| 128 = lF b0 b1 b2 b3 b4 b5 b6 true) := by
 revert b0 b1 b2 b3 b4 b5 b6 b7; decide +kernel
theorem Xo (b0 b1 b2 b3 b4 b5 b6 b7 : Bool) : (lF b0 b1 b2 b3 b4 b5 b6 b7 &&& (255 - 1) = lF false b1 b2 b3 b4 b5 b6 b7 /\ lF b0 b1 b2 b3 b4 b5 b6 b7 &&& (255 - 2) = lF b0 false b2 b3 b4 b5 b6 b7 /\ lF b0 b1 b2 b3 b4 b5 b6 b7 &&& (255 - 4) = lF b0 b1 false b3 b4 b5 b6 b7 /\ lF b0 b1 b2 b3 b4 b5 b6 b7 &&& (255 - 8) = lF b0 b1 b2 false b4 b5 b6 b7) /\
  (lF b0 b1 b2 b3 b4 b5 b6 b7 &&& (255 - 16) = lF b0 b1 b2 b3 false b5 b6 b7 /\ lF b0 b1 b2 b3 b4 b5 b6 b7 &&& (255 - 32) = lF b0 b1 b2 b3 b4 false b6 b7 /\ lF b0 b1 b2 b3 b4 b5 b6 b7 &&& (255 - 64) = lF b0 b1 b2 b3 b4 b5 false b7 /\ lF b0 b1 b2 b3 b4 b5 b6 b7 &&& (255 - 128) = lF b0 b1 b2 b3 b4 b5 b6 false) := by
 revert b0 b1 b2 b3 b4 b5 b6 b7; decide +kernel
theorem Xp (b0 b1 b2 b3 b4 b5 b6 b7 : Bool) : (lF b0 b1 b2 b3 b4 b5 b6 b7 &&& 1 = oA b0 1 /\ lF b0 b1 b2 b3 b4 b5 b6 b7 &&& 2 = oA b1 2 /\ lF b0 b1 b2 b3 b4 b5 b6 b7 &&& 4 = oA b2 4 /\ lF b0 b1 b2 b3 b4 b5 b6 b7 &&& 8 = oA b3 8) /\
  (lF b0 b1 b2 b3 b4 b5 b6 b7 &&& 16 = oA b4 16 /\ lF b0 b1 b2 b3 b4 b5 b6 b7 &&& 32 = oA b5 32 /\ lF b0 b1 b2 b3 b4 b5 b6 b7 &&& 64 = oA b6 64 /\ lF b0 b1 b2 b3 b4 b5 b6 b7 &&& 128 = oA b7 128) := by
 revert b0 b1 b2 b3 b4 b5 b6 b7; decide +kernel
theorem yO {j : Nat} (h : j < 8) : j = 0 \/ j = 1 \/ j = 2 \/ j = 3 \/ j = 4 \/ j = 5 \/ j = 6 \/ j = 7 := by omega
theorem Ly {P : Nat -> Bool} {k j : Nat} {v : Bool} : ∀ t, t < 8 -> vS P (k * 8 + j) v (k * 8 + t) = if t = j then v else P (k * 8 + t) := fun t _ => by
 unfold vS
 by_cases e : t = j
 ·rw [if_pos e, if_pos (by omega)]
 ·rw [if_neg e, if_neg (by omega)]
theorem Pc (P : Nat -> Bool) (k j : Nat) (hj : j < 8) : cV P k ||| 2 ^ j = cV (vS P (k * 8 + j) true) k := by
 have u := @Ly P k j true
 have u0 := u 0 (by omega)
 rw [Nat.add_zero] at u0
 unfold cV
 rw [u0, u 1 (by omega), u 2 (by omega), u 3 (by omega), u 4 (by omega), u 5 (by omega), u 6 (by omega), u 7 (by omega)]
 obtain ⟨⟨h0, h1, h2, h3⟩, h4, h5, h6, h7⟩ := Zt (P (k * 8)) (P (k * 8 + 1)) (P (k * 8 + 2)) (P (k * 8 + 3)) (P (k * 8 + 4)) (P (k * 8 + 5)) (P (k * 8 + 6)) (P (k * 8 + 7))
 rcases yO hj with rfl | rfl | rfl | rfl | rfl | rfl | rfl | rfl
 ·exact h0
 ·exact h1
 ·exact h2
 ·exact h3
 ·exact h4
 ·exact h5
 ·exact h6
 ·exact h7
theorem Gf (P : Nat -> Bool) (k j : Nat) (hj : j < 8) : cV P k &&& (255 - 2 ^ j) = cV (vS P (k * 8 + j) false) k := by
 have u := @Ly P k j false
 have u0 := u 0 (by omega)
 rw [Nat.add_zero] at u0
 unfold cV
 rw [u0, u 1 (by omega), u 2 (by omega), u 3 (by omega), u 4 (by omega), u 5 (by omega), u 6 (by omega), u 7 (by omega)]
 obtain ⟨⟨h0, h1, h2, h3⟩, h4, h5, h6, h7⟩ := Xo (P (k * 8)) (P (k * 8 + 1)) (P (k * 8 + 2)) (P (k * 8 + 3)) (P (k * 8 + 4)) (P (k * 8 + 5)) (P (k * 8 + 6)) (P (k * 8 + 7))
 rcases yO hj with rfl | rfl | rfl | rfl | rfl | rfl | rfl | rfl
 ·exact h0
 ·exact h1
 ·exact h2
 ·exact h3
 ·exact h4
 ·exact h5
 ·exact h6
 ·exact h7
theorem Pd (P : Nat -> Bool) (k j : Nat) (hj : j < 8) : cV P k &&& 2 ^ j = oA (P (k * 8 + j)) (2 ^ j) := by
 unfold cV
 obtain ⟨⟨h0, h1, h2, h3⟩, h4, h5, h6, h7⟩ := Xp (P (k * 8)) (P (k * 8 + 1)) (P (k * 8 + 2)) (P (k * 8 + 3)) (P (k * 8 + 4)) (P (k * 8 + 5)) (P (k * 8 + 6)) (P (k * 8 + 7))
 rcases yO hj with rfl | rfl | rfl | rfl | rfl | rfl | rfl | rfl
 ·exact h0
 ·exact h1
 ·exact h2
 ·exact h3
 ·exact h4
 ·exact h5
 ·exact h6
 ·exact h7
def AM (b0 b1 b2 b3 b4 b5 b6 b7 : Bool) : Nat := if b0 then 0 else if b1 then 1 else if b2 then 2 else if b3 then 3 else if b4 then 4 else if b5 then 5 else if b6 then 6 else if b7 then 7 else 8
def dK (P : Nat -> Bool) (k : Nat) : Nat := AM (!P (k * 8)) (!P (k * 8 + 1)) (!P (k * 8 + 2)) (!P (k * 8 + 3)) (!P (k * 8 + 4)) (!P (k * 8 + 5)) (!P (k * 8 + 6)) (!P (k * 8 + 7))
def mC (P : Nat -> Bool) (k : Nat) : Nat := (P (k * 8)).toNat + (P (k * 8 + 1)).toNat + (P (k * 8 + 2)).toNat + (P (k * 8 + 3)).toNat + (P (k * 8 + 4)).toNat + (P (k * 8 + 5)).toNat + (P (k * 8 + 6)).toNat + (P (k * 8 + 7)).toNat
theorem Uf (b0 b1 b2 b3 b4 b5 b6 b7 : Bool) : ∀ t, t <= 8 -> (AM b0 b1 b2 b3 b4 b5 b6 b7 = t ↔ (∀ j, j < t -> [b0, b1, b2, b3, b4, b5, b6, b7][j]? = some false) /\ (t < 8 -> [b0, b1, b2, b3, b4, b5, b6, b7][t]? = some true)) := by
 revert b0 b1 b2 b3 b4 b5 b6 b7; decide +kernel
theorem Zu (b0 b1 b2 b3 b4 b5 b6 b7 : Bool) : AM b0 b1 b2 b3 b4 b5 b6 b7 <= 8 := by revert b0 b1 b2 b3 b4 b5 b6 b7; decide +kernel
theorem mT (P : Nat -> Bool) (k : Nat) : dK P k <= 8 := Zu _ _ _ _ _ _ _ _
theorem oY (P : Nat -> Bool) (k : Nat) : (∀ j, j < dK P k -> P (k * 8 + j) = true) /\ (dK P k < 8 -> P (k * 8 + dK P k) = false) := by
 have key : ∀ j, j < 8 -> [!P (k * 8), !P (k * 8 + 1), !P (k * 8 + 2), !P (k * 8 + 3), !P (k * 8 + 4), !P (k * 8 + 5), !P (k * 8 + 6), !P (k * 8 + 7)][j]? = some (!P (k * 8 + j)) := fun j hj => by
  rcases yO hj with rfl | rfl | rfl | rfl | rfl | rfl | rfl | rfl <;> rfl
 have h := (Uf (!P (k * 8)) (!P (k * 8 + 1)) (!P (k * 8 + 2)) (!P (k * 8 + 3)) (!P (k * 8 + 4)) (!P (k * 8 + 5)) (!P (k * 8 + 6)) (!P (k * 8 + 7)) (dK P k) (mT P k)).1 rfl
 have hle := mT P k
 refine ⟨fun j hj => ?_, fun hlt => ?_⟩
 ·have := h.1 j hj
  rw [key j (by omega)] at this
  have := Option.some.inj this
  simpa using this
 ·have := h.2 hlt
  rw [key _ hlt] at this
  have := Option.some.inj this
  simpa using this
theorem Pe (P : Nat -> Bool) (k : Nat) : cV P k = 255 ↔ dK P k = 8 := by
 have : ∀ b0 b1 b2 b3 b4 b5 b6 b7 : Bool, lF b0 b1 b2 b3 b4 b5 b6 b7 = 255 ↔ AM (!b0) (!b1) (!b2) (!b3) (!b4) (!b5) (!b6) (!b7) = 8 := by decide +kernel
 exact this _ _ _ _ _ _ _ _
structure oZ (n : Nat) (H : List Int) : Prop where
 rise : H.Pairwise (· < ·)
 range : ∀ x ∈ H, 0 <= x /\ x < (n : Int)
def jS (H : List Int) (i : Nat) : Bool := decide ((i : Int) ∈ H)
theorem lV (H : List Int) (i : Nat) : jS H i = true ↔ (i : Int) ∈ H := decide_eq_true_iff
theorem oZ.nil (n : Nat) : oZ n [] := ⟨List.Pairwise.nil, fun _ h => by cases h⟩
theorem oZ.put {n : Nat} {H : List Int} (h : oZ n H) {x : Int} (h0 : 0 <= x) (h1 : x < (n : Int)) : oZ n (mD x H) :=
 ⟨vC x H h.rise, fun y hy => by
  rcases (jH x y H).1 hy with rfl | hy
  ·exact ⟨h0, h1⟩
  ·exact h.range y hy⟩
theorem Xq (H : List Int) (i : Nat) : jS (mD (i : Int) H) = vS (jS H) i true := by
 funext t
 unfold vS jS
 by_cases e : t = i
 ·rw [if_pos e]
  exact decide_eq_true ((jH _ _ _).2 (.inl (by omega)))
 ·rw [if_neg e]
  have : ((t : Int) ∈ mD (i : Int) H) ↔ (t : Int) ∈ H := by
   rw [jH]
   exact ⟨fun h => h.resolve_left (by omega), .inr⟩
  exact decide_eq_decide.2 this
def fW (x : Int) (H : List Int) : List Int := H.filter fun y => decide (y ≠ x)
theorem mU (x y : Int) (H : List Int) : y ∈ fW x H ↔ y ∈ H /\ y ≠ x := by unfold fW; rw [List.mem_filter, decide_eq_true_eq]
theorem oZ.drop {n : Nat} {H : List Int} (h : oZ n H) (x : Int) : oZ n (fW x H) :=
 ⟨h.rise.filter _, fun y hy => h.range y ((mU x y H).1 hy).1⟩
theorem Ug (H : List Int) (i : Nat) : jS (fW (i : Int) H) = vS (jS H) i false := by
 funext t
 unfold vS jS
 by_cases e : t = i
 ·rw [if_pos e]
  exact decide_eq_false fun h => ((mU _ _ _).1 h).2 (by omega)
 ·rw [if_neg e]
  have : ((t : Int) ∈ fW (i : Int) H) ↔ (t : Int) ∈ H := by
   rw [mU]
   exact ⟨fun h => h.1, fun h => ⟨h, by omega⟩⟩
  exact decide_eq_decide.2 this
theorem Pf {x : Int} {H : List Int} (h : x ∉ H) : fW x H = H := by
 unfold fW
 rw [List.filter_eq_self]
 intro y hy
 exact decide_eq_true fun e => h (e ▸ hy)
structure gS (H : List Int) (k : Nat) : Prop where
 all : ∀ i : Nat, i < k -> (i : Int) ∈ H
 not : (k : Int) ∉ H
theorem gS.one {H : List Int} {k k' : Nat} (h : gS H k) (h' : gS H k') : k = k' := by
 rcases Nat.lt_trichotomy k k' with hl | hl | hl
 ·exact absurd (h'.all k hl) h.not
 ·exact hl
 ·exact absurd (h.all k' hl) h'.not
theorem gS.le {n : Nat} {H : List Int} {k : Nat} (h : gS H k) (ho : oZ n H) : k <= n := by
 rcases Nat.lt_or_ge n k with hl | hl
 ·have := ho.range _ (h.all n hl)
  omega
 ·exact hl
theorem gS.byte {H : List Int} {k : Nat} (hf : ∀ j, j < k -> dK (jS H) j = 8) (h : dK (jS H) k < 8) : gS H (k * 8 + dK (jS H) k) := by
 obtain ⟨s1, s2⟩ := oY (jS H) k
 refine ⟨fun i hi => ?_, fun hm => ?_⟩
 ·rcases Nat.lt_or_ge i (k * 8) with h' | h'
  ·have e := (oY (jS H) (i / 8)).1 (i % 8) (by rw [hf (i / 8) (by omega)]; omega)
   rw [show i / 8 * 8 + i % 8 = i by omega] at e
   exact (lV _ _).1 e
  ·have e := s1 (i - k * 8) (by omega)
   rw [show k * 8 + (i - k * 8) = i by omega] at e
   exact (lV _ _).1 e
 ·have := (lV _ _).2 hm
  rw [s2 h] at this
  cases this
theorem sM {n : Nat} {H : List Int} (ho : oZ n H) : ((List.range n).filter (jS H)).map (fun i : Nat => (i : Int)) = H := by
 refine iS _ _ ?_ ho.rise fun x => ?_
 ·rw [List.pairwise_map]
  refine (List.Pairwise.filter _ List.pairwise_lt_range).imp ?_
  intro a b h
  omega
 ·rw [List.mem_map]
  constructor
  ·rintro ⟨i, hi, rfl⟩
   exact (lV _ _).1 (List.mem_filter.1 hi).2
  ·intro hx
   obtain ⟨h0, h1⟩ := ho.range x hx
   obtain ⟨i, rfl⟩ := Int.eq_ofNat_of_zero_le h0
   refine ⟨i, List.mem_filter.2 ⟨List.mem_range.2 (by omega), (lV _ _).2 hx⟩, rfl⟩
def jO (P : Nat -> Bool) : Nat -> Nat
 | 0 => 0
 | k + 1 => jO P k + mC P k
theorem nP (P : Nat -> Bool) : ∀ k, jO P k = ((List.range (k * 8)).filter P).length
 | 0 => rfl
 | k + 1 => by
   have e : List.range ((k + 1) * 8) = List.range (k * 8) ++ [k * 8, k * 8 + 1, k * 8 + 2, k * 8 + 3, k * 8 + 4, k * 8 + 5, k * 8 + 6, k * 8 + 7] := by
    rw [show (k + 1) * 8 = k * 8 + 8 by omega, List.range_add]
    rfl
   rw [e, List.filter_append, List.length_append, <- nP P k]
   show jO P k + mC P k = _
   congr 1
   have key : ∀ b : Bool, (if b = true then 1 else 0) = b.toNat := by decide
   rw [<- List.countP_eq_length_filter]
   simp only [List.countP_cons, List.countP_nil, key]
   unfold mC
   omega
theorem Pg {n : Nat} {H : List Int} (ho : oZ n H) {k : Nat} (hk : n <= k * 8) : jO (jS H) k = H.length := by
 have h' : oZ (k * 8) H := ⟨ho.rise, fun x hx => by have := ho.range x hx; omega⟩
 have := congrArg List.length (sM h')
 rw [List.length_map] at this
 rw [nP, this]
theorem oZ.few {n : Nat} {H : List Int} (ho : oZ n H) : H.length <= n := by
 have := congrArg List.length (sM ho)
 rw [List.length_map] at this
 rw [<- this]
 refine Nat.le_trans (List.length_filter_le _ _) ?_
 rw [List.length_range]
 exact Nat.le_refl _
def Gg (s : List Int × Nat) (x : Int) : List Int × Nat := if x ∈ s.1 then (fW x s.1, s.2 + 1) else s
def jG (H : List Int) (l : List Int) : List Int × Nat := l.foldl Gg (H, 0)
theorem Jq (H : List Int) {l : List Int} {j : Nat} {x : Int} (h : l[j]? = some x) : jG H (l.take (j + 1)) = Gg (jG H (l.take j)) x := by
 unfold jG
 rw [List.take_add_one, h, List.foldl_append]
 rfl
open Go.RowKit
set_option maxRecDepth 100000
def yL (n : Nat) (P : Nat -> Bool) : List Value := .int .i64 (n : Int) :: (List.range 238).map fun k => Value.int .u8 (cV P k : Int)
def kU (n : Nat) (P : Nat -> Bool) : Array Value := (yL n P).toArray
theorem Df (n : Nat) (P : Nat -> Bool) : (yL n P).length = 239 := by simp [yL]
theorem qY (n : Nat) (P : Nat -> Bool) : (kU n P).size = 239 := by simp [kU, Df]
theorem Jp (n : Nat) (P : Nat -> Bool) : (kU n P)[0]? = some (.int .i64 (n : Int)) := by simp [kU, yL]
theorem yM (n : Nat) (P : Nat -> Bool) {k : Nat} (hk : k < 238) : (kU n P)[1 + k]? = some (.int .u8 (cV P k : Int)) := by
 unfold kU yL
 rw [List.getElem?_toArray, Nat.add_comm 1 k, List.getElem?_cons_succ, List.getElem?_map, List.getElem?_range hk]
 rfl
theorem Bt (n : Nat) (P : Nat -> Bool) {k j : Nat} (hj : j < 8) (v : Bool) (b : Nat) (hb : b = cV (vS P (k * 8 + j) v) k) : (kU n P).setIfInBounds (1 + k) (.int .u8 (b : Int)) = kU n (vS P (k * 8 + j) v) := by
 unfold kU
 rw [List.setIfInBounds_toArray]
 congr 1
 unfold yL
 rw [Nat.add_comm 1 k, List.set_cons_succ]
 congr 1
 refine List.ext_getElem? fun t => ?_
 rw [List.getElem?_map]
 by_cases e : k = t
 ·subst e
  by_cases ht : k < 238
  ·rw [List.getElem?_set_self (by simpa using ht), List.getElem?_range ht, hb]
   rfl
  ·rw [List.getElem?_eq_none (by simp; omega), List.getElem?_eq_none (by simp; omega)]
   rfl
 ·rw [List.getElem?_set_ne e, List.getElem?_map]
  cases hr : (List.range 238)[t]? with
  | none => rfl
  | some x =>
    have hx : x = t := by
     have ht : t < 238 := by
      rcases Nat.lt_or_ge t 238 with h | h
      ·exact h
      ·rw [List.getElem?_eq_none (by simpa using h)] at hr; cases hr
     rw [List.getElem?_range ht] at hr
     exact (Option.some.inj hr).symm
    subst hx
    simp only [Option.map_some]
    rw [Ue (by omega)]
structure aU (w : World) (g n : Nat) (H : List Int) : Prop where
 blk : aG w g 95 (kU n (jS H))
 ok : oZ n H
 size : n <= 1900
theorem aU.lt {w : World} {g n : Nat} {H : List Int} (h : aU w g n H) : g < w.heap.size := h.blk.lt
theorem aU.below {w w' : World} {g n : Nat} {H : List Int} (h : aU w g n H) (hb : Below w.heap.size w w') : aU w' g n H := ⟨h.blk.below hb h.lt, h.ok, h.size⟩
theorem aU.drewN {w : World} {g n : Nat} {H : List Int} (h : aU w g n H) (d : Nat) : aU (w.drewN d) g n H := ⟨h.blk.drewN d, h.ok, h.size⟩
theorem aU.zero {w : World} {g n : Nat} {H : List Int} (h : aU w g n H) : w.cell? ⟨g, 0, none⟩ = some (.int .i64 (n : Int)) := (h.blk.cell 0).trans (Jp _ _)
theorem aU.byte {w : World} {g n : Nat} {H : List Int} (h : aU w g n H) {k : Nat} (hk : k < 238) : w.cell? ⟨g, 1 + k, none⟩ = some (.int .u8 (cV (jS H) k : Int)) := (h.blk.cell _).trans (yM _ _ hk)
theorem Ge {w : World} {g n : Nat} {H : List Int} (h : aU w g n H) : Calls Tryz.prog 108 #[.pointer (some ⟨g, 0, none⟩)] w fun e w' => e = .returned (.int .i64 (n : Int)) /\ w' = w := by
 have c0 := h.zero
 have hl := h.lt
 clear h
 go_enter Tryz.func108, Tryz.ntmps108
 go_wp2_with fail
 go_ret
 exact ⟨rfl, rfl⟩
theorem yN (i : Int) {w : World} {g n : Nat} {H : List Int} (h : aU w g n H) : Calls Tryz.prog 94 #[.pointer (some ⟨g, 0, none⟩), .int .i64 i] w fun e w' => e = .returned (.bool (decide (0 <= i /\ i < (n : Int)))) /\ w' = w := by
 have HS := Lib.hid (Ge h)
 obtain ⟨r, hr⟩ : ∃ r, r = decide (0 <= i /\ i < (n : Int)) := ⟨_, rfl⟩
 rw [<- hr]
 have HR := Lib.hid hr
 clear h hr
 by_cases h0 : 0 <= i
 ·go_enter Tryz.func94, Tryz.ntmps94
  go_wp2_with fail
  refine HS.out.mono ?_
  rintro e w1 ⟨rfl, rfl⟩
  by_cases h1 : i < (n : Int)
  ·obtain rfl : r = true := by rw [HR.out]; exact decide_eq_true ⟨h0, h1⟩
   go_wp2_with fail
   go_ret
   exact ⟨rfl, rfl⟩
  ·obtain rfl : r = false := by rw [HR.out]; exact decide_eq_false (fun h => h1 h.2)
   go_wp2_with fail
   go_ret
   exact ⟨by rw [decide_eq_false (by omega)]; rfl, rfl⟩
 ·obtain rfl : r = false := by rw [HR.out]; exact decide_eq_false (fun h => h0 h.1)
  have h0' : i < 0 := by omega
  go_enter Tryz.func94, Tryz.ntmps94
  go_wp2_with fail
  go_ret
  exact ⟨rfl, rfl⟩
theorem Dg (i : Nat) (hi : i <= 1900) (w : World) : Calls Tryz.prog 142 #[.int .i64 (i : Int)] w fun e w' => e = .returned (.int .u8 ((2 ^ (i % 8) : Nat) : Int)) /\ w' = w := by
 obtain ⟨j, hj⟩ : ∃ j, j = i % 8 := ⟨_, rfl⟩
 have hm' : (i : Int) % 8 = (j : Int) := by omega
 have hm : (i : Int).tmod 8 = (j : Int) := by rw [Int.tmod_eq_emod_of_nonneg (by omega)]; exact hm'
 rw [<- hj]
 have hj8 : j < 8 := by omega
 clear hj
 go_enter Tryz.func142, Tryz.ntmps142
 rcases yO hj8 with rfl | rfl | rfl | rfl | rfl | rfl | rfl | rfl
 all_goals
  go_wp2_with fail
  go_ret
  exact ⟨rfl, rfl⟩
end Go.Proofs.YtingkbeifohihaaGreatDoor
