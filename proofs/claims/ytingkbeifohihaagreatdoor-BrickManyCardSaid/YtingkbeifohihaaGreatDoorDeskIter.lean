/-
  maps.Values and slices.Collect over the desk's map: its entries, each once, in some order, as a list of its own. No statement is proved here.
-/
import Derived.Test.YtingkbeifohihaaGreatDoorRoomSmall
import Derived.Test.YtingkbeifohihaaGreatDoorHeadNextOwn
import Derived.RangeFuncNested
import Derived.RangeFuncLeaves
import Derived.Sort.MapsRangeIn
import Derived.Lib.SlKeysI
import Derived.Shelf.Abstract
import Derived.Shelf.AbstractIn
import Derived.WalkKit
import Derived.OwnWalkIn
import Derived.TacticsInMore
import Derived.RegionIn
import Derived.LoopNIn
import Derived.LoopIn
namespace Go.Proofs.YtingkbeifohihaaGreatDoor
open Go.RowKit Go.Maps Go.Sort Go.Shelf
set_option maxRecDepth 100000
set_option maxHeartbeats 4000000
attribute [local go_sem] Oper.semAt_some
def zA (D0 : DataW Value) (F : Int -> ByteArray) : Prop := ∀ t : Int, nK t -> Maps.has D0 (.int .i64 t) = true -> ∀ zd, D0.atKey (.int .i64 t) zd = .held (dJ t (F t))
def lY (D0 : DataW Value) (ss : List Int) : Prop := ss.Nodup /\ (∀ x, x ∈ ss ↔ Maps.has D0 (.int .i64 x) = true) /\ ∀ x ∈ ss, nK x
theorem Vd (Fc : Fence) (n : Nat) (h8 : Fc.fn 107) (hro : Fc.round = none) (hn : 1 <= n) (l Bm b nn : Nat) (D0 : DataW Value) (F : Int -> ByteArray) (hval : zA D0 F) (J Jx : List Int -> World -> Prop)
  (hY : ∀ pre x W, J pre W -> pre.length < Maps.size D0 -> YieldAt Fc (n - 1) Tryz.prog l #[dJ x (F x)] W fun e W' =>
   (e = .returned (.bool true) /\ J (pre ++ [x]) W' /\ KeepsWalks W W') \/ (e = .returned (.bool false) /\ Jx (pre ++ [x]) W'))
  (W : World) (hJ : AbidesFrom W.heap.size J) (hm : W.cell? ⟨Bm, 0, none⟩ = some (.map (some b))) (hown : W.ownsMap Tryz.prog 3 iB b nn D0) (h0 : J [] W) :
  CallsIn Fc n Tryz.prog 107 #[.func (.yield l) #[] #[], .pointer (some ⟨Bm, 0, none⟩)] W fun e W' => (∃ v, e = .returned v) /\
   ((∃ ss : List Int, lY D0 ss /\ J ss W') \/ (∃ pre : List Int, True /\ Jx pre W')) := by
 refine callsIn_of_wp Tryz.func107 rfl h8 ?_ hro
 simp only [Tryz.ntmps107, List.size_toArray, List.length_cons, List.length_nil, Nat.reduceAdd, Nat.reduceSub, Array.replicate_succ, Array.replicate_zero, List.push_toArray, List.append_toArray, List.nil_append, List.cons_append]
 gi_wp2_with (first
  | (gi_at_range; refine wpListIn_range_own _ rfl _ 64 rfl 3 74 qE Tryz.underlying64 _ b nn _ rfl hown ?_; intro w0 hrg0 hg0 hs0)
  | gi_in)
 go_frame
 gi_loopw [4] (fun _ wr => ∃ (left : Lit -> Bool) (cnt : Nat) (ss : List Int), wr.ranges Tryz.prog 3 iB b W.heap.size nn D0 left cnt /\ ss.length + cnt <= Maps.size D0 /\ CollectedI D0 left ss /\ (∀ x ∈ ss, nK x) /\ J ss wr)
  (fun _ wr => wr.rangeLeft b W.heap.size)
 case atStart =>
  exact ⟨_, _, [], hrg0, by simp, CollectedI.start D0, (fun x hx => by cases hx), hJ [] W w0 none h0 hg0 (fun r e => by cases e)⟩
 case round =>
  obtain ⟨left, cnt, ss, hrg, hcs, hC, hCI, hJs⟩ := hrel
  gi_wp2_with (first
   | (gi_at_next; refine wpListIn_next_ranges _ rfl _ rfl 3 qE iB (Value.int .i64) (fun p : Int × ByteArray => dJ p.1 p.2) (fun key kl hk => by obtain ⟨x, hx, _⟩ := Maps.keyOf_int_inv Tryz.underlying3 hk; exact ⟨x, hx⟩) (fun v y hv => by obtain ⟨t, x, rfl, _⟩ := pP hv; exact ⟨(t, x), rfl⟩) b W.heap.size nn _ _ _ rfl hrg ?_ ?_)
   | gi_in)
  ·
   intro hc0 hl0
   gi_wp2
   go_end0
   exact ⟨⟨_, rfl⟩, .inl ⟨ss, ⟨hC.1, fun x => by rw [hC.2 x, hl0]; simp, hCI⟩, hJs⟩⟩
  ·
   intro x c1 c2 kl yd yp w2 cnt2 hkey hlk hv hat hrg2 hlt hg2 hs2 hen
   obtain ⟨x', ex, rfl, hwf⟩ := Maps.keyOf_int_inv Tryz.underlying3 hkey
   obtain rfl : x = x' := by injection ex
   obtain ⟨t, s, ev, ez⟩ := pP hv
   have hI : nK x := by
    have h2 := hwf
    unfold Lit.wf at h2
    simp only [Bool.and_eq_true, decide_eq_true_eq, show IntKind.i64.min = -9223372036854775808 from by decide, show IntKind.i64.max = 9223372036854775807 from by decide] at h2
    exact h2
   have hh : Maps.has D0 (.int .i64 x) = true := Maps.has_true_of_atKey hat
   have hv2 : x = c1 /\ F x = c2 := by
    have e1 := hval x hI hh .nil
    rw [hat .nil] at e1
    have e2 : yd = .held (dJ t s) := congrArg Prod.fst ez
    rw [e2] at e1
    injection e1 with e1
    have e3 : dJ x (F x) = dJ c1 c2 := (ev.trans e1).symm
    unfold dJ at e3
    injection e3 with e3
    simpa using e3
   obtain ⟨rfl, rfl⟩ := hv2
   have hJ2 : J ss w2 := hJ ss wr w2 (some W.heap.size) hJs hg2 (fun r e => by cases e; exact ⟨Nat.le_refl _, hrg.iter_walk⟩)
   obtain ⟨w3, hw3⟩ : ∃ w3, w3 = w2.alloc (.cells #[.int .i64 x, .string (F x)] 74) := ⟨_, rfl⟩
   have hJ3 : J ss w3 := by rw [hw3]; exact hJ ss w2 _ none hJ2 (World.grownBy_alloc w2 _ none) (fun r e => by cases e)
   have hrg3 : w3.ranges Tryz.prog 3 iB b W.heap.size nn D0 (fun z => left z && !z.sameKey (.int .i64 x)) cnt2 := by rw [hw3]; exact hrg2.alloc _
   obtain ⟨fn, tmps, assign, gU, hy, hR⟩ := hY ss x w3 hJ3 (by omega)
   unfold dJ at hy
   rw [hw3] at hy hR
   clear hs2
   simp only [dJ] at hen
   gi_wp2
   refine hR.mono ?_
   rintro e W3 (⟨rfl, hJ4, hk3⟩ | ⟨rfl, hJx3⟩)
   ·gi_wp2
    rw [<- hw3] at hk3
    have hrg4 := hrg3.of_walks hk3
    go_roundw
    case rel => exact ⟨_, cnt2, ss ++ [x], hrg4, by simp; omega, hC.step hlk hat, (fun y hy => by rcases List.mem_append.1 hy with h | h; exact hCI y h; exact (List.mem_singleton.1 h) ▸ hI), hJ4⟩
    case measure => rw [hrg4.left_eq, hrg.left_eq]; exact hlt
   ·gi_wp2
    refine bodyPost_ret (results_none rfl _ _ _) rfl ?_
    exact ⟨⟨_, rfl⟩, .inr ⟨ss ++ [x], trivial, hJx3⟩⟩
theorem Kq (Fc : Fence) (n : Nat) (h8 : Fc.fn 107) (hro : Fc.round = none) (hn : 1 <= n) (Bm b nn : Nat) (D0 : DataW Value) (F : Int -> ByteArray) (hval : zA D0 F) (w : World) (hBm : Bm < w.heap.size)
  (hm : w.cell? ⟨Bm, 0, none⟩ = some (.map (some b))) (hown : w.ownsMap Tryz.prog 3 iB b nn D0) :
  SeqStopsK Fc n Tryz.prog 107 #[.pointer (some ⟨Bm, 0, none⟩)] (fun t => #[dJ t (F t)]) KeepsWalks (fun ss : List Int => lY D0 ss) (fun _ => True) (Maps.size D0) w := fun l J Jx W hW hJ _ hY h0 => by
 have hown' : W.ownsMap Tryz.prog 3 iB b nn D0 := by
  have hbl := hown.lt
  obtain ⟨es, clock, hb, Ft, hs, hD⟩ := hown
  exact ⟨es, clock, (hW.block b hbl).trans hb, Ft, hs, hD⟩
 exact Vd Fc n h8 hro hn l Bm b nn D0 F hval J Jx hY W hJ ((hW.cell (p := ⟨Bm, 0, none⟩) hBm).trans hm) hown' h0
def dD (F : Int -> ByteArray) (ss : List Int) : List Value := eQ (ss.map fun t => (t, F t))
theorem zB (F : Int -> ByteArray) (ss : List Int) (t : Int) : dD F (ss ++ [t]) = dD F ss ++ [.int .i64 t, .string (F t)] := by simp [dD, eQ]
theorem tV (F : Int -> ByteArray) (ss : List Int) : (dD F ss).length = ss.length * 2 := by unfold dD; rw [Bw, List.length_map]
theorem qI (w : World) (x y : Value) (t : TypeId) : ∀ j u, [x, y][j]? = some u -> (w.alloc (.cells #[x, y] t)).cell? ((⟨w.heap.size, 0, none⟩ : Addr).add j) = some u := by
 intro j u hj
 match j, hj with
 | 0, hj =>
   simp at hj
   subst hj
   simp [Addr.add]
 | 1, hj =>
   simp at hj
   subst hj
   simp [Addr.add]
theorem zC : (Tryz.prog.info? 74).map (fun i => (i.zero, i.size, i.bytes)) = some (some sC, 2, 24) := by kernel_rfl
theorem Xz {β : Type} (B : Nat) (t : TypeId) (f : β -> Array Value) : Own (fun s W => aG W B t (f s)) := fun s X Y row hs hg hrow =>
 hs.grown hg (fun e' => by obtain ⟨o, ho, hc⟩ := hrow B e'.symm; rw [show X.heap[B]? = _ from hs] at ho; cases ho; cases hc)
theorem Qc (Fc : Fence) (n : Nat) (h123 : Fc.fn 106) (h124 : Fc.fn 107) (hro : Fc.round = none) (hn : 3 <= n) (Bm b nn : Nat) (D0 : DataW Value) (F : Int -> ByteArray) (hval : zA D0 F) (w : World) (hBm : Bm < w.heap.size)
  (hm : w.cell? ⟨Bm, 0, none⟩ = some (.map (some b))) (hown : w.ownsMap Tryz.prog 3 iB b nn D0) (hN : Maps.size D0 <= 1000000) :
  CallsIn Fc n Tryz.prog 106 #[.slice none 0 0, .func (.func 107) #[] #[.pointer (some ⟨Bm, 0, none⟩)]] w fun e w' => ∃ (v : Value) (ss : List Int), e = .returned v /\ lY D0 ss /\
   w'.ownsRow w.heap.size 74 2 v ss.length (dD F ss) /\ Below w.heap.size w w' := by
 have h1 : 1 <= n := by omega
 obtain ⟨i0, hi, hz0, hz1, hz2⟩ := info_parts zC
 refine callsIn_of_wp_marks Tryz.func106 rfl h123 ?_ hro
 simp only [Tryz.ntmps106, List.size_toArray, List.length_cons, List.length_nil, Nat.reduceAdd, Nat.reduceSub, Array.replicate_succ, Array.replicate_zero, List.push_toArray, List.append_toArray, List.nil_append, List.cons_append]
 gi_wp2
 have bS := Boxed.new w 71 (.slice none 0 0)
 have hB0 : Below w.heap.size w (w.alloc (.cells #[.slice none 0 0] 71)) := (Below.refl _ w).alloc (Nat.le_refl _) _
 have hsz : (w.alloc (.cells #[.slice none 0 0] 71)).heap.size = w.heap.size + 1 := by simp
 obtain ⟨W0, hW0⟩ : ∃ W0, w.alloc (.cells #[.slice none 0 0] 71) = W0 := ⟨_, rfl⟩
 rw [hW0] at bS hB0 hsz ⊢
 clear hW0
 have hown0 : W0.ownsMap Tryz.prog 3 iB b nn D0 := by
  have hbl := hown.lt
  obtain ⟨es, clock, hb, Ft, hs, hD⟩ := hown
  exact ⟨es, clock, (hB0.block b hbl).trans hb, Ft, hs, hD⟩
 have hm0 : W0.cell? ⟨Bm, 0, none⟩ = some (.map (some b)) := (hB0.cell (p := ⟨Bm, 0, none⟩) hBm).trans hm
 refine wpIn_rangeFunc_ownH hro h1 (gf := 107) (lb := #[.pointer (some ⟨Bm, 0, none⟩)]) rfl h124 (enters_of Tryz.func107 (by kernel_rfl) rfl)
  (Kq Fc (n - 1) h124 hro (by omega) Bm b nn D0 F hval W0 (by omega) hm0 hown0) walksK_t walksK_b (Below.refl _ _) (fun _ => rfl)
  (fun pre W => (∃ v, Boxed W w.heap.size 71 v /\ W.ownsRow w.heap.size 74 2 v pre.length (dD F pre) /\ True) /\ Below w.heap.size w W)
  (fun _ _ _ => False)
  (OwnFrom.and (Own.from (holdsRow_own w.heap.size w.heap.size 71 74 2 (fun pre : List Int => pre.length) (fun pre => dD F pre) (fun _ _ => True)) _) (ownFrom_below (Nat.le_refl _) (by omega)))
  (fun _ _ _ _ _ hs _ _ => hs)
  ⟨⟨_, bS, World.ownsRow_nil _ _ _ _, trivial⟩, hB0⟩
  (fun x a' W => ∃ Bx, w.heap.size < Bx /\ aG W Bx 74 #[.int .i64 x, .string (F x)] /\ a' = { tmps := #[.slice none 0 0, .func (.func 107) #[] #[.pointer (some ⟨Bm, 0, none⟩)], .pointer (some ⟨w.heap.size, 0, none⟩), undef, .slice none 0 0, .pointer (some ⟨Bx, 0, none⟩), .func (.func 107) #[] #[.pointer (some ⟨Bm, 0, none⟩)], dJ x (F x), undef, undef, undef, undef, undef], defers := [] })
  (fun x a' _ X Y row hs hg hr => by obtain ⟨Bx, h1, h2, h3⟩ := hs; exact ⟨Bx, h1, Xz Bx 74 (fun (_ : Unit) => #[.int .i64 x, .string (F x)]) () X Y row h2 hg (fun r e => (hr r e).2), h3⟩)
  ?assign ?body ?done ?stop
 case assign =>
  rintro l pre x W K ⟨⟨v, bS1, hr1, _⟩, hB1⟩ hK
  simp only [dJ]
  gi_wp2
  exact hK _ _ ((KeepsOthers.alloc _ _).from _) (KeepsWalks.alloc _ _) ⟨⟨v, bS1.alloc _, hr1.alloc _, trivial⟩, hB1.alloc hB1.size _⟩ ⟨W.heap.size, bS1.lt, aG.new W _ _, rfl⟩
 case body =>
  rintro l pre x a' W hl ⟨r, hr⟩ ⟨⟨v, bS1, hr1, _⟩, hB1⟩ ⟨Bx, hBx, bX, rfl⟩ hlt
  have cS := bS1.cell
  have cx0 := bX.cell 0
  have cx1 := bX.cell 1
  simp at cx0 cx1
  have hsW := hB1.size
  have hl1 : pre.length + 1 <= maxLen := by unfold maxLen; omega
  simp only [dJ]
  gi_wp2_with (gi_at_builtin; refine wpListIn_append_own _ rfl _ _ 71 rfl w.heap.size 74 i0 sC 2 24 Tryz.underlying71 hi hz0 hz1 hz2 rfl (by decide) _ _ _ rfl (hr1.alloc _) ⟨W.heap.size, 0, none⟩ 1 1 [.int .i64 x, .string (F x)] rfl rfl (qI _ _ _ _) (by simp [Value.oneCell']) hl1 (by omega) (by simp; omega) ?_; intro v' w1 hown' hgrow _; obtain ⟨g', cap', rfl⟩ := ownsRow_succ hown'; obtain ⟨hv1, hv2, hr2, hk2, hb2⟩ := bS1.appended (by decide) hr1 hsW (Nat.le_refl _) hown' hgrow; have hc1 := hv1.cell; have hf1 := hv1.frozen)
  exact ⟨hk2.from _, hk2.walks, ⟨_, hv2, by rw [zB, List.length_append]; exact hr2, trivial⟩, hB1.trans hb2⟩
 case done =>
  rintro D ss W hD hS ⟨⟨v, bS1, hr1, _⟩, hB1⟩ hK
  have cS := bS1.cell
  gi_wp2
  refine ⟨by simp, .inl ⟨_, _, rfl, run_takeDeferred hK, ?_⟩⟩
  exact ⟨_, results_tmp rfl _ _ _, v, ss, rfl, hS, ownsRow_putObj hr1 _ hK rfl, hB1.trans (belowK_b (w := w) (Nat.le_refl _) W D _ _ (by omega) hK rfl rfl)⟩
 case stop =>
  rintro D c pre W _ _ h _
  exact h.elim
theorem Kr (b nn : Nat) (D0 : DataW Value) (F : Int -> ByteArray) (hval : zA D0 F) (w : World) (Bm : Nat) (hBm : Bm < w.heap.size)
  (hm : w.cell? ⟨Bm, 0, none⟩ = some (.map (some b))) (hown : w.ownsMap Tryz.prog 3 iB b nn D0) (hN : Maps.size D0 <= 1000000) :
  Calls Tryz.prog 61 #[.func (.func 107) #[] #[.pointer (some ⟨Bm, 0, none⟩)]] w fun e w' => ∃ (v : Value) (ss : List Int), e = .returned v /\ lY D0 ss /\
   w'.ownsRow w.heap.size 74 2 v ss.length (dD F ss) /\ Below w.heap.size w w' := by
 have HA := Lib.hid (callsIn_wide.1 (Qc Fence.wide 5 trivial trivial rfl (by omega) Bm b nn D0 F hval w hBm hm hown hN))
 clear hm hown hval hN
 go_enter Tryz.func61, Tryz.ntmps61
 go_wp2_with (go_at_call 106; refine HA.out.mono ?_; rintro e w1 ⟨v, ss, rfl, hS, hr, hb⟩)
 go_ret
 exact ⟨v, ss, rfl, hS, hr, hb⟩
theorem Gw (v : Option Nat) (w : World) : Calls Tryz.prog 62 #[.map v] w fun e w' => e = .returned (.func (.func 107) #[] #[.pointer (some ⟨w.heap.size, 0, none⟩)]) /\ w' = w.alloc (.cells #[.map v] 64) := by
 go_enter Tryz.func62, Tryz.ntmps62
 go_wp2_with fail
 go_ret
 exact ⟨rfl, rfl⟩
end Go.Proofs.YtingkbeifohihaaGreatDoor
