/-
  maps.DeleteFunc over the desk's map; useJust: a Room says what is in use. No statement is proved here.
-/
import Derived.Test.YtiagofgcinlnhaaGreatDoorDeskSmall
import Derived.Lib.SlMapFilter
import Derived.WalkKit
import Derived.Maps.Ext
import Derived.Maps.RangeWalk
import Derived.Laws.IdiomRangeMap
import Derived.Deep.LoopGhost
import Derived.Shelf.Abstract
namespace Go.Proofs.YtiagofgcinlnhaaGreatDoor
open Go.RowKit Go.Maps
def goneP (H : List Int) (kl : Lit) (_ : DataW Value) : Bool := match kl with
  | .int _ t => !decide (t ∈ H)
  | _ => false
def keepF (H : List Int) (F : Int → ByteArray) (t : Int) : ByteArray := if t ∈ H then F t else .empty
theorem filter_at {es : List (Lit × DataW Value)} {H : List Int} {t : Int} : (t ∉ H → Maps.has (Lib.deleteFuncD (goneP H) (.map es)) (.int .i64 t) = false) ∧
    (t ∈ H → Maps.has (Lib.deleteFuncD (goneP H) (.map es)) (.int .i64 t) = Maps.has (.map es) (.int .i64 t) ∧ ∀ zd, (Lib.deleteFuncD (goneP H) (.map es)).atKey (.int .i64 t) zd = (DataW.map es).atKey (.int .i64 t) zd) := by
  have hk : ∀ p : Lit × DataW Value, p.1.sameKey (.int .i64 t) = true → p.1 = .int .i64 t := fun p hp => WideAt.sameKey_eq hp
  constructor
  · intro ht
    show (es.filter (fun p => !goneP H p.1 p.2)).any (fun p => p.1.sameKey (.int .i64 t)) = false
    rw [List.any_eq_false]
    intro p hp hs
    have h1 := (List.mem_filter.1 hp).2
    rw [hk p hs] at h1
    simp [goneP, ht] at h1
  · intro ht
    constructor
    · show (es.filter (fun p => !goneP H p.1 p.2)).any (fun p => p.1.sameKey (.int .i64 t)) = es.any (fun p => p.1.sameKey (.int .i64 t))
      rw [List.any_filter]
      congr 1
      funext p
      cases hs : p.1.sameKey (.int .i64 t)
      · simp
      · rw [hk p hs]
        simp [goneP, ht]
    · intro zd
      have e : (es.filter (fun p => !goneP H p.1 p.2)).find? (fun p => p.1.sameKey (.int .i64 t)) = es.find? (fun p => p.1.sameKey (.int .i64 t)) := by
        rw [List.find?_filter]
        congr 1
        funext p
        cases hs : p.1.sameKey (.int .i64 t)
        · simp
        · rw [hk p hs]
          simp [goneP, ht]
      unfold Lib.deleteFuncD DataW.atKey
      simp only [e]
section
variable {w w' : World} {P : List Nat} {g gw gm gr gd m : Nat} {O : List Nat} {K : KD}
set_option maxRecDepth 100000 in
set_option maxHeartbeats 1000000 in
theorem gone_any {n gr gx : Nat} {H : List Int} (t u : Int) (x : ByteArray) (hx : w.cell? ⟨gx, 0, none⟩ = some (.pointer (some ⟨gr, 0, none⟩))) (hlt : gx < w.heap.size) (hr : RoomAt w gr n H) :
    Calls Tryz.prog 82 #[.int .i64 t, .agg #[.int .i64 u, .string x], .pointer (some ⟨gx, 0, none⟩)] w fun e w' => e = .returned (.bool (!decide (t ∈ H))) ∧ w.grownBy w' none := by
  have HU : Hid (∀ w1, Below w.heap.size w w1 → Calls Tryz.prog 43 #[.pointer (some ⟨gr, 0, none⟩), .int .i64 t] w1 fun e w' => e = .returned (.bool (decide (t ∈ H))) ∧ ∃ d, w' = w1.drewN d) := Lib.hid (fun w1 hb => rused_any t (hr.below hb))
  have hx2 := (((Below.refl w.heap.size w).alloc (Nat.le_refl _) (.cells #[.int .i64 u, .string x] 90)).cell (p := ⟨gx, 0, none⟩) hlt).trans hx
  clear hr
  obtain ⟨r, hr⟩ : ∃ r, r = decide (t ∈ H) := ⟨_, rfl⟩
  rw [← hr] at HU ⊢
  clear hr hlt hx
  have hb0 : Below w.heap.size w (w.alloc (.cells #[.int .i64 u, .string x] 90)) := (Below.refl _ _).alloc (Nat.le_refl _) _
  have HB0 := Lib.hid hb0
  clear hb0
  go_enter Tryz.func82, Tryz.ntmps82
  go_wp2_with fail
  refine (HU.out _ HB0.out).mono ?_
  rintro e w2 ⟨rfl, d, rfl⟩
  go_wp2_with fail
  go_ret
  exact ⟨rfl, by_drewN (by_below HB0.out (Nat.le_refl _)) d⟩
set_option maxRecDepth 100000 in
set_option maxHeartbeats 4000000 in
theorem delf_any {b n gr gx : Nat} {F : Int → ByteArray} {H : List Int} (h : MapW w b m F) (hx : w.cell? ⟨gx, 0, none⟩ = some (.pointer (some ⟨gr, 0, none⟩))) (hlt : gx < w.heap.size) (hxb : gx ≠ b) (hr : RoomAt w gr n H) (hrb : gr ≠ b) :
    Calls Tryz.prog 81 #[.map (some b), .func (.func 82) #[] #[.pointer (some ⟨gx, 0, none⟩)]] w fun e w' => e = .returned (.tuple #[]) ∧ MapW w' b m (keepF H F) ∧ w.grownBy w' (some b) := by
  obtain ⟨D, hown, hD⟩ := h
  obtain ⟨es0, rfl, hap, hkeys⟩ := hown.entries mlawI
  have HD := Lib.hid hD
  have HX : Hid (∀ (W : World) (t u : Int) (x : ByteArray), w.grownBy W (some b) → Calls Tryz.prog 82 #[.int .i64 t, .agg #[.int .i64 u, .string x], .pointer (some ⟨gx, 0, none⟩)] W fun e w' => e = .returned (.bool (!decide (t ∈ H))) ∧ W.grownBy w' none) := Lib.hid (fun W t u x hg =>
    gone_any t u x ((World.cell?_of_block (a := ⟨gx, 0, none⟩) (hg.block gx hlt (by simp; exact hxb))).trans hx) (Nat.lt_of_lt_of_le hlt hg.size) ⟨hr.blk.grown hg (by simp; exact hrb), hr.ok, hr.size⟩)
  clear hD hx hlt hr
  go_enter Tryz.func81, Tryz.ntmps81
  go_wp2_with (first
    | (at_range; refine wpList_range_own _ rfl _ 33 rfl 3 90 mlawI Tryz.underlying33 heldR b m _ rfl hown ?_; intro w0 hrg0 hg0 hs0)
    | go_in)
  go_frame
  go_loopw [4] (fun _ wr => ∃ (left : Lit → Bool) (cnt : Nat), wr.ranges Tryz.prog 3 heldR b w.heap.size m (Fk (goneP H) es0 left) left cnt ∧ w.grownBy wr (some b))
    (fun _ wr => wr.rangeLeft b w.heap.size)
  case atStart => exact ⟨_, _, by rw [Fk_start hkeys]; exact hrg0, hg0.but _⟩
  case round =>
    obtain ⟨left, cnt, hrg, hgw⟩ := hrel
    go_wp2_with (first
      | (at_next; refine wpList_next_ranges _ rfl _ rfl 3 mlawI heldR (Value.int .i64) (fun p : Int × ByteArray => writeV p.1 p.2) (fun key kl hk => by obtain ⟨x, hx, _⟩ := Maps.keyOf_int_inv Tryz.underlying3 hk; exact ⟨x, hx⟩) (fun v y hv => by obtain ⟨t, x, rfl, _⟩ := heldR_inv hv; exact ⟨(t, x), rfl⟩) b w.heap.size m _ _ _ rfl hrg ?_ ?_)
      | go_in)
    · -- nothing is left
      intro _ hl0
      go_wp2
      go_end0
      have e := Fk_end (pd := goneP H) (es0 := es0) hl0
      refine ⟨rfl, ⟨Lib.deleteFuncD (goneP H) (.map es0), by rw [← e]; exact hrg.owns, fun t ht => ?_⟩, hgw⟩
      obtain ⟨f1, f2⟩ := filter_at (es := es0) (H := H) (t := t)
      unfold keepF
      by_cases hm : t ∈ H
      · rw [if_pos hm]
        obtain ⟨g1, g2⟩ := f2 hm
        exact ⟨fun hne => ⟨by rw [g1]; exact ((HD.out t ht).1 hne).1, fun zd => by rw [g2]; exact ((HD.out t ht).1 hne).2 zd⟩, fun he => by rw [g1]; exact (HD.out t ht).2 he⟩
      · rw [if_neg hm]
        exact ⟨fun hne => absurd rfl hne, fun _ => f1 hm⟩
    · -- an entry has come
      intro x c1 c2 kl yd yp w1 cnt1 hkey hlx hv hat hrg1 hlt hg1 hs1 hen
      obtain ⟨x', ex, rfl, hwf⟩ := Maps.keyOf_int_inv Tryz.underlying3 hkey
      obtain rfl : x = x' := by injection ex
      have hgw1 := hgw.andThen hg1 (fun j hj => by cases hj; exact Or.inl (Nat.le_refl _))
      obtain ⟨w2, hw2⟩ : ∃ w2, w2 = w1.alloc (.cells #[.int .i64 c1, .string c2] 90) := ⟨_, rfl⟩
      have hgw2 : w.grownBy w2 (some b) := by rw [hw2]; exact hgw1.andThen (World.grownBy_alloc w1 _ none) (fun j hj => by cases hj)
      have hrg2 : w2.ranges Tryz.prog 3 heldR b w.heap.size m (Fk (goneP H) es0 left) (fun z => left z && !z.sameKey (.int .i64 x)) cnt1 := by rw [hw2]; exact hrg1.alloc _
      have HC := Lib.hid (HX.out w2 x c1 c2 hgw2)
      rw [hw2] at HC
      simp only [writeV] at hen
      have hkl : WideAt.IsKeyLit (Lit.int .i64 x) := trivial
      clear hs1
      by_cases hm : x ∈ H
      · have hp : goneP H (.int .i64 x) yd = false := by simp [goneP, hm]
        rw [show (!decide (x ∈ H)) = false by simp [hm]] at HC
        go_wp2_with fail
        refine HC.out.mono ?_
        rintro e w3 ⟨rfl, hg3⟩
        go_wp2_with fail
        rw [← hw2] at hg3
        have hrg3 := hrg2.kept hg3 (by simp) (by simp)
        go_roundw
        case rel => exact ⟨_, cnt1, by rw [← Fk_stays hap hkl hlx hp hat]; exact hrg3, hgw2.andThen hg3 (fun j hj => by cases hj)⟩
        case measure => rw [hrg3.left_eq, hrg.left_eq]; exact hlt
      · have hp : goneP H (.int .i64 x) yd = true := by simp [goneP, hm]
        rw [show (!decide (x ∈ H)) = true by simp [hm]] at HC
        go_wp2_with fail
        refine HC.out.mono ?_
        rintro e w3 ⟨rfl, hg3⟩
        have hrg3 := hrg2.kept (hw2 ▸ hg3) (by simp) (by simp)
        go_wp2_with (first
          | (at_delete; refine wpList_delete_ranges _ rfl _ _ 33 3 rfl 90 mlawI Tryz.underlying33 heldR b w.heap.size m _ _ _ rfl hrg3 _ _ rfl hkey ?_; intro w4 cnt3 hrg4 hle hturn; go_frame)
          | go_in)
        rw [strike_twice] at hrg4
        rw [← hw2] at hg3
        go_roundw
        case rel => exact ⟨_, cnt3, by rw [← Fk_struck hap hkl hlx hp hat]; exact hrg4, (hgw2.andThen hg3 (fun j hj => by cases hj)).andThen hturn.grown (fun j hj => by cases hj; exact Or.inr rfl)⟩
        case measure => rw [hrg4.left_eq, hrg.left_eq]; omega
end
end Go.Proofs.YtiagofgcinlnhaaGreatDoor
