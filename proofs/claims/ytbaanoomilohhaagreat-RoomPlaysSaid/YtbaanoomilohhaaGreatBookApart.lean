/-
  masonrybook's Apart, where only lists of numbers are kept. No statement is proved here.
-/
import Derived.Test.YtbaanoomilohhaaGreatHeadReadAny
import Derived.Test.YtbaanoomilohhaaGreatGrow
import Derived.Test.YtbaanoomilohhaaGreatSinks
import Derived.ArgAppend
import Derived.Deep.AppendLies
import Derived.Test.YtbaanoomilohhaaGreatPhase
import Derived.Test.YtbaanoomilohhaaGreatProg
import Derived.Test.YtbaanoomilohhaaGreatWords
import Derived.Outline
namespace Go.Proofs.YtbaanoomilohhaaGreat
open Go.RowKit

theorem kints_cells {w : World} {B b off : Nat} {xs : List Int} (hc : ∀ (j : Nat) (x : Int), xs[j]? = some x → w.cell? ⟨b, off + j, none⟩ = some (.int .i64 x)) (_hB : b < B) :
    ∀ (j : Nat) (u : Value), (xs.map (Value.int .i64))[j]? = some u → w.cell? ((⟨b, off, none⟩ : Addr).add j) = some u := by
  intro j u hu
  rw [List.getElem?_map] at hu
  obtain ⟨x, hx, rfl⟩ := Option.map_eq_some_iff.1 hu
  rw [Go.WideShapes.add_plain]
  exact hc j x hx

set_option maxRecDepth 100000 in
set_option maxHeartbeats 1000000 in
theorem kcopy_any (A : Option Addr) (m c : Nat) (xs : List Int) (w : World) (hm : xs.length = m) (hx : Ints w w.heap.size A xs) (hl : m ≤ 1000000) (h0 : A = none → c = 0) :
    Calls Tryz.prog 26 #[.slice A m c] w fun e w' => ∃ v, e = .returned v ∧ w'.ownsRow w.heap.size 3 1 v m (xs.map (Value.int .i64)) ∧ Below w.heap.size w w' := by
  obtain ⟨i0, hi, hz0, hz1, hz2⟩ := info_parts hints_info
  have HX := Lib.hid hx
  have HM := Lib.hid hm
  have H0 := Lib.hid h0
  clear hx hm h0
  rcases A with _ | ad
  · obtain rfl : c = 0 := H0.out rfl
    have hm0 : m = 0 := by
      rcases Nat.eq_zero_or_pos m with h | h
      · exact h
      · obtain ⟨b, off, e, _⟩ := HX.out (by rw [HM.out]; exact h)
        cases e
    subst hm0
    have hxs : xs = [] := List.eq_nil_of_length_eq_zero HM.out
    subst hxs
    go_enter Tryz.func26, Tryz.ntmps26
    go_wp2_with (at_builtin; refine wpList_append_own_none rfl _ _ 22 rfl w.heap.size 3 i0 1 Tryz.underlying22 hi (.slice none 0 0) 0 [] rfl (World.ownsRow_nil _ _ _ _) rfl ?_)
    go_ret
    exact ⟨_, rfl, World.ownsRow_nil _ _ _ _, Below.refl _ _⟩
  · have hnews : ∀ (j : Nat) (u : Value), (xs.map (Value.int .i64))[j]? = some u → w.cell? (ad.add j) = some u := by
      intro j u hu
      have hj : j < xs.length := by
        rcases Nat.lt_or_ge j xs.length with h | h
        · exact h
        · rw [List.getElem?_eq_none (by rw [List.length_map]; exact h)] at hu; cases hu
      obtain ⟨b, off, e, hB, hc⟩ := HX.out (by omega)
      injection e with e
      subst e
      exact kints_cells hc hB j u hu
    have hone : ∀ u ∈ xs.map (Value.int .i64), u.oneCell' = true := by
      intro u hu
      obtain ⟨x, _, rfl⟩ := List.mem_map.1 hu
      rfl
    have HN := Lib.hid hnews
    have HO := Lib.hid hone
    clear hnews hone
    go_enter Tryz.func26, Tryz.ntmps26
    go_wp2_with (at_builtin; refine wpList_append_own _ rfl _ _ 22 rfl w.heap.size 3 i0 (.int .i64 0) 1 8 Tryz.underlying22 hi hz0 hz1 hz2 rfl (by omega) (.slice none 0 0) 0 [] rfl (World.ownsRow_nil _ _ _ _) ad m c (xs.map (Value.int .i64)) rfl (by rw [List.length_map, HM.out]; omega) HN.out HO.out (by unfold maxLen; omega) (by omega) (Nat.le_refl _) ?_; intro v1 w1 hown1 hg1 _)
    have hb1 : Below w.heap.size w w1 := (Below.refl _ _).grown hg1 (Nat.le_refl _) (by simp [Value.ownBlock])
    clear hg1
    have HOW := Lib.hid hown1
    clear hown1
    go_wp2_with fail
    go_ret
    exact ⟨v1, rfl, by simpa using HOW.out, hb1⟩

/-- A list lent: it lies in a block of its own, with a mark behind it that it has room for. -/
def LentK (w : World) (B g cap : Nat) (xs : List Int) : Prop :=
  B ≤ g ∧ g < w.heap.size ∧ xs.length + 1 ≤ cap ∧ cap ≤ 9223372036854775807 ∧ ∀ (j : Nat) (x : Int), (xs ++ [(-77)])[j]? = some x → w.cell? ⟨g, j, none⟩ = some (.int .i64 x)
theorem LentK.below {w w' : World} {B g cap : Nat} {xs : List Int} (h : LentK w B g cap xs) (hb : Below w.heap.size w w') : LentK w' B g cap xs := by
  obtain ⟨h0, h1, h2, h3, h4⟩ := h
  exact ⟨h0, Nat.lt_of_lt_of_le h1 hb.size, h2, h3, fun j x hx => (hb.cell (p := ⟨g, j, none⟩) h1).trans (h4 j x hx)⟩
theorem LentK.ints {w : World} {B g cap : Nat} {xs : List Int} (h : LentK w B g cap xs) : Ints w w.heap.size (some ⟨g, 0, none⟩) xs := by
  obtain ⟨h0, h1, h2, h3, h4⟩ := h
  intro _
  refine ⟨g, 0, rfl, h1, fun j x hx => ?_⟩
  rw [Nat.zero_add]
  have hj : j < xs.length := by
    rcases Nat.lt_or_ge j xs.length with h | h
    · exact h
    · rw [List.getElem?_eq_none h] at hx; cases hx
  exact h4 j x (by rw [List.getElem?_append_left hj]; exact hx)


set_option maxRecDepth 100000 in
set_option maxHeartbeats 1000000 in
theorem klent_any (A : Option Addr) (m c : Nat) (xs : List Int) (w : World) (hm : xs.length = m) (hx : Ints w w.heap.size A xs) (hl : m ≤ 900000) (h0 : A = none → c = 0) :
    Calls Tryz.prog 5 #[.slice A m c] w fun e w' => ∃ g cap, e = .returned (.slice (some ⟨g, 0, none⟩) m cap) ∧ LentK w' w.heap.size g cap xs ∧ Below w.heap.size w w' := by
  obtain ⟨i0, hi, hz0, hz1, hz2⟩ := info_parts hints_info
  have HC := Lib.hid (kcopy_any A m c xs w hm hx (by omega) h0)
  have HM := Lib.hid hm
  clear hx hm h0
  go_enter Tryz.func5, Tryz.ntmps5
  go_wp2_with fail
  refine HC.out.mono ?_
  rintro e w1 ⟨v, rfl, hown, hb1⟩
  have HOWN := Lib.hid hown
  clear hown
  go_wp2_with (at_builtin; refine wpList_append_lies _ rfl (.tmp 4) (.tmp 5) 22 rfl w.heap.size 3 i0 (.int .i64 0) 1 8 Tryz.underlying22 hi hz0 hz1 hz2 rfl (by omega) _ m _ rfl (HOWN.out.alloc _) ⟨w1.heap.size, 0, none⟩ 1 1 [.int .i64 (-77)] rfl rfl ?c1 ?c2 (by omega) (by unfold maxLen; omega) (by omega) (by have := hb1.size; simp; omega) _ rfl ?_)
  case c1 =>
    intro a u ha
    match a, ha with
    | 0, ha => simp at ha; subst ha; simp [Addr.add]
  case c2 => intro u hu; simp at hu; subst hu; rfl
  intro g cap w2 hown2 hg2 hor hlt2
  have hb2 : Below w.heap.size w w2 := (hb1.alloc hb1.size _).grown hg2 (by have := hb1.size; simp; omega) (fun k hk => (HOWN.out.lt k hk).1)
  have hform : m + 1 ≤ cap ∧ cap ≤ 9223372036854775807 ∧ w.heap.size ≤ g := by
    rcases hown2.2 with ⟨h, _⟩ | ⟨g', cap', cur, h, hg', _, h1, h2, _⟩
    · cases h
    · injection h with e1 e2 e3
      injection e1 with e1
      injection e1 with e1
      subst e1 e3
      exact ⟨h1, h2, hg'⟩
  obtain ⟨hc1, hc2, hc3⟩ := hform
  have hlent : LentK w2 w.heap.size g cap xs := by
    refine ⟨hc3, hlt2, by rw [HM.out]; exact hc1, hc2, fun j x hx => ?_⟩
    have := hown2.cells (g := g) rfl j (.int .i64 x) (by
      rw [show xs.map (Value.int .i64) ++ [Value.int .i64 (-77)] = (xs ++ [(-77 : Int)]).map (Value.int .i64) by simp, List.getElem?_map, hx]
      rfl)
    rw [Go.WideShapes.add_plain, Nat.zero_add] at this
    exact this
  have HL := Lib.hid hlent
  clear hlent hown2 hg2 hor hb1
  go_wp2_with fail
  go_ret
  exact ⟨g, cap, rfl, HL.out, hb2⟩

set_option maxRecDepth 100000 in
set_option maxHeartbeats 1000000 in
theorem ksame_any (A B : Option Addr) (m c d : Nat) (xs : List Int) (w : World) (hm : xs.length = m) (hx : Ints w w.heap.size A xs) (hy : Ints w w.heap.size B xs) (hl : m ≤ 1000000) :
    Calls Tryz.prog 16 #[.slice A m c, .slice B m d] w fun e w' => e = .returned (.bool true) ∧ ∃ n, w' = w.drewN n := by
  have HX := Lib.hid hx
  have HY := Lib.hid hy
  have HM := Lib.hid hm
  clear hx hm hy
  go_enter Tryz.func16, Tryz.ntmps16
  go_wp2_with fail
  go_loopw [5] (fun i wr => ∃ (j n : Nat), j ≤ m ∧ i = .int .i64 j ∧ wr = w.drewN n) (fun i _ => m - (intOf i).toNat)
  case atStart => exact ⟨0, 0, Nat.zero_le _, rfl, rfl⟩
  case round =>
    obtain ⟨j, n, hj, rfl, rfl⟩ := hrel
    by_cases hlt : j < m
    · have hxl : j < xs.length := by rw [HM.out]; exact hlt
      obtain ⟨b, off, hA, hbB, hc⟩ := HX.out (by omega)
      obtain ⟨b', off', hA', hbB', hc'⟩ := HY.out (by omega)
      obtain ⟨x, hx⟩ : ∃ x, x = xs[j] := ⟨_, rfl⟩
      have hxj : xs[j]? = some x := by rw [hx]; exact List.getElem?_eq_getElem hxl
      have hcx : w.cell? ⟨b, off + j, none⟩ = some (.int .i64 x) := hc j x hxj
      have hcy : w.cell? ⟨b', off' + j, none⟩ = some (.int .i64 x) := hc' j x hxj
      clear hxj hc hx hc'
      subst hA
      subst hA'
      go_wp2_with fail
      go_quiet (fail)
      go_wp2_with fail
      go_roundw
      case rel => exact ⟨j + 1, _, by omega, by go_num, rfl⟩
      case measure => simp [intOf]; omega
    · obtain rfl : j = m := by omega
      go_wp2_with fail
      go_ret
      exact ⟨rfl, _, rfl⟩

set_option maxRecDepth 100000 in
set_option maxHeartbeats 1000000 in
theorem kstays_any (g cap : Nat) (A : Option Addr) (m d : Nat) (xs : List Int) (B0 : Nat) (w : World) (hm : xs.length = m) (hL : LentK w B0 g cap xs) (hx : Ints w w.heap.size A xs) (hl : m ≤ 1000000) :
    Calls Tryz.prog 8 #[.slice (some ⟨g, 0, none⟩) m cap, .slice A m d] w fun e w' => e = .returned (.bool true) ∧ ∃ n, w' = w.drewN n := by
  have HS := Lib.hid (ksame_any (some ⟨g, 0, none⟩) A m cap d xs w hm hL.ints hx hl)
  obtain ⟨h0, h1, h2, h3, h4⟩ := hL
  have hc : w.cell? ⟨g, m, none⟩ = some (.int .i64 (-77)) := h4 m _ (by rw [List.getElem?_append_right (by omega), hm, Nat.sub_self]; rfl)
  have h2' : m + 1 ≤ cap := by omega
  clear hx hm h0 h4 h2
  go_enter Tryz.func8, Tryz.ntmps8
  go_wp2_with fail
  refine HS.out.mono ?_
  rintro e w1 ⟨rfl, n, rfl⟩
  go_wp2_with fail
  go_ret
  exact ⟨rfl, n, rfl⟩
end Go.Proofs.YtbaanoomilohhaaGreat

namespace Go.Proofs.YtbaanoomilohhaaGreat
open Go.RowKit

/-- The mark of list i at place k; so many of them from a place on. -/
def markAt (i k : Nat) : Int := -1000000 * (i : Int) - (k : Int) - 7
def marksOf (i a n : Nat) : List Int := (List.range n).map fun j => markAt i (a + j)
theorem marksOf_length (i a n : Nat) : (marksOf i a n).length = n := by simp [marksOf]
theorem marksOf_snoc (i a n : Nat) : marksOf i a (n + 1) = marksOf i a n ++ [markAt i (a + n)] := by simp [marksOf, List.range_succ]
theorem marksOf_get {i a n j : Nat} (h : j < n) : (marksOf i a n)[j]? = some (markAt i (a + j)) := by
  unfold marksOf
  rw [List.getElem?_map, List.getElem?_range h]
  rfl
theorem marksOf_append (i a n m : Nat) : marksOf i a n ++ marksOf i (a + n) m = marksOf i a (n + m) := by
  apply List.ext_getElem?
  intro j
  rcases Nat.lt_or_ge j n with h | h
  · rw [List.getElem?_append_left (by rw [marksOf_length]; exact h), marksOf_get h, marksOf_get (by omega)]
  · rw [List.getElem?_append_right (by rw [marksOf_length]; exact h), marksOf_length]
    rcases Nat.lt_or_ge j (n + m) with h2 | h2
    · rw [marksOf_get (by omega), marksOf_get h2]
      congr 2
      omega
    · rw [List.getElem?_eq_none (by rw [marksOf_length]; omega), List.getElem?_eq_none (by rw [marksOf_length]; omega)]

set_option maxRecDepth 100000 in
set_option maxHeartbeats 2000000 in
theorem kmark_any (i a n : Nat) (w : World) (hi1 : i ≤ 1000) (ha : a ≤ 1000000) (hn : n ≤ 1000000) :
    Calls Tryz.prog 98 #[.int .i64 i, .int .i64 a, .int .i64 n] w fun e w' => ∃ v, e = .returned v ∧ w'.ownsRow w.heap.size 3 1 v n ((marksOf i a n).map (Value.int .i64)) ∧ Below w.heap.size w w' := by
  obtain ⟨i0, hi, hz0, hz1, hz2⟩ := info_parts hints_info
  have hiI : (i : Int) ≤ 1000 := by omega
  have haI : (a : Int) ≤ 1000000 := by omega
  have hnI : (n : Int) ≤ 1000000 := by omega
  go_enter Tryz.func98, Tryz.ntmps98
  go_wp2_with fail
  go_loopw [7, 8] (fun v k wr => ∃ (j : Nat) (x : Int), j ≤ n ∧ x = (a : Int) + j ∧ k = .int .i64 x ∧ wr.ownsRow w.heap.size 3 1 v j ((marksOf i a j).map (Value.int .i64)) ∧ Below w.heap.size w wr) (fun _ k _ => n + a - (intOf k).toNat)
  case atStart => exact ⟨0, (a : Int), Nat.zero_le _, by omega, rfl, World.ownsRow_nil _ _ _ _, Below.refl _ _⟩
  case round =>
    obtain ⟨j, x, hj, hx, rfl, hown, hbr⟩ := hrel
    by_cases hlt : j < n
    · have hx0 : 0 ≤ x := by omega
      have hx1 : x ≤ 2000000 := by omega
      have hxl : x < (a : Int) + (n : Int) := by omega
      obtain ⟨c, hc⟩ : ∃ c : Int, c = -1000000 * (i : Int) - x - 7 := ⟨_, rfl⟩
      have HMK : Hid ((marksOf i a j).map (Value.int .i64) ++ [.int .i64 c] = (marksOf i a (j + 1)).map (Value.int .i64)) := Lib.hid (by
        rw [marksOf_snoc, List.map_append, hc]
        congr 2
        show Value.int .i64 _ = Value.int .i64 (markAt i (a + j))
        unfold markAt
        congr 1
        omega)
      obtain ⟨p, hp⟩ : ∃ p : Int, p = -1000000 * (i : Int) := ⟨_, rfl⟩
      have e1 : IntKind.i64.wrap (-1000000 * (i : Int)) = p := by rw [IntKind.wrap_i64, hp]; omega
      have e2 : IntKind.i64.wrap (p - x) = p - x := by rw [IntKind.wrap_i64]; omega
      have e3 : IntKind.i64.wrap (p - x - 7) = c := by rw [IntKind.wrap_i64, hc]; omega
      have HX := Lib.hid hx
      have HOWN := Lib.hid hown
      clear hown hx hc hp
      go_wp2_with (at_builtin; refine wpList_append_lies _ rfl (.tmp 17) (.tmp 23) 22 rfl w.heap.size 3 i0 (.int .i64 0) 1 8 Tryz.underlying22 hi hz0 hz1 hz2 rfl (by omega) _ j _ rfl (HOWN.out.alloc _) ⟨wr.heap.size, 0, none⟩ 1 1 [.int .i64 c] rfl rfl ?c1 ?c2 (by omega) (by unfold maxLen; omega) (by omega) (by have := hbr.size; simp; omega) _ rfl ?_)
      case c1 =>
        intro a u ha
        match a, ha with
        | 0, ha => simp at ha; subst ha; simp [Addr.add]
      case c2 => intro u hu; simp at hu; subst hu; rfl
      intro g cap w1 hown1 hg1 hor hlt1
      have hb1 : Below w.heap.size w w1 := (hbr.alloc hbr.size _).grown hg1 (by have := hbr.size; simp; omega) (fun k hk => (HOWN.out.lt k hk).1)
      have HB1 := Lib.hid hb1
      rw [HMK.out] at hown1
      have HOW := Lib.hid hown1
      have hx2 : x + 1 ≤ 3000000 := by omega
      clear hown1 hg1 hor hb1 hbr
      go_wp2_with fail
      go_roundw
      case rel => exact ⟨j + 1, x + 1, by omega, by have := HX.out; omega, by go_num, HOW.out, HB1.out⟩
      case measure => have := HX.out; simp [intOf]; omega
    · obtain rfl : j = n := by omega
      have hxl : ¬ x < (a : Int) + (j : Int) := by omega
      have hxl2 : (a : Int) + (j : Int) ≤ x := by omega
      have HOWN := Lib.hid hown
      have HBR := Lib.hid hbr
      clear hown hbr
      go_wp2_with fail
      go_ret
      exact ⟨_, rfl, HOWN.out, HBR.out⟩
end Go.Proofs.YtbaanoomilohhaaGreat

namespace Go.Proofs.YtbaanoomilohhaaGreat
open Go.RowKit

/-- A list of numbers as a slice. -/
structure LI where
  A : Option Addr
  c : Nat
  xs : List Int
def LI.val (l : LI) : Value := .slice l.A l.xs.length l.c
/-- A row of values that can be read. -/
def RowAt (w : World) (p : Option Addr) (vs : List Value) : Prop := 0 < vs.length → ∃ b off, p = some ⟨b, off, none⟩ ∧ b < w.heap.size ∧ ∀ (j : Nat) (v : Value), vs[j]? = some v → w.cell? ⟨b, off + j, none⟩ = some v
theorem RowAt.below {w w' : World} {p : Option Addr} {vs : List Value} (h : RowAt w p vs) (hb : Below w.heap.size w w') : RowAt w' p vs := fun hp => by
  obtain ⟨b, off, e, hbl, hc⟩ := h hp
  exact ⟨b, off, e, Nat.lt_of_lt_of_le hbl hb.size, fun j v hv => (hb.cell (p := ⟨b, off + j, none⟩) hbl).trans (hc j v hv)⟩
theorem RowAt.get {w : World} {p : Option Addr} {ls : List LI} {j : Nat} {l : LI} (h : RowAt w p (ls.map LI.val)) (hl : ls[j]? = some l) : ∃ b off, p = some ⟨b, off, none⟩ ∧ ∀ w', Below w.heap.size w w' → w'.cell? ⟨b, off + j, none⟩ = some l.val := by
  have hj : j < ls.length := by
    rcases Nat.lt_or_ge j ls.length with h | h
    · exact h
    · rw [List.getElem?_eq_none h] at hl; cases hl
  obtain ⟨b, off, e, hbl, hc⟩ := h (by rw [List.length_map]; omega)
  exact ⟨b, off, e, fun w' hw => (hw.cell (p := ⟨b, off + j, none⟩) hbl).trans (hc j _ (by rw [List.getElem?_map, hl]; rfl))⟩

set_option maxRecDepth 100000 in
set_option maxHeartbeats 4000000 in
theorem kstill_any (g : Nat) (p q : Option Addr) (k cp cq : Nat) (ls us : List LI) (w : World) (hg : g < w.heap.size) (h2 : w.cell? ⟨g, 2, none⟩ = some (.slice p k cp)) (h3 : w.cell? ⟨g, 3, none⟩ = some (.slice q k cq))
    (hk : ls.length = k) (hk' : us.length = k) (hp : RowAt w p (ls.map LI.val)) (hq : RowAt w q (us.map LI.val)) (hb : k ≤ 1000)
    (hs : ∀ (i : Nat) (l u : LI), ls[i]? = some l → us[i]? = some u → l.xs = u.xs ∧ Ints w w.heap.size l.A l.xs ∧ Ints w w.heap.size u.A l.xs ∧ l.xs.length ≤ 1000000) :
    Calls Tryz.prog 45 #[.pointer (some ⟨g, 0, none⟩)] w fun e w' => e = .returned (.bool true) ∧ Below w.heap.size w w' := by
  have HC : Hid (∀ w', Below w.heap.size w w' → w'.cell? ⟨g, 2, none⟩ = some (.slice p k cp) ∧ w'.cell? ⟨g, 3, none⟩ = some (.slice q k cq)) := Lib.hid (fun w' hw => ⟨(hw.cell (p := ⟨g, 2, none⟩) hg).trans h2, (hw.cell (p := ⟨g, 3, none⟩) hg).trans h3⟩)
  have HK := Lib.hid hk
  have HK' := Lib.hid hk'
  have HP := Lib.hid hp
  have HQ := Lib.hid hq
  have HSS := Lib.hid hs
  have hkI : (k : Int) ≤ 1000 := by omega
  clear hk hk' hp hq hs h2 h3
  go_enter Tryz.func45, Tryz.ntmps45
  go_wp2_with fail
  go_loopw [3] (fun i wr => ∃ j : Nat, j ≤ k ∧ i = .int .i64 j ∧ Below w.heap.size w wr) (fun i _ => k - (intOf i).toNat)
  case atStart => exact ⟨0, Nat.zero_le _, rfl, Below.refl _ _⟩
  case round =>
    obtain ⟨j, hj, rfl, hbr⟩ := hrel
    have HBR := Lib.hid hbr
    obtain ⟨c2, c3⟩ := HC.out _ hbr
    clear hbr
    by_cases hlt : j < k
    · obtain ⟨l, hl⟩ : ∃ l, ls[j]? = some l := ⟨ls[j]'(by rw [HK.out]; exact hlt), List.getElem?_eq_getElem _⟩
      obtain ⟨u, hu⟩ : ∃ u, us[j]? = some u := ⟨us[j]'(by rw [HK'.out]; exact hlt), List.getElem?_eq_getElem _⟩
      obtain ⟨e1, e2, e3, e4⟩ := HSS.out j l u hl hu
      obtain ⟨b, off, rfl, hx⟩ := HP.out.get hl
      obtain ⟨b', off', rfl, hy⟩ := HQ.out.get hu
      obtain ⟨A, c, xs⟩ := l
      obtain ⟨A', c', ys⟩ := u
      simp only at e1 e2 e3 e4
      subst e1
      unfold LI.val at hx hy
      simp only at hx hy
      have HS : Hid (∀ w', Below w.heap.size w w' → Calls Tryz.prog 16 #[.slice A xs.length c, .slice A' xs.length c'] w' fun e w'' => e = .returned (.bool true) ∧ Below w'.heap.size w' w'') := Lib.hid (fun w' hw => by
        refine (ksame_any A A' xs.length c c' xs w' rfl ((e2.below hw).more hw.size) ((e3.below hw).more hw.size) e4).mono ?_
        rintro e w'' ⟨rfl, q, rfl⟩
        exact ⟨rfl, ⟨rfl, rfl, rfl, Nat.le_refl _, fun _ _ => rfl⟩⟩)
      obtain ⟨n, hn⟩ : ∃ n, n = xs.length := ⟨_, rfl⟩
      rw [← hn] at hx hy HS
      have HX := Lib.hid hx
      have HY := Lib.hid hy
      have hjI : (j : Int) < (k : Int) := by omega
      have h0J : Below w.heap.size w wr.drew := HBR.out.drew
      clear hx hy hl hu e2 e3 e4 hn
      go_upto_region 4 with fail
      refine wp_region_grow (Below w.heap.size w) (by kernel_rfl) (by kernel_rfl) h0J ?_
      apply grow_step
      · intro w' hw K hK
        go_simp
        exact hK
      · exact ⟨_, rfl, Nat.le_of_ble_eq_true rfl⟩
      · exact ⟨_, h0J⟩
      apply grow_step
      · intro w' hw K hK
        go_simp
        exact hK
      · exact ⟨_, rfl, Nat.le_of_ble_eq_true rfl⟩
      · exact ⟨_, h0J⟩
      apply grow_step
      · intro w' hw K hK
        go_simp
        exact hK
      · exact ⟨_, rfl, Nat.le_of_ble_eq_true rfl⟩
      · exact ⟨_, h0J⟩
      apply grow_step
      · intro w' hw K hK
        obtain ⟨c2, c3⟩ := HC.out w' hw
        go_simp
        exact hK
      · exact ⟨_, rfl, Nat.le_of_ble_eq_true rfl⟩
      · exact ⟨_, h0J⟩
      apply grow_step
      · intro w' hw K hK
        go_simp
        exact hK
      · exact ⟨_, rfl, Nat.le_of_ble_eq_true rfl⟩
      · exact ⟨_, h0J⟩
      apply grow_step
      · intro w' hw K hK
        go_simp
        exact hK
      · exact ⟨_, rfl, Nat.le_of_ble_eq_true rfl⟩
      · exact ⟨_, h0J⟩
      apply grow_step
      · intro w' hw K hK
        have hcx := HX.out w' hw
        go_simp
        exact hK
      · exact ⟨_, rfl, Nat.le_of_ble_eq_true rfl⟩
      · exact ⟨_, h0J⟩
      apply grow_step
      · intro w' hw K hK
        go_simp
        exact hK
      · exact ⟨_, rfl, Nat.le_of_ble_eq_true rfl⟩
      · exact ⟨_, h0J⟩
      apply grow_step
      · intro w' hw K hK
        go_simp
        exact hK
      · exact ⟨_, rfl, Nat.le_of_ble_eq_true rfl⟩
      · exact ⟨_, h0J⟩
      apply grow_step
      · intro w' hw K hK
        go_simp
        exact hK
      · exact ⟨_, rfl, Nat.le_of_ble_eq_true rfl⟩
      · exact ⟨_, h0J⟩
      apply grow_step
      · intro w' hw K hK
        obtain ⟨c2, c3⟩ := HC.out w' hw
        go_simp
        exact hK
      · exact ⟨_, rfl, Nat.le_of_ble_eq_true rfl⟩
      · exact ⟨_, h0J⟩
      apply grow_step
      · intro w' hw K hK
        go_simp
        exact hK
      · exact ⟨_, rfl, Nat.le_of_ble_eq_true rfl⟩
      · exact ⟨_, h0J⟩
      apply grow_step
      · intro w' hw K hK
        go_simp
        exact hK
      · exact ⟨_, rfl, Nat.le_of_ble_eq_true rfl⟩
      · exact ⟨_, h0J⟩
      apply grow_step
      · intro w' hw K hK
        have hcy := HY.out w' hw
        go_simp
        exact hK
      · exact ⟨_, rfl, Nat.le_of_ble_eq_true rfl⟩
      · exact ⟨_, h0J⟩
      refine grow_call (fun w' hw => (HS.out w' hw).mono fun e w'' ⟨he, hb⟩ => ⟨he, hw.trans (hb.mono hw.size)⟩) (by simp [Region.wanted]) (fun w' hw => by go_simp) ?_
      simp only [Act.put, List.setIfInBounds_toArray, List.set_cons_succ, List.set_cons_zero]
      apply grow_step
      · intro w' hw K hK
        go_simp
        exact hK
      · exact ⟨_, rfl, Nat.le_of_ble_eq_true rfl⟩
      · exact ⟨_, h0J⟩
      refine grow_nil ?_
      intro w7 hw7
      have HW7 := Lib.hid hw7
      clear hw7
      go_wp2_with fail
      go_roundw
      case rel => exact ⟨j + 1, by omega, by go_num, HW7.out⟩
      case measure => simp [intOf]; omega
    · obtain rfl : j = k := by omega
      go_wp2_with fail
      go_ret
      exact ⟨rfl, HBR.out⟩
end Go.Proofs.YtbaanoomilohhaaGreat

namespace Go.Proofs.YtbaanoomilohhaaGreat
open Go.RowKit

section
variable {w : World} {base size n cap : Nat} {e : TypeId} {v : Value} {xs : List Value}
theorem krow_form (h : w.ownsRow base e size v n xs) : ∃ p cap, v = .slice p n cap ∧ n ≤ cap ∧ cap ≤ 9223372036854775807 ∧ (p = none → n = 0) ∧ (∀ a, p = some a → a = ⟨a.block, 0, none⟩) := by
  rcases h.2 with ⟨rfl, rfl⟩ | ⟨g, cap, cur, rfl, _, _, h1, h2, _⟩
  · exact ⟨none, 0, rfl, by omega, by omega, fun _ => rfl, fun _ h => by cases h⟩
  · exact ⟨some ⟨g, 0, none⟩, cap, rfl, h1, by simpa [maxLen] using h2, (fun h => by cases h), fun a h => by cases h; rfl⟩
theorem krow_cell {g : Nat} (h : w.ownsRow base e 1 (.slice (some ⟨g, 0, none⟩) n cap) n xs) {i : Nat} {u : Value} (hi : xs[i]? = some u) : w.cell? ⟨g, i, none⟩ = some u := by
  have := h.cells (g := g) rfl i u hi
  rwa [add_off, Nat.zero_add] at this
theorem krow_frozen {g : Nat} (h : w.ownsRow base e size (.slice (some ⟨g, 0, none⟩) n cap) n xs) (i : Nat) : w.frozen? ⟨g, i, none⟩ = false := by
  rcases h.2 with ⟨h, _⟩ | ⟨g', cap', cur, h, _, hg, _⟩
  · cases h
  · injection h with h1 _ _
    injection h1 with h1
    injection h1 with h1 _ _
    subst h1
    exact Blk.frozen (show Blk w g e cur from hg) i
theorem krow_put {g : Nat} (h : w.ownsRow base e 1 (.slice (some ⟨g, 0, none⟩) n cap) n xs) {i : Nat} (u : Value) : (w.setCell ⟨g, i, none⟩ u).ownsRow base e 1 (.slice (some ⟨g, 0, none⟩) n cap) n (xs.set i u) := by
  refine ⟨by rw [List.length_set]; exact h.1, ?_⟩
  rcases h.2 with ⟨h, _⟩ | ⟨g', cap', cur, h, hb, hg, h1, h2, h3, h4⟩
  · cases h
  · injection h with e1 _ e3
    injection e1 with e1
    injection e1 with e1 _ _
    subst e1 e3
    refine .inr ⟨g, cap, cur.setIfInBounds i u, rfl, hb, Blk.put (show Blk w g e cur from hg) i u, h1, h2, by rw [Array.size_setIfInBounds]; exact h3, ?_⟩
    rw [Array.toList_setIfInBounds, ← h4, List.take_set]
theorem krow_far {p : Addr} (h : w.ownsRow base e size v n xs) (hp : v.ownBlock ≠ some p.block) (u : Value) : (w.setCell p u).ownsRow base e size v n xs :=
  row_kept' h fun k hk => Below.heap_setCell _ _ _ _ (fun e => hp (by rw [hk, e]))
end
/-- Lists of numbers, each in a block of its own. -/
structure RowsI (w : World) (B : Nat) (ls : List LI) : Prop where
  own : ∀ (i : Nat) (l : LI), ls[i]? = some l → w.ownsRow B 3 1 l.val l.xs.length (l.xs.map (Value.int .i64))
  apart : ∀ (i j : Nat) (l l' : LI) (b : Nat), ls[i]? = some l → ls[j]? = some l' → i ≠ j → l.val.ownBlock = some b → l'.val.ownBlock ≠ some b
/-- Nobody's block among those lists'. -/
def FreeOf (ls : List LI) (b : Nat) : Prop := ∀ l ∈ ls, l.val.ownBlock ≠ some b
/-- What may turn: the blocks of those lists. -/
structure KeptBut (ls : List LI) (B : Nat) (w w' : World) : Prop where
  below : Below B w w'
  block : ∀ b, b < w.heap.size → FreeOf ls b → w'.heap[b]? = w.heap[b]?
theorem KeptBut.refl (ls : List LI) (B : Nat) (w : World) : KeptBut ls B w w := ⟨Below.refl _ _, fun _ _ _ => rfl⟩
theorem KeptBut.more {ls : List LI} {B : Nat} {w w' w'' : World} (h : KeptBut ls B w w') (hB : B ≤ w'.heap.size) (hb : Below w'.heap.size w' w'') : KeptBut ls B w w'' :=
  ⟨h.below.trans (hb.mono hB), fun b h1 h2 => (hb.block b (Nat.lt_of_lt_of_le h1 h.below.size)).trans (h.block b h1 h2)⟩
theorem KeptBut.cell {ls : List LI} {B : Nat} {w w' : World} (h : KeptBut ls B w w') {p : Addr} (hp : p.block < w.heap.size) (hf : FreeOf ls p.block) : w'.cell? p = w.cell? p := World.cell?_of_block (h.block _ hp hf)
theorem KeptBut.put {ls : List LI} {B : Nat} {w w' : World} (h : KeptBut ls B w w') {g i : Nat} (u : Value) (hB : B ≤ g) (hg : ∃ l ∈ ls, l.val.ownBlock = some g) : KeptBut ls B w (w'.setCell ⟨g, i, none⟩ u) :=
  ⟨h.below.setCell hB _, fun b h1 h2 => (Below.heap_setCell _ _ _ _ (fun e => by
    obtain ⟨l, hl, hl2⟩ := hg
    have e : b = g := e
    exact h2 l hl (by rw [hl2, e]))).trans (h.block b h1 h2)⟩
theorem RowsI.below {w w' : World} {B : Nat} {ls : List LI} (h : RowsI w B ls) (hb : Below w.heap.size w w') : RowsI w' B ls :=
  ⟨fun i l hl => row_kept' (h.own i l hl) fun k hk => hb.block k ((h.own i l hl).lt k hk).2, h.apart⟩
/-- As far as the marks are put. -/
structure PutTo (ls zs : List LI) (i j : Nat) : Prop where
  len : zs.length = ls.length
  like : ∀ (a : Nat) (z l : LI), zs[a]? = some z → ls[a]? = some l → z.A = l.A ∧ z.c = l.c ∧ z.xs.length = l.xs.length
  done : ∀ (a : Nat) (z : LI), zs[a]? = some z → a < i → z.xs = marksOf a 0 z.xs.length
  here : ∀ (z : LI), zs[i]? = some z → z.xs.take j = marksOf i 0 j
theorem PutTo.start (ls : List LI) : PutTo ls ls 0 0 := ⟨rfl, fun a z l h1 h2 => by rw [h1] at h2; cases h2; exact ⟨rfl, rfl, rfl⟩, fun a z _ h => by omega, fun z _ => by simp [marksOf]⟩
theorem PutTo.next {ls zs : List LI} {i n : Nat} (h : PutTo ls zs i n) (hn : ∀ z, zs[i]? = some z → z.xs.length = n) : PutTo ls zs (i + 1) 0 :=
  ⟨h.len, h.like, fun a z ha hi => by
    rcases Nat.lt_or_ge a i with h1 | h1
    · exact h.done a z ha h1
    · obtain rfl : a = i := by omega
      have := h.here z ha
      rw [List.take_of_length_le (by rw [hn z ha]; exact Nat.le_refl _)] at this
      rw [hn z ha]
      exact this, fun z _ => by simp [marksOf]⟩
theorem take_set_snoc {α : Type} (l : List α) (j : Nat) (x : α) (h : j < l.length) : (l.set j x).take (j + 1) = l.take j ++ [x] := by
  rw [List.take_succ_eq_append_getElem (by rw [List.length_set]; exact h), List.take_set_of_le (Nat.le_refl _), List.getElem_set_self]
def LI.put (l : LI) (j : Nat) (x : Int) : LI := ⟨l.A, l.c, l.xs.set j x⟩
theorem LI.put_val (l : LI) (j : Nat) (x : Int) : (l.put j x).val = l.val := by unfold LI.put LI.val; simp
theorem PutTo.step {ls zs : List LI} {i j : Nat} {z : LI} (h : PutTo ls zs i j) (hz : zs[i]? = some z) (hj : j < z.xs.length) : PutTo ls (zs.set i (z.put j (markAt i (0 + j)))) i (j + 1) := by
  have hil : i < zs.length := by
    rcases Nat.lt_or_ge i zs.length with h | h
    · exact h
    · rw [List.getElem?_eq_none h] at hz; cases hz
  refine ⟨by rw [List.length_set]; exact h.len, fun a y l hy hl => ?_, fun a y hy ha => ?_, fun y hy => ?_⟩
  · by_cases hai : a = i
    · subst hai
      rw [List.getElem?_set_self hil] at hy
      cases hy
      have := h.like a z l hz hl
      exact ⟨this.1, this.2.1, by unfold LI.put; simp only [List.length_set]; exact this.2.2⟩
    · rw [List.getElem?_set_ne (fun e => hai e.symm)] at hy
      exact h.like a y l hy hl
  · rw [List.getElem?_set_ne (by omega)] at hy
    exact h.done a y hy ha
  · rw [List.getElem?_set_self hil] at hy
    cases hy
    unfold LI.put
    simp only
    rw [take_set_snoc _ _ _ hj, h.here z hz, marksOf_snoc]
theorem RowsI.put {w : World} {B : Nat} {zs : List LI} {i j bi : Nat} {z : LI} {x : Int} (h : RowsI w B zs) (hz : zs[i]? = some z) (hb : z.A = some ⟨bi, 0, none⟩) : RowsI (w.setCell ⟨bi, j, none⟩ (.int .i64 x)) B (zs.set i (z.put j x)) := by
  have hil : i < zs.length := by
    rcases Nat.lt_or_ge i zs.length with h | h
    · exact h
    · rw [List.getElem?_eq_none h] at hz; cases hz
  have hob : z.val.ownBlock = some bi := by unfold LI.val; rw [hb]; rfl
  have get : ∀ (a : Nat) (l : LI), (zs.set i (z.put j x))[a]? = some l → ∃ l0, zs[a]? = some l0 ∧ l.val = l0.val ∧ ((a = i ∧ l = z.put j x) ∨ (a ≠ i ∧ l = l0)) := fun a l hl => by
    by_cases hai : a = i
    · subst hai
      rw [List.getElem?_set_self hil] at hl
      cases hl
      exact ⟨z, hz, LI.put_val _ _ _, .inl ⟨rfl, rfl⟩⟩
    · rw [List.getElem?_set_ne (fun e => hai e.symm)] at hl
      exact ⟨l, hl, rfl, .inr ⟨hai, rfl⟩⟩
  refine ⟨fun a l hl => ?_, fun a a' l l' b h1 h2 hne h3 => ?_⟩
  · obtain ⟨l0, h0, hv, ⟨rfl, rfl⟩ | ⟨hai, rfl⟩⟩ := get a l hl
    · rw [LI.put_val]
      have ho := h.own a z hz
      unfold LI.val at ho ⊢
      rw [hb] at ho ⊢
      have := krow_put ho (i := j) (.int .i64 x)
      unfold LI.put
      simp only [List.length_set, List.map_set]
      exact this
    · exact krow_far (h.own a l h0) (fun e => h.apart a i l z bi h0 hz hai e hob) _
  · obtain ⟨l0, h0, hv, -⟩ := get a l h1
    obtain ⟨l0', h0', hv', -⟩ := get a' l' h2
    rw [hv] at h3
    rw [hv']
    exact h.apart a a' l0 l0' b h0 h0' hne h3

set_option maxRecDepth 100000 in
set_option maxHeartbeats 8000000 in
theorem kput_any (g B : Nat) (p : Option Addr) (k cp : Nat) (ls : List LI) (w : World) (hg : g < w.heap.size) (hB : B ≤ w.heap.size) (h2 : w.cell? ⟨g, 2, none⟩ = some (.slice p k cp))
    (hk : ls.length = k) (hp : RowAt w p (ls.map LI.val)) (hb : k ≤ 1000) (hr : RowsI w B ls) (hfg : FreeOf ls g) (hfp : ∀ a, p = some a → FreeOf ls a.block) (hn : ∀ l ∈ ls, l.xs.length ≤ 1000000) :
    Calls Tryz.prog 54 #[.pointer (some ⟨g, 0, none⟩)] w fun e w' => e = .returned (.tuple #[]) ∧ ∃ zs, PutTo ls zs k 0 ∧ RowsI w' B zs ∧ KeptBut ls B w w' := by
  have HC : Hid (∀ w', KeptBut ls B w w' → w'.cell? ⟨g, 2, none⟩ = some (.slice p k cp)) := Lib.hid (fun w' hw => (hw.cell (p := ⟨g, 2, none⟩) hg hfg).trans h2)
  have HK := Lib.hid hk
  have HP := Lib.hid hp
  have HFP := Lib.hid hfp
  have HN := Lib.hid hn
  have HBS := Lib.hid hB
  have HR := Lib.hid hr
  have hkI : (k : Int) ≤ 1000 := by omega
  clear hk hp hfp hr h2 hfg hn hB
  go_enter Tryz.func54, Tryz.ntmps54
  go_wp2_with fail
  go_loopw [2] (fun i wr => ∃ (j : Nat) (zs : List LI), j ≤ k ∧ i = .int .i64 j ∧ PutTo ls zs j 0 ∧ RowsI wr B zs ∧ KeptBut ls B w wr) (fun i _ => k - (intOf i).toNat)
  case atStart => exact ⟨0, ls, Nat.zero_le _, rfl, PutTo.start ls, HR.out, KeptBut.refl _ _ _⟩
  case round =>
    obtain ⟨i, zs, hi, rfl, hpt, hrw, hkb⟩ := hrel
    have HPT := Lib.hid hpt
    have HRW := Lib.hid hrw
    have HKB := Lib.hid hkb
    have c2 := HC.out _ hkb
    clear hpt hrw hkb HR
    by_cases hlt : i < k
    · obtain ⟨l, hl⟩ : ∃ l, ls[i]? = some l := ⟨ls[i]'(by rw [HK.out]; exact hlt), List.getElem?_eq_getElem _⟩
      obtain ⟨z, hz⟩ : ∃ z, zs[i]? = some z := ⟨zs[i]'(by rw [HPT.out.len, HK.out]; exact hlt), List.getElem?_eq_getElem _⟩
      obtain ⟨e1, e2, e3⟩ := HPT.out.like i z l hz hl
      have hll := HN.out l (List.mem_of_getElem? hl)
      obtain ⟨b, off, rfl, hbl, hcl⟩ := HP.out (by rw [List.length_map, HK.out]; omega)
      have hcc := hcl i l.val (by rw [List.getElem?_map, hl]; rfl)
      have HX : Hid (∀ w', KeptBut ls B w w' → w'.cell? ⟨b, off + i, none⟩ = some (.slice l.A l.xs.length l.c)) := Lib.hid (fun w' hw => (hw.cell (p := ⟨b, off + i, none⟩) hbl (show FreeOf ls b from HFP.out ⟨b, off, none⟩ rfl)).trans hcc)
      have HL := Lib.hid hl
      obtain ⟨A, c, xs⟩ := l
      simp only at e1 e2 e3 hll HX
      obtain ⟨n, hnn⟩ : ∃ n, n = xs.length := ⟨_, rfl⟩
      rw [← hnn] at e3 hll HX
      have hcx := HX.out _ HKB.out
      have hiI : (i : Int) < (k : Int) := by omega
      have HMK : Hid (∀ W, Calls Tryz.prog 98 #[.int .i64 i, .int .i64 0, .int .i64 n] W fun e w' => ∃ v, e = .returned v ∧ w'.ownsRow W.heap.size 3 1 v n ((marksOf i 0 n).map (Value.int .i64)) ∧ Below W.heap.size W w') := Lib.hid (fun W => kmark_any i 0 n W (by omega) (by omega) hll)
      have hnI : (n : Int) ≤ 1000000 := by omega
      have HZ : Hid (z.A = A ∧ z.c = c ∧ z.xs.length = n) := Lib.hid ⟨e1, e2, e3⟩
      have HZS := Lib.hid hz
      have HLT : Hid (∀ b', (Value.slice A n c).ownBlock = some b' → B ≤ b' ∧ b' < wr.heap.size) := Lib.hid (fun b' hb' => (HRW.out.own i z hz).lt b' (by unfold LI.val; rw [e1, e2, e3]; exact hb'))
      have HXN : Hid (n = xs.length) := Lib.hid hnn
      have HBL := Lib.hid hbl
      clear hl hz e1 e2 e3 hcl hcc hnn hbl
      go_wp2_with fail
      refine (HMK.out _).mono ?_
      rintro e w1 ⟨v, rfl, hmr, hb1⟩
      obtain ⟨mp, mc, rfl, -, -, hm0, hma⟩ := krow_form hmr
      have HMR := Lib.hid hmr
      have HRW1 : Hid (RowsI w1 B zs) := Lib.hid (HRW.out.below hb1)
      have HKB1 : Hid (KeptBut ls B w w1) := Lib.hid (HKB.out.more (Nat.le_trans HBS.out HKB.out.below.size) hb1)
      have HWS : Hid (wr.heap.size ≤ w1.heap.size) := Lib.hid hb1.size
      have HM0 := Lib.hid hm0
      have HMA := Lib.hid hma
      obtain ⟨s0, hs0⟩ : ∃ s0, s0 = wr.heap.size := ⟨_, rfl⟩
      rw [← hs0] at HMR HLT
      clear hmr hb1 hm0 hma hcx c2 HWS hs0
      go_wp2_with fail
      go_loopw [4] (fun q wq => ∃ (j : Nat) (ys : List LI), j ≤ n ∧ q = .int .i64 j ∧ PutTo ls ys i j ∧ RowsI wq B ys ∧ KeptBut ls B w wq ∧ wq.ownsRow s0 3 1 (.slice mp n mc) n ((marksOf i 0 n).map (Value.int .i64))) (fun q _ => n - (intOf q).toNat)
      case atStart => exact ⟨0, zs, Nat.zero_le _, rfl, HPT.out, HRW1.out, HKB1.out, HMR.out⟩
      case round =>
        obtain ⟨j, ys, hj, rfl, hpt, hrw, hkb, hmr⟩ := hrel
        have HPQ := Lib.hid hpt
        have HRQ := Lib.hid hrw
        have HKQ := Lib.hid hkb
        have HMQ := Lib.hid hmr
        have c2 := HC.out _ hkb
        have hcx := HX.out _ hkb
        clear hpt hrw hkb hmr
        by_cases hjt : j < n
        · obtain ⟨y, hy⟩ : ∃ y, ys[i]? = some y := ⟨ys[i]'(by rw [HPQ.out.len, HK.out]; exact hlt), List.getElem?_eq_getElem _⟩
          obtain ⟨e1, e2, e3⟩ := HPQ.out.like i y _ hy HL.out
          simp only at e1 e2 e3
          have hyn : y.xs.length = n := by rw [e3]; exact HXN.out.symm
          have hyo := HRQ.out.own i y hy
          have hyv : y.val = .slice A n c := by unfold LI.val; rw [e1, e2, hyn]
          rw [hyv, hyn] at hyo
          obtain ⟨bi, rfl⟩ : ∃ bi, A = some ⟨bi, 0, none⟩ := by
            obtain ⟨pp, cc, ee, -, -, h0, ha⟩ := krow_form hyo
            injection ee with ee _ _
            subst ee
            rcases A with _ | a
            · exact absurd (h0 rfl) (by omega)
            · exact ⟨a.block, by rw [← ha a rfl]⟩
          obtain ⟨mg, rfl⟩ : ∃ mg, mp = some ⟨mg, 0, none⟩ := by
            rcases mp with _ | a
            · exact absurd (HM0.out rfl) (by omega)
            · exact ⟨a.block, by rw [← HMA.out a rfl]⟩
          obtain ⟨mk, hmk⟩ : ∃ mk, mk = markAt i (0 + j) := ⟨_, rfl⟩
          have hmv : wr.cell? ⟨mg, j, none⟩ = some (.int .i64 mk) := krow_cell HMQ.out (i := j) (by rw [List.getElem?_map, marksOf_get hjt, hmk]; rfl)
          have hfz : wr.frozen? ⟨bi, j, none⟩ = false := krow_frozen hyo j
          obtain ⟨old, hold⟩ : ∃ x, y.xs[j]? = some x := ⟨y.xs[j]'(by omega), List.getElem?_eq_getElem _⟩
          have hcb : wr.cell? ⟨bi, j, none⟩ = some (.int .i64 old) := krow_cell hyo (i := j) (by rw [List.getElem?_map, hold]; rfl)
          clear hold
          have hbb : B ≤ bi ∧ bi < s0 := HLT.out bi rfl
          have hmg := (HMQ.out.lt mg rfl).1
          have HREL : Hid (∃ (j' : Nat) (ys' : List LI), j' ≤ n ∧ Value.int .i64 ((j : Int) + 1) = .int .i64 j' ∧ PutTo ls ys' i j' ∧ RowsI (wr.drew.setCell ⟨bi, j, none⟩ (.int .i64 mk)) B ys' ∧ KeptBut ls B w (wr.drew.setCell ⟨bi, j, none⟩ (.int .i64 mk)) ∧ (wr.drew.setCell ⟨bi, j, none⟩ (.int .i64 mk)).ownsRow s0 3 1 (.slice (some ⟨mg, 0, none⟩) n mc) n ((marksOf i 0 n).map (Value.int .i64))) := Lib.hid (by
            refine ⟨j + 1, ys.set i (y.put j mk), hjt, by simp, ?_, ?_, ?_, ?_⟩
            · rw [hmk]
              exact HPQ.out.step hy (by omega)
            · exact RowsI.put (HRQ.out.below (Below.refl _ _).drew) hy e1
            · exact KeptBut.put (HKQ.out.more (Nat.le_trans HBS.out HKQ.out.below.size) (Below.refl _ _).drew) _ hbb.1 ⟨_, List.mem_of_getElem? HL.out, by unfold LI.val; rfl⟩
            · refine krow_far (row_kept' HMQ.out fun k hk => rfl) ?_ _
              intro e
              injection e with e
              have e : mg = bi := e
              omega)
          have hjI : (j : Int) < (n : Int) := by omega
          have hiI' : (i : Int) < (k : Int) := by omega
          clear hy hyo hyv e1 e2 e3 hyn hmk
          go_upto_region 7 with fail
          refine wp_region_sinks 30 13 42 1 (fun | 0 => .pointer (some ⟨g, 0, none⟩) | 1 => .pointer (some ⟨g, 0, none⟩) | 2 => .pointer (some ⟨g, 2, none⟩) | 3 => .slice (some ⟨b, off, none⟩) k cp | 4 => .int .i64 (i : Int) | 5 => .pointer (some ⟨b, off + i, none⟩) | 6 => .slice (some ⟨bi, 0, none⟩) n c | 7 => .int .i64 (j : Int) | 8 => .slice (some ⟨mg, 0, none⟩) n mc | 9 => .int .i64 (j : Int) | 10 => .pointer (some ⟨mg, j, none⟩) | 11 => .int .i64 mk | _ => .pointer (some ⟨bi, j, none⟩))
            (fun _ w' => w' = wr.drew) (by kernel_rfl) (by kernel_rfl) rfl (by omega) (by kernel_rfl) rfl (by simp) rfl ?hops ?hrest
          case hops =>
            intro o ho L y w' hc hF hLi hJ hw hv
            have HJ := Lib.hid hJ
            clear hJ
            rcases (show o = 0 ∨ o = 1 ∨ o = 2 ∨ o = 3 ∨ o = 4 ∨ o = 5 ∨ o = 6 ∨ o = 7 ∨ o = 8 ∨ o = 9 ∨ o = 10 ∨ o = 11 ∨ o = 12 by omega) with rfl | rfl | rfl | rfl | rfl | rfl | rfl | rfl | rfl | rfl | rfl | rfl | rfl
            · have t0 : y.tmps[0]?.getD undef = .pointer (some ⟨g, 0, none⟩) := by rw [hF.2.2 0 (by omega)]; rfl
              clear hw hv hF
              refine wpOp_value (v := .pointer (some ⟨g, 0, none⟩)) (w' := _) rfl rfl ?_ ⟨rfl, HJ.out⟩
              go_simp
            · have t1 : y.tmps[30]?.getD undef = .pointer (some ⟨g, 0, none⟩) := hv 0 (of_decide_eq_true (by kernel_rfl)) (by omega)
              clear hw hv hF
              refine wpOp_value (v := .pointer (some ⟨g, 0, none⟩)) (w' := _) rfl rfl ?_ ⟨rfl, HJ.out⟩
              go_simp
            · have t1 : y.tmps[31]?.getD undef = .pointer (some ⟨g, 0, none⟩) := hv 1 (of_decide_eq_true (by kernel_rfl)) (by omega)
              clear hw hv hF
              refine wpOp_value (v := .pointer (some ⟨g, 2, none⟩)) (w' := _) rfl rfl ?_ ⟨rfl, HJ.out⟩
              go_simp
            · have t1 : y.tmps[32]?.getD undef = .pointer (some ⟨g, 2, none⟩) := hv 2 (of_decide_eq_true (by kernel_rfl)) (by omega)
              have hj' : w' = wr.drew := HJ.out
              subst hj'
              clear hw hv hF
              refine wpOp_value (v := .slice (some ⟨b, off, none⟩) k cp) (w' := _) rfl rfl ?_ ⟨rfl, HJ.out⟩
              go_simp
            · have t0 : y.tmps[2]?.getD undef = .int .i64 (i : Int) := by rw [hF.2.2 2 (by omega)]; rfl
              clear hw hv hF
              refine wpOp_value (v := .int .i64 (i : Int)) (w' := _) rfl rfl ?_ ⟨rfl, HJ.out⟩
              go_simp
            · have t1 : y.tmps[33]?.getD undef = .slice (some ⟨b, off, none⟩) k cp := hv 3 (of_decide_eq_true (by kernel_rfl)) (by omega)
              have t2 : y.tmps[34]?.getD undef = .int .i64 (i : Int) := hv 4 (of_decide_eq_true (by kernel_rfl)) (by omega)
              clear hw hv hF
              refine wpOp_value (v := .pointer (some ⟨b, off + i, none⟩)) (w' := _) rfl rfl ?_ ⟨rfl, HJ.out⟩
              go_simp
            · have t1 : y.tmps[35]?.getD undef = .pointer (some ⟨b, off + i, none⟩) := hv 5 (of_decide_eq_true (by kernel_rfl)) (by omega)
              have hj' : w' = wr.drew := HJ.out
              subst hj'
              clear hw hv hF
              refine wpOp_value (v := .slice (some ⟨bi, 0, none⟩) n c) (w' := _) rfl rfl ?_ ⟨rfl, HJ.out⟩
              go_simp
            · have t0 : y.tmps[4]?.getD undef = .int .i64 (j : Int) := by rw [hF.2.2 4 (by omega)]; rfl
              clear hw hv hF
              refine wpOp_value (v := .int .i64 (j : Int)) (w' := _) rfl rfl ?_ ⟨rfl, HJ.out⟩
              go_simp
            · have t0 : y.tmps[3]?.getD undef = .slice (some ⟨mg, 0, none⟩) n mc := by rw [hF.2.2 3 (by omega)]; rfl
              clear hw hv hF
              refine wpOp_value (v := .slice (some ⟨mg, 0, none⟩) n mc) (w' := _) rfl rfl ?_ ⟨rfl, HJ.out⟩
              go_simp
            · have t0 : y.tmps[4]?.getD undef = .int .i64 (j : Int) := by rw [hF.2.2 4 (by omega)]; rfl
              clear hw hv hF
              refine wpOp_value (v := .int .i64 (j : Int)) (w' := _) rfl rfl ?_ ⟨rfl, HJ.out⟩
              go_simp
            · have t1 : y.tmps[38]?.getD undef = .slice (some ⟨mg, 0, none⟩) n mc := hv 8 (of_decide_eq_true (by kernel_rfl)) (by omega)
              have t2 : y.tmps[39]?.getD undef = .int .i64 (j : Int) := hv 9 (of_decide_eq_true (by kernel_rfl)) (by omega)
              clear hw hv hF
              refine wpOp_value (v := .pointer (some ⟨mg, j, none⟩)) (w' := _) rfl rfl ?_ ⟨rfl, HJ.out⟩
              go_simp
            · have t1 : y.tmps[40]?.getD undef = .pointer (some ⟨mg, j, none⟩) := hv 10 (of_decide_eq_true (by kernel_rfl)) (by omega)
              have hj' : w' = wr.drew := HJ.out
              subst hj'
              clear hw hv hF
              refine wpOp_value (v := .int .i64 mk) (w' := _) rfl rfl ?_ ⟨rfl, HJ.out⟩
              go_simp
            · have t1 : y.tmps[36]?.getD undef = .slice (some ⟨bi, 0, none⟩) n c := hv 6 (of_decide_eq_true (by kernel_rfl)) (by omega)
              have t2 : y.tmps[37]?.getD undef = .int .i64 (j : Int) := hv 7 (of_decide_eq_true (by kernel_rfl)) (by omega)
              clear hw hv hF
              refine wpOp_value (v := .pointer (some ⟨bi, j, none⟩)) (w' := _) rfl rfl ?_ ⟨rfl, HJ.out⟩
              go_simp
          case hrest =>
            intro L w' hL hJ
            have hJ' : w' = wr.drew := hJ
            subst hJ'
            clear hL hJ L
            rw [show List.range' 13 1 = [13] from rfl]
            simp only [putAll, List.range, List.range.loop, List.foldl, Nat.reduceAdd, List.setIfInBounds_toArray, List.set_cons_succ, List.set_cons_zero]
            rw [wpOps_cons]
            refine wpOp_skip (w' := wr.drew.setCell ⟨bi, j, none⟩ (.int .i64 mk)) rfl rfl (by go_simp) ?_
            simp only [wpOps, Act.put, List.setIfInBounds_toArray]
            clear c2 hcx hmv hfz hcb
            go_wp2_with fail
            go_roundw
            case rel => exact HREL.out
            case measure => simp [intOf]; omega
        · obtain rfl : j = n := by omega
          have HNX : Hid (PutTo ls ys (i + 1) 0) := Lib.hid (HPQ.out.next fun y hy => by
            have := (HPQ.out.like i y _ hy HL.out).2.2
            rw [this]
            exact HXN.out.symm)
          go_wp2_with fail
          go_roundw
          case rel => exact ⟨i + 1, ys, by omega, by go_num, HNX.out, HRQ.out, HKQ.out⟩
          case measure => simp [intOf]; omega
    · obtain rfl : i = k := by omega
      go_wp2_with fail
      go_end0
      exact ⟨rfl, zs, HPT.out, HRW.out, HKB.out⟩
end Go.Proofs.YtbaanoomilohhaaGreat

namespace Go.Proofs.YtbaanoomilohhaaGreat
open Go.RowKit

/-- An append to a row of one's own: in place, or in a new block with all else as it was. -/
theorem run_append_two {P : Program} (w : World) (t ty : TypeId) (base : Nat) (e : TypeId) (i : TypeInfo) (z : Value) (bytes : Nat) (ht : P.underlying t = some (.slice e)) (hi : P.info? e = some i) (hz : i.zero = some z)
    (hsize : i.size = 1) (hby : i.bytes = bytes) (hzs : z.cells.size = 1)
    (v : Value) (n : Nat) (xs : List Value) (hown : w.ownsRow base e 1 v n xs)
    (ad : Addr) (m c : Nat) (news : List Value) (hl : news.length = m) (hnews : ∀ j u, news[j]? = some u → w.cell? (ad.add j) = some u) (h1 : ∀ u ∈ news, u.oneCell' = true)
    (hm : 0 < m) (h63 : n + m ≤ maxLen) (hbytes : (n + m) * bytes ≤ 140737488355328) (hbase : base ≤ w.heap.size) :
    ∃ g cap w', (Builtin.append_ #[t, t] ty #[v, .slice (some ad) m c]).run P w = .ok (.slice (some ⟨g, 0, none⟩) (n + m) cap) w' ∧
      w'.ownsRow base e 1 (.slice (some ⟨g, 0, none⟩) (n + m) cap) (n + m) (xs ++ news) ∧ g < w'.heap.size ∧ ((v.ownBlock = some g ∧ w.grownBy w' (some g)) ∨ (w.heap.size ≤ g ∧ w.grownBy w' none)) := by
  obtain ⟨g, cap, w', hr, h2, h3, h4, h5⟩ := run_append_lies (P := P) w t ty base e i z 1 bytes ht hi hz hsize hby hzs (by omega) v n xs hown ad m c news (by omega) hnews h1 hm h63 hbytes hbase _ rfl
  refine ⟨g, cap, w', hr, h2, h5, ?_⟩
  rcases hown.2 with ⟨rfl, rfl⟩ | ⟨g0, cap0, cur, rfl, hbg, hg, hnc, hcm, hcs, htake⟩
  · right
    rcases h4 with h4 | h4
    · cases h4
    · exact ⟨Nat.le_of_eq h4.symm, h3⟩
  · have hb0 : Blk w g0 e cur := hg
    by_cases hroom : n + m ≤ cap0
    · left
      have hr' := run_append_room_cells (P := P) w t ty e i ht hi g0 0 n cap0 ad m c news (by rw [hsize]; omega) hnews h1 hroom (fun j hj => by
        rw [hb0.cell]
        rw [hsize]
        have hlt : 0 + n * 1 + j < cur.size := by omega
        rw [Array.getElem?_eq_getElem hlt]
        rfl) (fun j hj => hb0.frozen _)
      rw [hr] at hr'
      injection hr' with e1 e2
      injection e1 with e1 _ _
      injection e1 with e1
      injection e1 with e1 _ _
      subst e1
      exact ⟨rfl, h3⟩
    · right
      obtain ⟨v', w'', hr', ho, hgb⟩ := run_append_arg_grows (P := P) w t ty e i z 1 bytes ht hi hz hsize hby hzs (by omega) ⟨g0, 0, none⟩ n cap0 xs hown.1 (hown.cells (g := g0) rfl) ad m c news (by omega) hnews (by omega) h63 hbytes
      rw [hr] at hr'
      injection hr' with e1 e2
      subst e1
      subst e2
      exact ⟨(ho.lt g rfl).1, hgb⟩

/-- A kept list that is grown: its value now, by t marks more than z's n. -/
structure GrowAt (w1 w : World) (B : Nat) (z : LI) (i n t : Nat) (v : Value) : Prop where
  row : w.ownsRow B 3 1 v (n + t) ((marksOf i 0 (n + t)).map (Value.int .i64))
  place : v.ownBlock = z.val.ownBlock ∨ ∃ b, v.ownBlock = some b ∧ w1.heap.size ≤ b
  zints : Ints w w.heap.size z.A z.xs
  kept : KeptBut [z] B w1 w
theorem freeOf_one {z : LI} {b : Nat} (h : z.val.ownBlock ≠ some b) : FreeOf [z] b := fun l hl => by rw [List.mem_singleton.1 hl]; exact h
theorem GrowAt.below {w1 w w' : World} {B : Nat} {z : LI} {i n t : Nat} {v : Value} (h : GrowAt w1 w B z i n t v) (hB : B ≤ w.heap.size) (hb : Below w.heap.size w w') : GrowAt w1 w' B z i n t v :=
  ⟨row_kept' h.row fun k hk => hb.block k (h.row.lt k hk).2, h.place, (h.zints.below hb).more hb.size, h.kept.more hB hb⟩
theorem KeptBut.by_own {ls : List LI} {B g : Nat} {w w' w'' : World} (h : KeptBut ls B w w') (hg : w'.grownBy w'' (some g)) (hB : B ≤ g) (hB' : B ≤ w'.heap.size) (ho : (∃ l ∈ ls, l.val.ownBlock = some g) ∨ w.heap.size ≤ g) : KeptBut ls B w w'' :=
  ⟨h.below.grown hg hB' (fun q e => by injection e with e; omega), fun b h1 h2 => (hg.block b (Nat.lt_of_lt_of_le h1 h.below.size) (fun e => by
    injection e with e
    subst e
    rcases ho with ⟨l, hl, hl2⟩ | ho
    · exact h2 l hl hl2
    · omega)).trans (h.block b h1 h2)⟩
theorem KeptBut.by_none {ls : List LI} {B : Nat} {w w' w'' : World} (h : KeptBut ls B w w') (hg : w'.grownBy w'' none) (hB' : B ≤ w'.heap.size) : KeptBut ls B w w'' :=
  ⟨h.below.grown hg hB' (fun q e => by cases e), fun b h1 h2 => (hg.block b (Nat.lt_of_lt_of_le h1 h.below.size) (fun e => by cases e)).trans (h.block b h1 h2)⟩
/-- So many marks more. -/
theorem GrowAt.append {w1 w w' : World} {B : Nat} {z : LI} {i n t m g cap : Nat} {v : Value} (h : GrowAt w1 w B z i n t v) (hB : B ≤ w.heap.size) (hz : z.xs = marksOf i 0 n) (hz0 : ∀ a, z.A = some a → a = ⟨a.block, 0, none⟩)
    (hrow : w'.ownsRow B 3 1 (.slice (some ⟨g, 0, none⟩) (n + t + m) cap) (n + t + m) ((marksOf i 0 (n + t)).map (Value.int .i64) ++ (marksOf i (n + t) m).map (Value.int .i64)))
    (hw : (v.ownBlock = some g ∧ w.grownBy w' (some g)) ∨ (w.heap.size ≤ g ∧ w.grownBy w' none)) : GrowAt w1 w' B z i n (t + m) (.slice (some ⟨g, 0, none⟩) (n + (t + m)) cap) := by
  have hmk : (marksOf i 0 (n + t)).map (Value.int .i64) ++ (marksOf i (n + t) m).map (Value.int .i64) = (marksOf i 0 (n + t + m)).map (Value.int .i64) := by
    rw [← List.map_append]
    congr 1
    have := marksOf_append i 0 (n + t) m
    rwa [Nat.zero_add] at this
  rw [hmk] at hrow
  have hsz : w.heap.size ≤ w'.heap.size := by rcases hw with ⟨_, h⟩ | ⟨_, h⟩ <;> exact h.size
  rw [show n + (t + m) = n + t + m by omega]
  refine ⟨by rw [show n + (t + m) = n + t + m by omega]; exact hrow, ?_, ?_, ?_⟩
  · rcases hw with ⟨h1, _⟩ | ⟨h1, _⟩
    · rcases h.place with h2 | ⟨b, h2, h3⟩
      · left; rw [← h2, h1]; rfl
      · right; exact ⟨b, by rw [← h2, h1]; rfl, h3⟩
    · right; exact ⟨g, rfl, Nat.le_trans h.kept.below.size h1⟩
  · intro hp
    obtain ⟨b, off, e, hb, hc⟩ := h.zints hp
    refine ⟨b, off, e, Nat.lt_of_lt_of_le hb hsz, fun j x hx => ?_⟩
    have hx' := hx
    rw [hz] at hx'
    have hjn : j < n := by
      rcases Nat.lt_or_ge j n with h | h
      · exact h
      · rw [List.getElem?_eq_none (by rw [marksOf_length]; exact h)] at hx'; cases hx'
    rw [marksOf_get hjn] at hx'
    by_cases hgb : g = b
    · subst hgb
      have ho := hz0 _ e
      injection ho with _ ho _
      subst ho
      have := krow_cell hrow (i := j) (u := .int .i64 (markAt i (0 + j))) (by rw [List.getElem?_map, marksOf_get (by omega)]; rfl)
      injection hx' with hx'
      rw [← hx']
      simp only [Nat.zero_add] at this ⊢
      exact this
    · have hbk : w'.heap[b]? = w.heap[b]? := by
        rcases hw with ⟨_, h'⟩ | ⟨_, h'⟩
        · exact h'.block b hb (fun e => by injection e with e; exact hgb e.symm)
        · exact h'.block b hb (fun e => by cases e)
      rw [World.cell?_of_block (w := w) hbk]
      exact hc j x hx
  · rcases hw with ⟨h1, h2⟩ | ⟨_, h2⟩
    · refine h.kept.by_own h2 ((h.row.lt g h1).1) hB ?_
      rcases h.place with h3 | ⟨b, h3, h4⟩
      · left; exact ⟨z, List.mem_singleton.2 rfl, by rw [← h3, h1]⟩
      · right
        rw [h1] at h3
        injection h3 with h3
        omega
    · exact h.kept.by_none h2 hB
end Go.Proofs.YtbaanoomilohhaaGreat

namespace Go.Proofs.YtbaanoomilohhaaGreat
open Go.RowKit

/-- So many of the kept lists are grown. -/
structure GrowSt (w wr : World) (B : Nat) (zs gs : List LI) (i : Nat) : Prop where
  len : gs.length = i
  rows : ∀ (a : Nat) (l : LI), gs[a]? = some l → wr.ownsRow B 3 1 l.val l.xs.length (l.xs.map (Value.int .i64)) ∧ l.xs = marksOf a 0 l.xs.length ∧ l.xs.length ≤ 1000000 ∧ ((∃ z, zs[a]? = some z ∧ l.val.ownBlock = z.val.ownBlock) ∨ ∃ b, l.val.ownBlock = some b ∧ w.heap.size ≤ b)
  left : ∀ (a : Nat) (z : LI), zs[a]? = some z → i ≤ a → wr.ownsRow B 3 1 z.val z.xs.length (z.xs.map (Value.int .i64))
  zints : ∀ (a : Nat) (z : LI), zs[a]? = some z → Ints wr wr.heap.size z.A z.xs
  kept : KeptBut zs B w wr
theorem ints_blocks {w w' : World} {A : Option Addr} {xs : List Int} (h : Ints w w.heap.size A xs) (hs : w.heap.size ≤ w'.heap.size) (hb : ∀ b off, A = some ⟨b, off, none⟩ → b < w.heap.size → w'.heap[b]? = w.heap[b]?) : Ints w' w'.heap.size A xs := fun hp => by
  obtain ⟨b, off, e, hbl, hc⟩ := h hp
  exact ⟨b, off, e, Nat.lt_of_lt_of_le hbl hs, fun j x hx => (World.cell?_of_block (w := w) (hb b off e hbl)).trans (hc j x hx)⟩
theorem GrowSt.start {w : World} {B : Nat} {zs : List LI} (hr : RowsI w B zs) (hz : ∀ (a : Nat) (z : LI), zs[a]? = some z → Ints w w.heap.size z.A z.xs) : GrowSt w w B zs [] 0 :=
  ⟨rfl, fun a l h => by simp at h, fun a z h _ => hr.own a z h, hz, KeptBut.refl _ _ _⟩
/-- One more is grown. -/
theorem GrowSt.next {w wr w2 : World} {B : Nat} {zs gs : List LI} {i n t g cap : Nat} {z : LI} (h : GrowSt w wr B zs gs i) (hr : RowsI w B zs) (hz : zs[i]? = some z) (hnt : n + t ≤ 1000000)
    (hg : GrowAt wr w2 B z i n t (.slice (some ⟨g, 0, none⟩) (n + t) cap)) : GrowSt w w2 B zs (gs ++ [⟨some ⟨g, 0, none⟩, cap, marksOf i 0 (n + t)⟩]) (i + 1) := by
  have hzb : ∀ b, z.val.ownBlock = some b → b < w.heap.size := fun b hb => ((hr.own i z hz).lt b hb).2
  have hfar : ∀ b, b < wr.heap.size → z.val.ownBlock ≠ some b → w2.heap[b]? = wr.heap[b]? := fun b h1 h2 => hg.kept.block b h1 (freeOf_one h2)
  refine ⟨by rw [List.length_append, h.len]; rfl, fun a l hl => ?_, fun a y hy ha => ?_, fun a y hy => ?_, ?_⟩
  · rcases Nat.lt_or_ge a gs.length with ha | ha
    · rw [List.getElem?_append_left ha] at hl
      obtain ⟨r1, r2, r3, r4⟩ := h.rows a l hl
      refine ⟨row_kept' r1 fun q hq => hfar q (r1.lt q hq).2 fun e => ?_, r2, r3, r4⟩
      rcases r4 with ⟨y, hy, h4⟩ | ⟨b, h4, h5⟩
      · rw [h4] at hq
        exact hr.apart a i y z q hy hz (by rw [h.len] at ha; omega) hq e
      · rw [h4] at hq
        injection hq with hq
        subst hq
        have := hzb _ e
        omega
    · have ha' : a = i := by
        rw [List.getElem?_append_right ha] at hl
        rcases Nat.eq_or_lt_of_le ha with e | e
        · rw [← e, h.len]
        · rw [List.getElem?_eq_none (by simp; omega)] at hl; cases hl
      subst ha'
      rw [List.getElem?_append_right ha, h.len, Nat.sub_self] at hl
      injection hl with hl
      subst hl
      refine ⟨?_, by simp only [marksOf_length], by simp only [marksOf_length]; exact hnt, ?_⟩
      · unfold LI.val
        simp only [marksOf_length]
        exact hg.row
      · rcases hg.place with h5 | ⟨b, h5, h6⟩
        · left
          refine ⟨z, hz, ?_⟩
          rw [← h5]
          rfl
        · right
          refine ⟨b, ?_, Nat.le_trans h.kept.below.size h6⟩
          rw [← h5]
          rfl
  · have ho := h.left a y hy (by omega)
    exact row_kept' ho fun q hq => hfar q (ho.lt q hq).2 fun e => hr.apart a i y z q hy hz (by omega) hq e
  · by_cases hai : a = i
    · subst hai
      rw [hz] at hy
      cases hy
      exact hg.zints
    · refine ints_blocks (h.zints a y hy) hg.kept.below.size fun b off e hb => hfar b hb fun e2 => hr.apart a i y z b hy hz hai (by unfold LI.val; rw [e]; rfl) e2
  · refine ⟨h.kept.below.trans hg.kept.below, fun b h1 h2 => ?_⟩
    exact (hfar b (Nat.lt_of_lt_of_le h1 h.kept.below.size) (h2 z (List.mem_of_getElem? hz))).trans (h.kept.block b h1 h2)
/-- A block of another kind turns. -/
theorem GrowSt.grown {w wr w2 : World} {B : Nat} {zs gs : List LI} {i : Nat} {row : Option Nat} (h : GrowSt w wr B zs gs i) (hr : RowsI w B zs) (hB : B ≤ w.heap.size) (hg : wr.grownBy w2 row) (h1 : ∀ q, row = some q → w.heap.size ≤ q) (h2 : ∀ q, row = some q → ∀ l ∈ gs, l.val.ownBlock ≠ some q) : GrowSt w w2 B zs gs i := by
  have hlow : ∀ b, b < w.heap.size → w2.heap[b]? = wr.heap[b]? := fun b hb => hg.block b (Nat.lt_of_lt_of_le hb h.kept.below.size) fun e => by have := h1 b e.symm; omega
  refine ⟨h.len, fun a l hl => ?_, fun a y hy ha => ?_, fun a y hy => ?_, ?_⟩
  · obtain ⟨r1, r2, r3, r4⟩ := h.rows a l hl
    exact ⟨row_kept' r1 fun q hq => hg.block q (r1.lt q hq).2 fun e => h2 q e.symm l (List.mem_of_getElem? hl) hq, r2, r3, r4⟩
  · exact row_kept' (h.left a y hy ha) fun q hq => hlow q ((hr.own a y hy).lt q hq).2
  · exact ints_blocks (h.zints a y hy) hg.size fun b off e _ => hlow b ((hr.own a y hy).lt b (by unfold LI.val; rw [e]; rfl)).2
  · exact ⟨h.kept.below.grown hg (Nat.le_trans hB h.kept.below.size) fun q e => Nat.le_trans hB (h1 q e), fun b hb hf => (hlow b hb).trans (h.kept.block b hb hf)⟩
/-- Rows of different kinds lie apart. -/
theorem rows_kinds {w : World} {b1 b2 n1 n2 : Nat} {v1 v2 : Value} {x1 x2 : List Value} (h1 : w.ownsRow b1 3 1 v1 n1 x1) (h2 : w.ownsRow b2 22 1 v2 n2 x2) (q : Nat) (e1 : v1.ownBlock = some q) (e2 : v2.ownBlock = some q) : False := by
  rcases h1.2 with ⟨rfl, _⟩ | ⟨g1, c1, u1, rfl, _, k1, _⟩
  · cases e1
  · rcases h2.2 with ⟨rfl, _⟩ | ⟨g2, c2, u2, rfl, _, k2, _⟩
    · cases e2
    · injection e1 with e1
      injection e2 with e2
      have e1 : g1 = q := e1
      have e2 : g2 = q := e2
      subst e1
      subst e2
      rw [k1] at k2
      injection k2 with k2
      injection k2 with _ k2 _
      revert k2
      decide
end Go.Proofs.YtbaanoomilohhaaGreat

namespace Go.Proofs.YtbaanoomilohhaaGreat
open Go.RowKit

theorem hrows_info : (Tryz.prog.info? 22).map (fun i => (i.zero, i.size, i.bytes)) = some (some (.slice none 0 0), 1, 24) := by kernel_rfl

set_option maxRecDepth 100000 in
set_option maxHeartbeats 8000000 in
theorem kgrow_any (g B : Nat) (p : Option Addr) (k cp : Nat) (zs : List LI) (w : World) (hg : g < w.heap.size) (hB : B ≤ w.heap.size) (h2 : w.cell? ⟨g, 2, none⟩ = some (.slice p k cp))
    (hk : zs.length = k) (hp : RowAt w p (zs.map LI.val)) (hb : k ≤ 1000) (hr : RowsI w B zs) (hfg : FreeOf zs g) (hfp : ∀ a, p = some a → FreeOf zs a.block) (hn : ∀ l ∈ zs, l.xs.length ≤ 900000)
    (hm : ∀ (i : Nat) (z : LI), zs[i]? = some z → z.xs = marksOf i 0 z.xs.length) (hz : ∀ (a : Nat) (z : LI), zs[a]? = some z → Ints w w.heap.size z.A z.xs) :
    Calls Tryz.prog 61 #[.pointer (some ⟨g, 0, none⟩)] w fun e w' => ∃ v gs, e = .returned v ∧ GrowSt w w' B zs gs k ∧ w'.ownsRow w.heap.size 22 1 v k (gs.map LI.val) := by
  obtain ⟨i0, hi0, hz0, hz1, hz2⟩ := info_parts hints_info
  obtain ⟨i1, hi1, hy0, hy1, hy2⟩ := info_parts hrows_info
  have HC : Hid (∀ w', KeptBut zs B w w' → w'.cell? ⟨g, 2, none⟩ = some (.slice p k cp)) := Lib.hid (fun w' hw => (hw.cell (p := ⟨g, 2, none⟩) hg hfg).trans h2)
  have HK := Lib.hid hk
  have HP := Lib.hid hp
  have HFP := Lib.hid hfp
  have HN := Lib.hid hn
  have HBS := Lib.hid hB
  have HR := Lib.hid hr
  have HM := Lib.hid hm
  have HS := Lib.hid (GrowSt.start hr hz)
  have hkI : (k : Int) ≤ 1000 := by omega
  clear hk hp hfp hr h2 hfg hn hB hm hz
  go_enter Tryz.func61, Tryz.ntmps61
  go_wp2_with fail
  go_loopw [3, 4] (fun o i wr => ∃ (j : Nat) (gs : List LI), j ≤ k ∧ i = .int .i64 j ∧ GrowSt w wr B zs gs j ∧ wr.ownsRow w.heap.size 22 1 o j (gs.map LI.val)) (fun _ i _ => k - (intOf i).toNat)
  case atStart => exact ⟨0, [], Nat.zero_le _, rfl, HS.out, World.ownsRow_nil _ _ _ _⟩
  case round =>
    obtain ⟨i, gs, hi, rfl, hst, hov⟩ := hrel
    obtain ⟨oA, oC, rfl, -, -, ho0, hoa⟩ := krow_form hov
    have HST := Lib.hid hst
    have HOV := Lib.hid hov
    have c2 := HC.out _ hst.kept
    have HBW : Hid (B ≤ wr.heap.size) := Lib.hid (Nat.le_trans HBS.out hst.kept.below.size)
    clear hst hov HS ho0 hoa
    by_cases hlt : i < k
    · obtain ⟨z, hz⟩ : ∃ z, zs[i]? = some z := ⟨zs[i]'(by rw [HK.out]; exact hlt), List.getElem?_eq_getElem _⟩
      have hll := HN.out z (List.mem_of_getElem? hz)
      have hzm := HM.out i z hz
      obtain ⟨b, off, rfl, hbl, hcl⟩ := HP.out (by rw [List.length_map, HK.out]; omega)
      have hcc := hcl i z.val (by rw [List.getElem?_map, hz]; rfl)
      have hcx : wr.cell? ⟨b, off + i, none⟩ = some z.val := (HST.out.kept.cell (p := ⟨b, off + i, none⟩) hbl (show FreeOf zs b from HFP.out ⟨b, off, none⟩ rfl)).trans hcc
      have hzo := HST.out.left i z hz (Nat.le_refl _)
      obtain ⟨pp, cc, ee, -, -, h0, hza⟩ := krow_form hzo
      have hA : ∀ a, z.A = some a → a = ⟨a.block, 0, none⟩ := fun a ha => hza a (by unfold LI.val at ee; injection ee with ee _ _; rw [← ee]; exact ha)
      obtain ⟨n, hnn⟩ : ∃ n, n = z.xs.length := ⟨_, rfl⟩
      have HZL : Hid (∀ b', z.val.ownBlock = some b' → b' < w.heap.size) := Lib.hid (fun b' hb' => ((HR.out.own i z hz).lt b' hb').2)
      have HZS := Lib.hid hz
      have HZA := Lib.hid hA
      have HXN : Hid (z.xs = marksOf i 0 n) := Lib.hid (by rw [hnn]; exact hzm)
      have HG0 : Hid (GrowAt wr wr B z i n 0 z.val) := Lib.hid ⟨by rw [Nat.add_zero, hnn, ← hzm]; exact hzo, .inl rfl, HST.out.zints i z hz, KeptBut.refl _ _ _⟩
      have hval : z.val = .slice z.A n z.c := by unfold LI.val; rw [hnn]
      rw [hval] at hcx HG0
      obtain ⟨zA, hzA⟩ : ∃ a, a = z.A := ⟨_, rfl⟩
      obtain ⟨zc, hzc⟩ : ∃ a, a = z.c := ⟨_, rfl⟩
      rw [← hzA, ← hzc] at hcx HG0
      have hiI : (i : Int) < (k : Int) := by omega
      have hnI : n ≤ 900000 := by omega
      obtain ⟨W1, hW1⟩ : ∃ W, W = wr := ⟨_, rfl⟩
      have HG1 : Hid (GrowAt W1 wr B z i n 0 (.slice zA n zc)) := by rw [hW1]; exact HG0
      have HBW1 : Hid (B ≤ W1.heap.size) := by rw [hW1]; exact HBW
      have HST1 : Hid (GrowSt w W1 B zs gs i) := by rw [hW1]; exact HST
      have HOV1 : Hid (W1.ownsRow w.heap.size 22 1 (.slice oA i oC) i (gs.map LI.val)) := by rw [hW1]; exact HOV
      clear hz hll hzm hbl hcl hcc hzo ee h0 hza hA hnn hval hzA hzc HG0 HBW HST HOV hW1
      go_wp2_with fail
      clear hcx c2
      go_loopw [5, 6] (fun l q wq => ∃ t : Nat, t ≤ 12 ∧ q = .int .i64 t ∧ GrowAt W1 wq B z i n t l) (fun _ q _ => 12 - (intOf q).toNat)
      case atStart => exact ⟨0, Nat.zero_le _, rfl, HG1.out⟩
      case round =>
        obtain ⟨t, ht, rfl, hga⟩ := hrel
        obtain ⟨lp, lc, rfl, -, -, -, -⟩ := krow_form hga.row
        have HGA := Lib.hid hga
        have HBQ : Hid (B ≤ wr.heap.size) := Lib.hid (Nat.le_trans HBW1.out hga.kept.below.size)
        clear hga HG1
        by_cases htt : t < 12
        · have HMK : Hid (∀ W, Calls Tryz.prog 98 #[.int .i64 i, .int .i64 ((n + t : Nat) : Int), .int .i64 1] W fun e w' => ∃ v, e = .returned v ∧ w'.ownsRow W.heap.size 3 1 v 1 ((marksOf i (n + t) 1).map (Value.int .i64)) ∧ Below W.heap.size W w') := Lib.hid (fun W => kmark_any i (n + t) 1 W (by omega) (by omega) (by omega))
          have htI : (t : Int) < 12 := by omega
          go_wp2_with fail
          refine (HMK.out _).mono ?_
          rintro e w2 ⟨v, rfl, hmr, hb2⟩
          obtain ⟨mp, mc, rfl, -, -, hm0, hma⟩ := krow_form hmr
          obtain ⟨mg, rfl⟩ : ∃ mg, mp = some ⟨mg, 0, none⟩ := by
            rcases mp with _ | a
            · exact absurd (hm0 rfl) (by omega)
            · exact ⟨a.block, by rw [← hma a rfl]⟩
          have hga2 := HGA.out.below HBQ.out hb2
          have hB2 : B ≤ w2.heap.size := Nat.le_trans HBQ.out hb2.size
          obtain ⟨gd, cap, w3, hrun, hown, hlt3, hwh⟩ := run_append_two (P := Tryz.prog) w2 22 22 B 3 i0 (.int .i64 0) 8 Tryz.underlying22 hi0 hz0 hz1 hz2 rfl (.slice lp (n + t) lc) (n + t) _ hga2.row ⟨mg, 0, none⟩ 1 mc ((marksOf i (n + t) 1).map (Value.int .i64)) (by rw [List.length_map, marksOf_length]) (hmr.cells (g := mg) rfl) (fun u hu => by
            obtain ⟨x, _, rfl⟩ := List.mem_map.1 hu
            rfl) (by omega) (by unfold maxLen; omega) (by omega) hB2
          have HRUN := Lib.hid hrun
          have HGN : Hid (GrowAt W1 w3 B z i n (t + 1) (.slice (some ⟨gd, 0, none⟩) (n + (t + 1)) cap)) := Lib.hid (hga2.append hB2 HXN.out HZA.out hown hwh)
          clear hmr hm0 hma hga2 hrun hown hwh hb2
          go_wp2_with (at_builtin; refine wpList_value rfl (exec_append rfl rfl rfl HRUN.out) ?_)
          go_roundw
          case rel => exact ⟨t + 1, by omega, by go_num, HGN.out⟩
          case measure => simp [intOf]; omega
        · obtain rfl : t = 12 := by omega
          have HMK : Hid (∀ W, Calls Tryz.prog 98 #[.int .i64 i, .int .i64 ((n + 12 : Nat) : Int), .int .i64 60] W fun e w' => ∃ v, e = .returned v ∧ w'.ownsRow W.heap.size 3 1 v 60 ((marksOf i (n + 12) 60).map (Value.int .i64)) ∧ Below W.heap.size W w') := Lib.hid (fun W => kmark_any i (n + 12) 60 W (by omega) (by omega) (by omega))
          go_wp2_with fail
          refine (HMK.out _).mono ?_
          rintro e w2 ⟨v, rfl, hmr, hb2⟩
          obtain ⟨mp, mc, rfl, -, -, hm0, hma⟩ := krow_form hmr
          obtain ⟨mg, rfl⟩ : ∃ mg, mp = some ⟨mg, 0, none⟩ := by
            rcases mp with _ | a
            · exact absurd (hm0 rfl) (by omega)
            · exact ⟨a.block, by rw [← hma a rfl]⟩
          have hga2 := HGA.out.below HBQ.out hb2
          have hB2 : B ≤ w2.heap.size := Nat.le_trans HBQ.out hb2.size
          obtain ⟨gd, cap, w3, hrun, hown, hlt3, hwh⟩ := run_append_two (P := Tryz.prog) w2 22 22 B 3 i0 (.int .i64 0) 8 Tryz.underlying22 hi0 hz0 hz1 hz2 rfl (.slice lp (n + 12) lc) (n + 12) _ hga2.row ⟨mg, 0, none⟩ 60 mc ((marksOf i (n + 12) 60).map (Value.int .i64)) (by rw [List.length_map, marksOf_length]) (hmr.cells (g := mg) rfl) (fun u hu => by
            obtain ⟨x, _, rfl⟩ := List.mem_map.1 hu
            rfl) (by omega) (by unfold maxLen; omega) (by omega) hB2
          have HRUN := Lib.hid hrun
          have HGN : Hid (GrowAt W1 w3 B z i n (12 + 60) (.slice (some ⟨gd, 0, none⟩) (n + (12 + 60)) cap)) := Lib.hid (hga2.append hB2 HXN.out HZA.out hown hwh)
          clear hmr hm0 hma hga2 hrun hown hwh hb2
          have hov3 : w3.ownsRow w.heap.size 22 1 (.slice oA i oC) i (gs.map LI.val) := row_kept' HOV1.out fun q hq => HGN.out.kept.block q (HOV1.out.lt q hq).2 (freeOf_one fun e => by have := HZL.out q e; have := (HOV1.out.lt q hq).1; omega)
          have hst3 := HST1.out.next HR.out HZS.out (by omega) HGN.out
          obtain ⟨gl, hgl⟩ : ∃ gl : LI, gl = ⟨some ⟨gd, 0, none⟩, cap, marksOf i 0 (n + (12 + 60))⟩ := ⟨_, rfl⟩
          rw [← hgl] at hst3
          have hglv : gl.val = .slice (some ⟨gd, 0, none⟩) (n + 12 + 60) cap := by rw [hgl]; unfold LI.val; simp only [marksOf_length]
          have hst4 : GrowSt w (w3.alloc (.cells #[.slice (some ⟨gd, 0, none⟩) (n + 12 + 60) cap] 22)) B zs (gs ++ [gl]) (i + 1) := GrowSt.grown (row := none) hst3 HR.out HBS.out (by_alloc (by_refl _ _) _) (fun q e => by cases e) (fun q e => by cases e)
          have hov4 := hov3.alloc (.cells #[.slice (some ⟨gd, 0, none⟩) (n + 12 + 60) cap] 22)
          have hws : w.heap.size ≤ w3.heap.size := hst3.kept.below.size
          have HST4 := Lib.hid hst4
          have HOV4 := Lib.hid hov4
          have HGL := Lib.hid hglv
          clear hov3 hst3 hst4 hov4 hgl hglv
          go_wp2_with (first
            | (at_builtin; refine wpList_value rfl (exec_append rfl rfl rfl HRUN.out) ?_)
            | (at_builtin; refine wpList_append_lies _ rfl (.tmp 33) (.tmp 40) 34 rfl w.heap.size 22 i1 (.slice none 0 0) 1 24 Tryz.underlying34 hi1 hy0 hy1 hy2 rfl (by omega) _ i _ rfl HOV4.out ⟨w3.heap.size, 0, none⟩ 1 1 [.slice (some ⟨gd, 0, none⟩) (n + 12 + 60) cap] rfl rfl ?c1 ?c2 (by omega) (by unfold maxLen; omega) (by omega) (by simp; omega) _ rfl ?_))
          case c1 =>
            intro a u ha
            match a, ha with
            | 0, ha => simp at ha; subst ha; simp [Addr.add]
          case c2 => intro u hu; simp at hu; subst hu; rfl
          intro g2 cap2 w5 hown5 hg5 hor5 hlt5
          have HST5 : Hid (GrowSt w w5 B zs (gs ++ [gl]) (i + 1)) := Lib.hid (HST4.out.grown HR.out HBS.out hg5 (fun q e => (HOV4.out.lt q e).1) (fun q e l hl hq => by
            obtain ⟨a, ha⟩ := List.mem_iff_getElem?.1 hl
            exact rows_kinds (HST4.out.rows a l ha).1 HOV4.out q hq e))
          have HOV5 : Hid (w5.ownsRow w.heap.size 22 1 (.slice (some ⟨g2, 0, none⟩) (i + 1) cap2) (i + 1) ((gs ++ [gl]).map LI.val)) := Lib.hid (by rw [List.map_append, List.map_cons, List.map_nil, HGL.out]; exact hown5)
          clear hown5 hg5 hor5 hlt5
          go_wp2_with fail
          go_roundw
          case rel => exact ⟨i + 1, gs ++ [gl], by omega, by go_num, HST5.out, HOV5.out⟩
          case measure => simp [intOf]; omega
    · obtain rfl : i = k := by omega
      go_wp2_with fail
      go_ret
      exact ⟨_, gs, rfl, HST.out, HOV.out⟩
end Go.Proofs.YtbaanoomilohhaaGreat

namespace Go.Proofs.YtbaanoomilohhaaGreat
open Go.RowKit

/-- On the way through a round of markedInts. -/
structure MJ (W : World) (b off k cR j : Nat) (A : Option Addr) (n c : Nat) (L : Nat → Bool) (f : Nat → Value) (w' : World) : Prop where
  f0 : L 0 = true → f 0 = .slice (some ⟨b, off, none⟩) k cR
  f1 : L 1 = true → f 1 = .int .i64 (j : Int)
  f2 : L 2 = true → f 2 = .pointer (some ⟨b, off + j, none⟩)
  f3 : L 3 = true → f 3 = .slice A n c
  f4 : L 4 = true → f 4 = .int .i64 (j : Int)
  f5 : L 5 = true → f 5 = .slice (some ⟨b, off, none⟩) k cR
  f6 : L 6 = true → f 6 = .int .i64 (j : Int)
  f7 : L 7 = true → f 7 = .pointer (some ⟨b, off + j, none⟩)
  f8 : L 8 = true → f 8 = .slice A n c
  f9 : L 9 = true → f 9 = .int .i64 (n : Int)
  f10 : L 10 = true → ∃ mp mc, f 10 = .slice mp n mc ∧ Ints w' w'.heap.size mp (marksOf j 0 n)
  f11 : L 11 = true → f 11 = .bool true
  c11 : L 11 = true → L 10 = true
  below : Below W.heap.size W w'

set_option maxRecDepth 100000 in
set_option maxHeartbeats 4000000 in
theorem kmarked_any (p : Option Addr) (k cR : Nat) (ls : List LI) (w : World) (hk : ls.length = k) (hp : RowAt w p (ls.map LI.val)) (hb : k ≤ 1000)
    (hs : ∀ (i : Nat) (l : LI), ls[i]? = some l → l.xs = marksOf i 0 l.xs.length ∧ Ints w w.heap.size l.A l.xs ∧ l.xs.length ≤ 1000000) :
    Calls Tryz.prog 69 #[.slice p k cR] w fun e w' => e = .returned (.bool true) ∧ Below w.heap.size w w' := by
  have HK := Lib.hid hk
  have HP := Lib.hid hp
  have HSS := Lib.hid hs
  have hkI : (k : Int) ≤ 1000 := by omega
  clear hk hp hs
  go_enter Tryz.func69, Tryz.ntmps69
  go_wp2_with fail
  go_loopw [3] (fun i wr => ∃ j : Nat, j ≤ k ∧ i = .int .i64 j ∧ Below w.heap.size w wr) (fun i _ => k - (intOf i).toNat)
  case atStart => exact ⟨0, Nat.zero_le _, rfl, Below.refl _ _⟩
  case round =>
    obtain ⟨j, hj, rfl, hbr⟩ := hrel
    have HBR := Lib.hid hbr
    clear hbr
    by_cases hlt : j < k
    · obtain ⟨l, hl⟩ : ∃ l, ls[j]? = some l := ⟨ls[j]'(by rw [HK.out]; exact hlt), List.getElem?_eq_getElem _⟩
      obtain ⟨e1, e2, e3⟩ := HSS.out j l hl
      obtain ⟨b, off, rfl, hx⟩ := HP.out.get hl
      obtain ⟨A, c, xs⟩ := l
      simp only at e1 e2 e3
      unfold LI.val at hx
      simp only at hx
      obtain ⟨n, hn⟩ : ∃ n, n = xs.length := ⟨_, rfl⟩
      rw [← hn] at e1 e3 hx
      subst e1
      have HX := Lib.hid hx
      have HS : Hid (∀ w' mp mc, Below w.heap.size w w' → Ints w' w'.heap.size mp (marksOf j 0 n) → Calls Tryz.prog 16 #[.slice A n c, .slice mp n mc] w' fun e w'' => e = .returned (.bool true) ∧ Below w'.heap.size w' w'') := Lib.hid (fun w' mp mc hw hm => by
        refine (ksame_any A mp n c mc (marksOf j 0 n) w' (marksOf_length _ _ _) ((e2.below hw).more hw.size) hm e3).mono ?_
        rintro e w'' ⟨rfl, q, rfl⟩
        exact ⟨rfl, ⟨rfl, rfl, rfl, Nat.le_refl _, fun _ _ => rfl⟩⟩)
      have HMK : Hid (∀ W, Calls Tryz.prog 98 #[.int .i64 j, .int .i64 0, .int .i64 n] W fun e w' => ∃ v, e = .returned v ∧ w'.ownsRow W.heap.size 3 1 v n ((marksOf j 0 n).map (Value.int .i64)) ∧ Below W.heap.size W w') := Lib.hid (fun W => kmark_any j 0 n W (by omega) (by omega) e3)
      have hjI : (j : Int) < (k : Int) := by omega
      have hnI : (n : Int) ≤ 1000000 := by omega
      clear hx hl e2 hn
      go_upto_region 4 with fail
      refine wp_region_phase 10 12 21 1 (MJ w b off k cR j A n c) (by kernel_rfl) (by kernel_rfl) rfl (by omega) (by kernel_rfl) rfl (by simp) ?h0 ?hops ?hrest
      case h0 => exact ⟨(fun h => by cases h), (fun h => by cases h), (fun h => by cases h), (fun h => by cases h), (fun h => by cases h), (fun h => by cases h), (fun h => by cases h), (fun h => by cases h), (fun h => by cases h), (fun h => by cases h), (fun h => by cases h), (fun h => by cases h), (fun h => by cases h), HBR.out.drew⟩
      case hops =>
        intro o ho L f y w' hF hLo hJ hw hy
        have HJ := Lib.hid hJ
        clear hJ
        rcases (show o = 0 ∨ o = 1 ∨ o = 2 ∨ o = 3 ∨ o = 4 ∨ o = 5 ∨ o = 6 ∨ o = 7 ∨ o = 8 ∨ o = 9 ∨ o = 10 ∨ o = 11 by omega) with rfl | rfl | rfl | rfl | rfl | rfl | rfl | rfl | rfl | rfl | rfl | rfl
        · have t0 : y.tmps[0]?.getD undef = .slice (some ⟨b, off, none⟩) k cR := by rw [hF.2.2 0 (by omega)]; rfl
          clear hw hy hF
          refine wpOp_value (v := .slice (some ⟨b, off, none⟩) k cR) (w' := w') rfl rfl ?_ ⟨_, rfl, ?_⟩
          · go_simp
          · have k := HJ.out
            exact ⟨fun _ => rfl, k.f1, k.f2, k.f3, k.f4, k.f5, k.f6, k.f7, k.f8, k.f9, k.f10, k.f11, k.c11, k.below⟩
        · have t0 : y.tmps[3]?.getD undef = .int .i64 (j : Int) := by rw [hF.2.2 3 (by omega)]; rfl
          clear hw hy hF
          refine wpOp_value (v := .int .i64 (j : Int)) (w' := w') rfl rfl ?_ ⟨_, rfl, ?_⟩
          · go_simp
          · have k := HJ.out
            exact ⟨k.f0, fun _ => rfl, k.f2, k.f3, k.f4, k.f5, k.f6, k.f7, k.f8, k.f9, k.f10, k.f11, k.c11, k.below⟩
        · have l0 : L 0 = true := hw 0 (of_decide_eq_true (by kernel_rfl))
          have t1 : y.tmps[10]?.getD undef = .slice (some ⟨b, off, none⟩) k cR := (hy 0 (by omega) l0).trans (HJ.out.f0 l0)
          have l1 : L 1 = true := hw 1 (of_decide_eq_true (by kernel_rfl))
          have t2 : y.tmps[11]?.getD undef = .int .i64 (j : Int) := (hy 1 (by omega) l1).trans (HJ.out.f1 l1)
          clear hw hy hF
          refine wpOp_value (v := .pointer (some ⟨b, off + j, none⟩)) (w' := w') rfl rfl ?_ ⟨_, rfl, ?_⟩
          · go_simp
          · have k := HJ.out
            exact ⟨k.f0, k.f1, fun _ => rfl, k.f3, k.f4, k.f5, k.f6, k.f7, k.f8, k.f9, k.f10, k.f11, k.c11, k.below⟩
        · have l2 : L 2 = true := hw 2 (of_decide_eq_true (by kernel_rfl))
          have t1 : y.tmps[12]?.getD undef = .pointer (some ⟨b, off + j, none⟩) := (hy 2 (by omega) l2).trans (HJ.out.f2 l2)
          have hcx := HX.out w' HJ.out.below
          clear hw hy hF
          refine wpOp_value (v := .slice A n c) (w' := w') rfl rfl ?_ ⟨_, rfl, ?_⟩
          · go_simp
          · have k := HJ.out
            exact ⟨k.f0, k.f1, k.f2, fun _ => rfl, k.f4, k.f5, k.f6, k.f7, k.f8, k.f9, k.f10, k.f11, k.c11, k.below⟩
        · have t0 : y.tmps[3]?.getD undef = .int .i64 (j : Int) := by rw [hF.2.2 3 (by omega)]; rfl
          clear hw hy hF
          refine wpOp_value (v := .int .i64 (j : Int)) (w' := w') rfl rfl ?_ ⟨_, rfl, ?_⟩
          · go_simp
          · have k := HJ.out
            exact ⟨k.f0, k.f1, k.f2, k.f3, fun _ => rfl, k.f5, k.f6, k.f7, k.f8, k.f9, k.f10, k.f11, k.c11, k.below⟩
        · have t0 : y.tmps[0]?.getD undef = .slice (some ⟨b, off, none⟩) k cR := by rw [hF.2.2 0 (by omega)]; rfl
          clear hw hy hF
          refine wpOp_value (v := .slice (some ⟨b, off, none⟩) k cR) (w' := w') rfl rfl ?_ ⟨_, rfl, ?_⟩
          · go_simp
          · have k := HJ.out
            exact ⟨k.f0, k.f1, k.f2, k.f3, k.f4, fun _ => rfl, k.f6, k.f7, k.f8, k.f9, k.f10, k.f11, k.c11, k.below⟩
        · have t0 : y.tmps[3]?.getD undef = .int .i64 (j : Int) := by rw [hF.2.2 3 (by omega)]; rfl
          clear hw hy hF
          refine wpOp_value (v := .int .i64 (j : Int)) (w' := w') rfl rfl ?_ ⟨_, rfl, ?_⟩
          · go_simp
          · have k := HJ.out
            exact ⟨k.f0, k.f1, k.f2, k.f3, k.f4, k.f5, fun _ => rfl, k.f7, k.f8, k.f9, k.f10, k.f11, k.c11, k.below⟩
        · have l5 : L 5 = true := hw 5 (of_decide_eq_true (by kernel_rfl))
          have t1 : y.tmps[15]?.getD undef = .slice (some ⟨b, off, none⟩) k cR := (hy 5 (by omega) l5).trans (HJ.out.f5 l5)
          have l6 : L 6 = true := hw 6 (of_decide_eq_true (by kernel_rfl))
          have t2 : y.tmps[16]?.getD undef = .int .i64 (j : Int) := (hy 6 (by omega) l6).trans (HJ.out.f6 l6)
          clear hw hy hF
          refine wpOp_value (v := .pointer (some ⟨b, off + j, none⟩)) (w' := w') rfl rfl ?_ ⟨_, rfl, ?_⟩
          · go_simp
          · have k := HJ.out
            exact ⟨k.f0, k.f1, k.f2, k.f3, k.f4, k.f5, k.f6, fun _ => rfl, k.f8, k.f9, k.f10, k.f11, k.c11, k.below⟩
        · have l7 : L 7 = true := hw 7 (of_decide_eq_true (by kernel_rfl))
          have t1 : y.tmps[17]?.getD undef = .pointer (some ⟨b, off + j, none⟩) := (hy 7 (by omega) l7).trans (HJ.out.f7 l7)
          have hcx := HX.out w' HJ.out.below
          clear hw hy hF
          refine wpOp_value (v := .slice A n c) (w' := w') rfl rfl ?_ ⟨_, rfl, ?_⟩
          · go_simp
          · have k := HJ.out
            exact ⟨k.f0, k.f1, k.f2, k.f3, k.f4, k.f5, k.f6, k.f7, fun _ => rfl, k.f9, k.f10, k.f11, k.c11, k.below⟩
        · have l8 : L 8 = true := hw 8 (of_decide_eq_true (by kernel_rfl))
          have t1 : y.tmps[18]?.getD undef = .slice A n c := (hy 8 (by omega) l8).trans (HJ.out.f8 l8)
          clear hw hy hF
          refine wpOp_value (v := .int .i64 (n : Int)) (w' := w') rfl rfl ?_ ⟨_, rfl, ?_⟩
          · go_simp
          · have k := HJ.out
            exact ⟨k.f0, k.f1, k.f2, k.f3, k.f4, k.f5, k.f6, k.f7, k.f8, fun _ => rfl, k.f10, k.f11, k.c11, k.below⟩
        · have l4 : L 4 = true := hw 4 (of_decide_eq_true (by kernel_rfl))
          have l9 : L 9 = true := hw 9 (of_decide_eq_true (by kernel_rfl))
          have t1 : y.tmps[14]?.getD undef = .int .i64 (j : Int) := (hy 4 (by omega) l4).trans (HJ.out.f4 l4)
          have t2 : y.tmps[19]?.getD undef = .int .i64 (n : Int) := (hy 9 (by omega) l9).trans (HJ.out.f9 l9)
          have l11 : L 11 = false := by
            cases hl : L 11 with
            | false => rfl
            | true => rw [HJ.out.c11 hl] at hLo; cases hLo
          clear hw hy hF
          refine wpOp_call (f := 98) (args := #[.int .i64 j, .int .i64 0, .int .i64 n]) rfl rfl (by go_simp) ((HMK.out w').mono ?_)
          rintro e w'' ⟨v, rfl, hrow, hb2⟩
          obtain ⟨mp, mc, rfl, -⟩ := row_slice' hrow
          refine ⟨_, rfl, _, rfl, ?_⟩
          have k := HJ.out
          have hrow' : w''.ownsRow w'.heap.size 3 1 (.slice mp (marksOf j 0 n).length mc) (marksOf j 0 n).length ((marksOf j 0 n).map (Value.int .i64)) := by rw [marksOf_length]; exact hrow
          exact ⟨k.f0, k.f1, k.f2, k.f3, k.f4, k.f5, k.f6, k.f7, k.f8, k.f9, fun _ => ⟨mp, mc, rfl, row_ints hrow'⟩, (fun h => by rw [show L 11 = true from h] at l11; cases l11), (fun h => by rw [show L 11 = true from h] at l11; cases l11), k.below.trans (hb2.mono k.below.size)⟩
        · have l3 : L 3 = true := hw 3 (of_decide_eq_true (by kernel_rfl))
          have l10 : L 10 = true := hw 10 (of_decide_eq_true (by kernel_rfl))
          obtain ⟨mp, mc, hf10, hmi⟩ := HJ.out.f10 l10
          have t1 : y.tmps[13]?.getD undef = .slice A n c := (hy 3 (by omega) l3).trans (HJ.out.f3 l3)
          have t2 : y.tmps[20]?.getD undef = .slice mp n mc := (hy 10 (by omega) l10).trans hf10
          have HMI := Lib.hid hmi
          have HF10 := Lib.hid hf10
          clear hw hy hF hmi hf10
          refine wpOp_call (f := 16) (args := #[.slice A n c, .slice mp n mc]) rfl rfl (by go_simp) ((HS.out w' mp mc HJ.out.below HMI.out).mono ?_)
          rintro e w'' ⟨rfl, hb2⟩
          refine ⟨_, rfl, _, rfl, ?_⟩
          have k := HJ.out
          exact ⟨k.f0, k.f1, k.f2, k.f3, k.f4, k.f5, k.f6, k.f7, k.f8, k.f9, fun _ => ⟨mp, mc, HF10.out, (HMI.out.below hb2).more hb2.size⟩, fun _ => rfl, fun _ => l10, k.below.trans (hb2.mono k.below.size)⟩
      case hrest =>
        intro L f w' hL hJ
        have hf11 := hJ.f11 (hL 11 (by omega))
        have HB7 := Lib.hid hJ.below
        clear hJ hL
        rw [show List.range' 12 1 = [12] from rfl]
        simp only [putAll, List.range, List.range.loop, List.foldl, Nat.reduceAdd, List.setIfInBounds_toArray, List.set_cons_succ, List.set_cons_zero, hf11]
        clear hf11
        rw [wpOps_cons]
        refine wpOp_value (v := .bool false) (w' := w') rfl rfl (by go_simp) ?_
        change wpOps _ _ _ [] (Act.put _ (some 22) (.bool false)) _
        simp only [wpOps, Act.put, List.setIfInBounds_toArray, List.set_cons_succ, List.set_cons_zero]
        go_wp2_with fail
        go_roundw
        case rel => exact ⟨j + 1, by omega, by go_num, HB7.out⟩
        case measure => simp [intOf]; omega
    · obtain rfl : j = k := by omega
      go_wp2_with fail
      go_ret
      exact ⟨rfl, HBR.out⟩
end Go.Proofs.YtbaanoomilohhaaGreat

namespace Go.Proofs.YtbaanoomilohhaaGreat
open Go.RowKit

set_option maxRecDepth 100000 in
set_option maxHeartbeats 1000000 in
theorem stillTexts_none (g : Nat) (w : World) (hc : w.cell? ⟨g, 0, none⟩ = some (.slice none 0 0)) :
    Calls Tryz.prog 44 #[.pointer (some ⟨g, 0, none⟩)] w fun e w' => e = .returned (.bool true) ∧ w = w' := by
  go_enter Tryz.func44, Tryz.ntmps44
  go_wp2_with fail
  go_loopw [3] (fun i wr => i = .int .i64 0 ∧ w = wr) (fun _ _ => 0)
  case atStart => exact ⟨rfl, rfl⟩
  case round =>
    obtain ⟨rfl, rfl⟩ := hrel
    go_wp2_with fail
    go_ret
    exact ⟨rfl, rfl⟩
set_option maxRecDepth 100000 in
set_option maxHeartbeats 1000000 in
theorem putTexts_none (g : Nat) (w : World) (hc : w.cell? ⟨g, 0, none⟩ = some (.slice none 0 0)) :
    Calls Tryz.prog 53 #[.pointer (some ⟨g, 0, none⟩)] w fun e w' => e = .returned (.tuple #[]) ∧ w = w' := by
  go_enter Tryz.func53, Tryz.ntmps53
  go_wp2_with fail
  go_loopw [2] (fun i wr => i = .int .i64 0 ∧ w = wr) (fun _ _ => 0)
  case atStart => exact ⟨rfl, rfl⟩
  case round =>
    obtain ⟨rfl, rfl⟩ := hrel
    go_wp2_with fail
    go_end0
    exact ⟨rfl, rfl⟩
set_option maxRecDepth 100000 in
set_option maxHeartbeats 1000000 in
theorem growTexts_none (g : Nat) (w : World) (hc : w.cell? ⟨g, 0, none⟩ = some (.slice none 0 0)) :
    Calls Tryz.prog 60 #[.pointer (some ⟨g, 0, none⟩)] w fun e w' => e = .returned (.slice none 0 0) ∧ w = w' := by
  go_enter Tryz.func60, Tryz.ntmps60
  go_wp2_with fail
  go_loopw [3, 4] (fun v i wr => v = .slice none 0 0 ∧ i = .int .i64 0 ∧ w = wr) (fun _ _ _ => 0)
  case atStart => exact ⟨rfl, rfl, rfl⟩
  case round =>
    obtain ⟨rfl, rfl, rfl⟩ := hrel
    go_wp2_with fail
    go_ret
    exact ⟨rfl, rfl⟩
set_option maxRecDepth 100000 in
set_option maxHeartbeats 1000000 in
theorem markedTexts_none (w : World) :
    Calls Tryz.prog 68 #[.slice none 0 0] w fun e w' => e = .returned (.bool true) ∧ w = w' := by
  go_enter Tryz.func68, Tryz.ntmps68
  go_wp2_with fail
  go_loopw [3] (fun i wr => i = .int .i64 0 ∧ w = wr) (fun _ _ => 0)
  case atStart => exact ⟨rfl, rfl⟩
  case round =>
    obtain ⟨rfl, rfl⟩ := hrel
    go_wp2_with fail
    go_ret
    exact ⟨rfl, rfl⟩

set_option maxRecDepth 100000 in
set_option maxHeartbeats 1000000 in
theorem stillSpans_none (g : Nat) (w : World) (hc : w.cell? ⟨g, 4, none⟩ = some (.slice none 0 0)) :
    Calls Tryz.prog 46 #[.pointer (some ⟨g, 0, none⟩)] w fun e w' => e = .returned (.bool true) ∧ w = w' := by
  go_enter Tryz.func46, Tryz.ntmps46
  go_wp2_with fail
  go_loopw [3] (fun i wr => i = .int .i64 0 ∧ w = wr) (fun _ _ => 0)
  case atStart => exact ⟨rfl, rfl⟩
  case round =>
    obtain ⟨rfl, rfl⟩ := hrel
    go_wp2_with fail
    go_ret
    exact ⟨rfl, rfl⟩
set_option maxRecDepth 100000 in
set_option maxHeartbeats 1000000 in
theorem putSpans_none (g : Nat) (w : World) (hc : w.cell? ⟨g, 4, none⟩ = some (.slice none 0 0)) :
    Calls Tryz.prog 55 #[.pointer (some ⟨g, 0, none⟩)] w fun e w' => e = .returned (.tuple #[]) ∧ w = w' := by
  go_enter Tryz.func55, Tryz.ntmps55
  go_wp2_with fail
  go_loopw [2] (fun i wr => i = .int .i64 0 ∧ w = wr) (fun _ _ => 0)
  case atStart => exact ⟨rfl, rfl⟩
  case round =>
    obtain ⟨rfl, rfl⟩ := hrel
    go_wp2_with fail
    go_end0
    exact ⟨rfl, rfl⟩
set_option maxRecDepth 100000 in
set_option maxHeartbeats 1000000 in
theorem growSpans_none (g : Nat) (w : World) (hc : w.cell? ⟨g, 4, none⟩ = some (.slice none 0 0)) :
    Calls Tryz.prog 62 #[.pointer (some ⟨g, 0, none⟩)] w fun e w' => e = .returned (.slice none 0 0) ∧ w = w' := by
  go_enter Tryz.func62, Tryz.ntmps62
  go_wp2_with fail
  go_loopw [3, 4] (fun v i wr => v = .slice none 0 0 ∧ i = .int .i64 0 ∧ w = wr) (fun _ _ _ => 0)
  case atStart => exact ⟨rfl, rfl, rfl⟩
  case round =>
    obtain ⟨rfl, rfl, rfl⟩ := hrel
    go_wp2_with fail
    go_ret
    exact ⟨rfl, rfl⟩
set_option maxRecDepth 100000 in
set_option maxHeartbeats 1000000 in
theorem markedSpans_none (w : World) :
    Calls Tryz.prog 70 #[.slice none 0 0] w fun e w' => e = .returned (.bool true) ∧ w = w' := by
  go_enter Tryz.func70, Tryz.ntmps70
  go_wp2_with fail
  go_loopw [3] (fun i wr => i = .int .i64 0 ∧ w = wr) (fun _ _ => 0)
  case atStart => exact ⟨rfl, rfl⟩
  case round =>
    obtain ⟨rfl, rfl⟩ := hrel
    go_wp2_with fail
    go_ret
    exact ⟨rfl, rfl⟩

set_option maxRecDepth 100000 in
set_option maxHeartbeats 1000000 in
theorem stillPieces_none (g : Nat) (w : World) (hc : w.cell? ⟨g, 6, none⟩ = some (.slice none 0 0)) :
    Calls Tryz.prog 47 #[.pointer (some ⟨g, 0, none⟩)] w fun e w' => e = .returned (.bool true) ∧ w = w' := by
  go_enter Tryz.func47, Tryz.ntmps47
  go_wp2_with fail
  go_loopw [3] (fun i wr => i = .int .i64 0 ∧ w = wr) (fun _ _ => 0)
  case atStart => exact ⟨rfl, rfl⟩
  case round =>
    obtain ⟨rfl, rfl⟩ := hrel
    go_wp2_with fail
    go_ret
    exact ⟨rfl, rfl⟩
set_option maxRecDepth 100000 in
set_option maxHeartbeats 1000000 in
theorem putPieces_none (g : Nat) (w : World) (hc : w.cell? ⟨g, 6, none⟩ = some (.slice none 0 0)) :
    Calls Tryz.prog 56 #[.pointer (some ⟨g, 0, none⟩)] w fun e w' => e = .returned (.tuple #[]) ∧ w = w' := by
  go_enter Tryz.func56, Tryz.ntmps56
  go_wp2_with fail
  go_loopw [2] (fun i wr => i = .int .i64 0 ∧ w = wr) (fun _ _ => 0)
  case atStart => exact ⟨rfl, rfl⟩
  case round =>
    obtain ⟨rfl, rfl⟩ := hrel
    go_wp2_with fail
    go_end0
    exact ⟨rfl, rfl⟩
set_option maxRecDepth 100000 in
set_option maxHeartbeats 1000000 in
theorem growPieces_none (g : Nat) (w : World) (hc : w.cell? ⟨g, 6, none⟩ = some (.slice none 0 0)) :
    Calls Tryz.prog 63 #[.pointer (some ⟨g, 0, none⟩)] w fun e w' => e = .returned (.slice none 0 0) ∧ w = w' := by
  go_enter Tryz.func63, Tryz.ntmps63
  go_wp2_with fail
  go_loopw [3, 4] (fun v i wr => v = .slice none 0 0 ∧ i = .int .i64 0 ∧ w = wr) (fun _ _ _ => 0)
  case atStart => exact ⟨rfl, rfl, rfl⟩
  case round =>
    obtain ⟨rfl, rfl, rfl⟩ := hrel
    go_wp2_with fail
    go_ret
    exact ⟨rfl, rfl⟩
set_option maxRecDepth 100000 in
set_option maxHeartbeats 1000000 in
theorem markedPieces_none (w : World) :
    Calls Tryz.prog 71 #[.slice none 0 0] w fun e w' => e = .returned (.bool true) ∧ w = w' := by
  go_enter Tryz.func71, Tryz.ntmps71
  go_wp2_with fail
  go_loopw [3] (fun i wr => i = .int .i64 0 ∧ w = wr) (fun _ _ => 0)
  case atStart => exact ⟨rfl, rfl⟩
  case round =>
    obtain ⟨rfl, rfl⟩ := hrel
    go_wp2_with fail
    go_ret
    exact ⟨rfl, rfl⟩

set_option maxRecDepth 100000 in
set_option maxHeartbeats 1000000 in
theorem stillEntries_none (g : Nat) (w : World) (hc : w.cell? ⟨g, 8, none⟩ = some (.slice none 0 0)) :
    Calls Tryz.prog 48 #[.pointer (some ⟨g, 0, none⟩)] w fun e w' => e = .returned (.bool true) ∧ w = w' := by
  go_enter Tryz.func48, Tryz.ntmps48
  go_wp2_with fail
  go_loopw [3] (fun i wr => i = .int .i64 0 ∧ w = wr) (fun _ _ => 0)
  case atStart => exact ⟨rfl, rfl⟩
  case round =>
    obtain ⟨rfl, rfl⟩ := hrel
    go_wp2_with fail
    go_ret
    exact ⟨rfl, rfl⟩
set_option maxRecDepth 100000 in
set_option maxHeartbeats 1000000 in
theorem putEntries_none (g : Nat) (w : World) (hc : w.cell? ⟨g, 8, none⟩ = some (.slice none 0 0)) :
    Calls Tryz.prog 57 #[.pointer (some ⟨g, 0, none⟩)] w fun e w' => e = .returned (.tuple #[]) ∧ w = w' := by
  go_enter Tryz.func57, Tryz.ntmps57
  go_wp2_with fail
  go_loopw [2] (fun i wr => i = .int .i64 0 ∧ w = wr) (fun _ _ => 0)
  case atStart => exact ⟨rfl, rfl⟩
  case round =>
    obtain ⟨rfl, rfl⟩ := hrel
    go_wp2_with fail
    go_end0
    exact ⟨rfl, rfl⟩
set_option maxRecDepth 100000 in
set_option maxHeartbeats 1000000 in
theorem growEntries_none (g : Nat) (w : World) (hc : w.cell? ⟨g, 8, none⟩ = some (.slice none 0 0)) :
    Calls Tryz.prog 64 #[.pointer (some ⟨g, 0, none⟩)] w fun e w' => e = .returned (.slice none 0 0) ∧ w = w' := by
  go_enter Tryz.func64, Tryz.ntmps64
  go_wp2_with fail
  go_loopw [3, 4] (fun v i wr => v = .slice none 0 0 ∧ i = .int .i64 0 ∧ w = wr) (fun _ _ _ => 0)
  case atStart => exact ⟨rfl, rfl, rfl⟩
  case round =>
    obtain ⟨rfl, rfl, rfl⟩ := hrel
    go_wp2_with fail
    go_ret
    exact ⟨rfl, rfl⟩
set_option maxRecDepth 100000 in
set_option maxHeartbeats 1000000 in
theorem markedEntries_none (w : World) :
    Calls Tryz.prog 72 #[.slice none 0 0] w fun e w' => e = .returned (.bool true) ∧ w = w' := by
  go_enter Tryz.func72, Tryz.ntmps72
  go_wp2_with fail
  go_loopw [3] (fun i wr => i = .int .i64 0 ∧ w = wr) (fun _ _ => 0)
  case atStart => exact ⟨rfl, rfl⟩
  case round =>
    obtain ⟨rfl, rfl⟩ := hrel
    go_wp2_with fail
    go_ret
    exact ⟨rfl, rfl⟩

set_option maxRecDepth 100000 in
set_option maxHeartbeats 1000000 in
theorem stillObjects_none (g : Nat) (w : World) (hc : w.cell? ⟨g, 10, none⟩ = some (.slice none 0 0)) :
    Calls Tryz.prog 49 #[.pointer (some ⟨g, 0, none⟩)] w fun e w' => e = .returned (.bool true) ∧ w = w' := by
  go_enter Tryz.func49, Tryz.ntmps49
  go_wp2_with fail
  go_loopw [3] (fun i wr => i = .int .i64 0 ∧ w = wr) (fun _ _ => 0)
  case atStart => exact ⟨rfl, rfl⟩
  case round =>
    obtain ⟨rfl, rfl⟩ := hrel
    go_wp2_with fail
    go_ret
    exact ⟨rfl, rfl⟩
set_option maxRecDepth 100000 in
set_option maxHeartbeats 1000000 in
theorem putObjects_none (g : Nat) (w : World) (hc : w.cell? ⟨g, 10, none⟩ = some (.slice none 0 0)) :
    Calls Tryz.prog 58 #[.pointer (some ⟨g, 0, none⟩)] w fun e w' => e = .returned (.tuple #[]) ∧ w = w' := by
  go_enter Tryz.func58, Tryz.ntmps58
  go_wp2_with fail
  go_loopw [2] (fun i wr => i = .int .i64 0 ∧ w = wr) (fun _ _ => 0)
  case atStart => exact ⟨rfl, rfl⟩
  case round =>
    obtain ⟨rfl, rfl⟩ := hrel
    go_wp2_with fail
    go_end0
    exact ⟨rfl, rfl⟩
set_option maxRecDepth 100000 in
set_option maxHeartbeats 1000000 in
theorem growObjects_none (g : Nat) (w : World) (hc : w.cell? ⟨g, 10, none⟩ = some (.slice none 0 0)) :
    Calls Tryz.prog 65 #[.pointer (some ⟨g, 0, none⟩)] w fun e w' => e = .returned (.slice none 0 0) ∧ w = w' := by
  go_enter Tryz.func65, Tryz.ntmps65
  go_wp2_with fail
  go_loopw [3, 4] (fun v i wr => v = .slice none 0 0 ∧ i = .int .i64 0 ∧ w = wr) (fun _ _ _ => 0)
  case atStart => exact ⟨rfl, rfl, rfl⟩
  case round =>
    obtain ⟨rfl, rfl, rfl⟩ := hrel
    go_wp2_with fail
    go_ret
    exact ⟨rfl, rfl⟩
set_option maxRecDepth 100000 in
set_option maxHeartbeats 1000000 in
theorem markedObjects_none (w : World) :
    Calls Tryz.prog 73 #[.slice none 0 0] w fun e w' => e = .returned (.bool true) ∧ w = w' := by
  go_enter Tryz.func73, Tryz.ntmps73
  go_wp2_with fail
  go_loopw [3] (fun i wr => i = .int .i64 0 ∧ w = wr) (fun _ _ => 0)
  case atStart => exact ⟨rfl, rfl⟩
  case round =>
    obtain ⟨rfl, rfl⟩ := hrel
    go_wp2_with fail
    go_ret
    exact ⟨rfl, rfl⟩

set_option maxRecDepth 100000 in
set_option maxHeartbeats 1000000 in
theorem stillWrites_none (g : Nat) (w : World) (hc : w.cell? ⟨g, 12, none⟩ = some (.slice none 0 0)) :
    Calls Tryz.prog 50 #[.pointer (some ⟨g, 0, none⟩)] w fun e w' => e = .returned (.bool true) ∧ w = w' := by
  go_enter Tryz.func50, Tryz.ntmps50
  go_wp2_with fail
  go_loopw [3] (fun i wr => i = .int .i64 0 ∧ w = wr) (fun _ _ => 0)
  case atStart => exact ⟨rfl, rfl⟩
  case round =>
    obtain ⟨rfl, rfl⟩ := hrel
    go_wp2_with fail
    go_ret
    exact ⟨rfl, rfl⟩
set_option maxRecDepth 100000 in
set_option maxHeartbeats 1000000 in
theorem putWrites_none (g : Nat) (w : World) (hc : w.cell? ⟨g, 12, none⟩ = some (.slice none 0 0)) :
    Calls Tryz.prog 59 #[.pointer (some ⟨g, 0, none⟩)] w fun e w' => e = .returned (.tuple #[]) ∧ w = w' := by
  go_enter Tryz.func59, Tryz.ntmps59
  go_wp2_with fail
  go_loopw [2] (fun i wr => i = .int .i64 0 ∧ w = wr) (fun _ _ => 0)
  case atStart => exact ⟨rfl, rfl⟩
  case round =>
    obtain ⟨rfl, rfl⟩ := hrel
    go_wp2_with fail
    go_end0
    exact ⟨rfl, rfl⟩
set_option maxRecDepth 100000 in
set_option maxHeartbeats 1000000 in
theorem growWrites_none (g : Nat) (w : World) (hc : w.cell? ⟨g, 12, none⟩ = some (.slice none 0 0)) :
    Calls Tryz.prog 66 #[.pointer (some ⟨g, 0, none⟩)] w fun e w' => e = .returned (.slice none 0 0) ∧ w = w' := by
  go_enter Tryz.func66, Tryz.ntmps66
  go_wp2_with fail
  go_loopw [3, 4] (fun v i wr => v = .slice none 0 0 ∧ i = .int .i64 0 ∧ w = wr) (fun _ _ _ => 0)
  case atStart => exact ⟨rfl, rfl, rfl⟩
  case round =>
    obtain ⟨rfl, rfl, rfl⟩ := hrel
    go_wp2_with fail
    go_ret
    exact ⟨rfl, rfl⟩
set_option maxRecDepth 100000 in
set_option maxHeartbeats 1000000 in
theorem markedWrites_none (w : World) :
    Calls Tryz.prog 74 #[.slice none 0 0] w fun e w' => e = .returned (.bool true) ∧ w = w' := by
  go_enter Tryz.func74, Tryz.ntmps74
  go_wp2_with fail
  go_loopw [3] (fun i wr => i = .int .i64 0 ∧ w = wr) (fun _ _ => 0)
  case atStart => exact ⟨rfl, rfl⟩
  case round =>
    obtain ⟨rfl, rfl⟩ := hrel
    go_wp2_with fail
    go_ret
    exact ⟨rfl, rfl⟩

set_option maxRecDepth 100000 in
set_option maxHeartbeats 1000000 in
theorem stillSteps_none (g : Nat) (w : World) (hc : w.cell? ⟨g, 14, none⟩ = some (.slice none 0 0)) :
    Calls Tryz.prog 51 #[.pointer (some ⟨g, 0, none⟩)] w fun e w' => e = .returned (.bool true) ∧ w = w' := by
  go_enter Tryz.func51, Tryz.ntmps51
  go_wp2_with fail
  go_loopw [3] (fun i wr => i = .int .i64 0 ∧ w = wr) (fun _ _ => 0)
  case atStart => exact ⟨rfl, rfl⟩
  case round =>
    obtain ⟨rfl, rfl⟩ := hrel
    go_wp2_with fail
    go_ret
    exact ⟨rfl, rfl⟩
set_option maxRecDepth 100000 in
set_option maxHeartbeats 1000000 in
theorem putSteps_none (g : Nat) (w : World) (hc : w.cell? ⟨g, 14, none⟩ = some (.slice none 0 0)) :
    Calls Tryz.prog 52 #[.pointer (some ⟨g, 0, none⟩)] w fun e w' => e = .returned (.tuple #[]) ∧ w = w' := by
  go_enter Tryz.func52, Tryz.ntmps52
  go_wp2_with fail
  go_loopw [2] (fun i wr => i = .int .i64 0 ∧ w = wr) (fun _ _ => 0)
  case atStart => exact ⟨rfl, rfl⟩
  case round =>
    obtain ⟨rfl, rfl⟩ := hrel
    go_wp2_with fail
    go_end0
    exact ⟨rfl, rfl⟩
set_option maxRecDepth 100000 in
set_option maxHeartbeats 1000000 in
theorem growSteps_none (g : Nat) (w : World) (hc : w.cell? ⟨g, 14, none⟩ = some (.slice none 0 0)) :
    Calls Tryz.prog 67 #[.pointer (some ⟨g, 0, none⟩)] w fun e w' => e = .returned (.slice none 0 0) ∧ w = w' := by
  go_enter Tryz.func67, Tryz.ntmps67
  go_wp2_with fail
  go_loopw [3, 4] (fun v i wr => v = .slice none 0 0 ∧ i = .int .i64 0 ∧ w = wr) (fun _ _ _ => 0)
  case atStart => exact ⟨rfl, rfl, rfl⟩
  case round =>
    obtain ⟨rfl, rfl, rfl⟩ := hrel
    go_wp2_with fail
    go_ret
    exact ⟨rfl, rfl⟩
set_option maxRecDepth 100000 in
set_option maxHeartbeats 1000000 in
theorem markedSteps_none (w : World) :
    Calls Tryz.prog 75 #[.slice none 0 0] w fun e w' => e = .returned (.bool true) ∧ w = w' := by
  go_enter Tryz.func75, Tryz.ntmps75
  go_wp2_with fail
  go_loopw [3] (fun i wr => i = .int .i64 0 ∧ w = wr) (fun _ _ => 0)
  case atStart => exact ⟨rfl, rfl⟩
  case round =>
    obtain ⟨rfl, rfl⟩ := hrel
    go_wp2_with fail
    go_ret
    exact ⟨rfl, rfl⟩
end Go.Proofs.YtbaanoomilohhaaGreat

namespace Go.Proofs.YtbaanoomilohhaaGreat
open Go.RowKit

/-- The book with lists of numbers alone. -/
def bookI (P Q : Value) : Array Value := #[.slice none 0 0, .slice none 0 0, P, Q, .slice none 0 0, .slice none 0 0, .slice none 0 0, .slice none 0 0, .slice none 0 0, .slice none 0 0, .slice none 0 0, .slice none 0 0, .slice none 0 0, .slice none 0 0, .slice none 0 0, .slice none 0 0]
theorem PutTo.vals {ls zs : List LI} {i j : Nat} (h : PutTo ls zs i j) : zs.map LI.val = ls.map LI.val := by
  apply List.ext_getElem?
  intro a
  rw [List.getElem?_map, List.getElem?_map]
  rcases Nat.lt_or_ge a ls.length with ha | ha
  · have hz : a < zs.length := by rw [h.len]; exact ha
    rw [List.getElem?_eq_getElem ha, List.getElem?_eq_getElem hz]
    obtain ⟨e1, e2, e3⟩ := h.like a zs[a] ls[a] (List.getElem?_eq_getElem hz) (List.getElem?_eq_getElem ha)
    simp only [Option.map_some]
    unfold LI.val
    rw [e1, e2, e3]
  · rw [List.getElem?_eq_none ha, List.getElem?_eq_none (by rw [h.len]; exact ha)]
theorem freeOf_vals {ls zs : List LI} (h : zs.map LI.val = ls.map LI.val) {b : Nat} (hf : FreeOf ls b) : FreeOf zs b := fun l hl => by
  have : l.val ∈ ls.map LI.val := by rw [← h]; exact List.mem_map_of_mem hl
  obtain ⟨l', hl', e⟩ := List.mem_map.1 this
  rw [← e]
  exact hf l' hl'
theorem row_at {w : World} {base n cap : Nat} {p : Option Addr} {vs : List Value} (h : w.ownsRow base 22 1 (.slice p n cap) n vs) : RowAt w p vs := fun hp => by
  have hl := h.1
  obtain ⟨g, c, e, _, hlt⟩ := h.form (by omega)
  injection e with e1 _ e3
  subst e1 e3
  exact ⟨g, 0, rfl, hlt, fun j v hv => by rw [Nat.zero_add]; exact krow_cell h hv⟩
theorem Blk.butKept {w w' : World} {ls : List LI} {B g : Nat} {t : TypeId} {cs : Array Value} (h : Blk w g t cs) (hk : KeptBut ls B w w') (hf : FreeOf ls g) : Blk w' g t cs := (hk.block g h.lt hf).trans h

set_option maxRecDepth 100000 in
set_option maxHeartbeats 8000000 in
theorem kapart_any (g B : Nat) (p q : Option Addr) (k cp cq : Nat) (ls us : List LI) (w : World) (hbk : Blk w g 42 (bookI (.slice p k cp) (.slice q k cq))) (hB : B ≤ w.heap.size)
    (hk : ls.length = k) (hk' : us.length = k) (hp : RowAt w p (ls.map LI.val)) (hq : RowAt w q (us.map LI.val)) (hb : k ≤ 1000) (hr : RowsI w B ls) (hfg : FreeOf ls g) (hfp : ∀ a, p = some a → FreeOf ls a.block) (hn : ∀ l ∈ ls, l.xs.length ≤ 900000)
    (hs : ∀ (i : Nat) (l u : LI), ls[i]? = some l → us[i]? = some u → l.xs = u.xs ∧ Ints w w.heap.size u.A l.xs) :
    Calls Tryz.prog 25 #[.pointer (some ⟨g, 0, none⟩)] w fun e w' => e = .returned (.bool true) ∧ Below B w w' := by
  have hli : ∀ (W : World) (ys : List LI), RowsI W B ys → ∀ (a : Nat) (z : LI), ys[a]? = some z → Ints W W.heap.size z.A z.xs := fun W ys hr a z hz => row_ints (hr.own a z hz)
  have HSTILL : Hid (Calls Tryz.prog 45 #[.pointer (some ⟨g, 0, none⟩)] w fun e w' => e = .returned (.bool true) ∧ Below w.heap.size w w') := Lib.hid (kstill_any g p q k cp cq ls us w hbk.lt (hbk.cell 2) (hbk.cell 3) hk hk' hp hq hb (fun i l u h1 h2 => ⟨(hs i l u h1 h2).1, hli w ls hr i l h1, (hs i l u h1 h2).2, Nat.le_trans (hn l (List.mem_of_getElem? h1)) (by omega)⟩))
  have HC : ∀ (W : World), Blk W g 42 (bookI (.slice p k cp) (.slice q k cq)) → W.cell? ⟨g, 0, none⟩ = some (.slice none 0 0) ∧ W.cell? ⟨g, 4, none⟩ = some (.slice none 0 0) ∧ W.cell? ⟨g, 6, none⟩ = some (.slice none 0 0) ∧ W.cell? ⟨g, 8, none⟩ = some (.slice none 0 0) ∧ W.cell? ⟨g, 10, none⟩ = some (.slice none 0 0) ∧ W.cell? ⟨g, 12, none⟩ = some (.slice none 0 0) ∧ W.cell? ⟨g, 14, none⟩ = some (.slice none 0 0) := fun W h => ⟨h.cell 0, h.cell 4, h.cell 6, h.cell 8, h.cell 10, h.cell 12, h.cell 14⟩
  have HBK := Lib.hid hbk
  have HCC := Lib.hid HC
  have HBS := Lib.hid hB
  have HK := Lib.hid hk
  have HP := Lib.hid hp
  have HR := Lib.hid hr
  have HFG := Lib.hid hfg
  have HFP := Lib.hid hfp
  have HN := Lib.hid hn
  have HLI := Lib.hid hli
  clear hbk hB hk hk' hp hq hr hfg hfp hn hs hli HC
  go_enter Tryz.func25, Tryz.ntmps25
  go_wp2_with fail
  refine (stillTexts_none g _ (HCC.out _ HBK.out).1).mono ?_
  rintro e wz ⟨rfl, rfl⟩
  go_wp2_with fail
  refine HSTILL.out.mono ?_
  rintro e w1 ⟨rfl, hb1⟩
  have HB1 := Lib.hid hb1
  have HK1 := Lib.hid (HBK.out.below hb1 HBK.out.lt)
  clear hb1
  go_wp2_with fail
  refine (stillSpans_none g _ (HCC.out _ HK1.out).2.1).mono ?_
  rintro e wz ⟨rfl, rfl⟩
  go_wp2_with fail
  refine (stillPieces_none g _ (HCC.out _ HK1.out).2.2.1).mono ?_
  rintro e wz ⟨rfl, rfl⟩
  go_wp2_with fail
  refine (stillEntries_none g _ (HCC.out _ HK1.out).2.2.2.1).mono ?_
  rintro e wz ⟨rfl, rfl⟩
  go_wp2_with fail
  refine (stillObjects_none g _ (HCC.out _ HK1.out).2.2.2.2.1).mono ?_
  rintro e wz ⟨rfl, rfl⟩
  go_wp2_with fail
  refine (stillWrites_none g _ (HCC.out _ HK1.out).2.2.2.2.2.1).mono ?_
  rintro e wz ⟨rfl, rfl⟩
  go_wp2_with fail
  refine (stillSteps_none g _ (HCC.out _ HK1.out).2.2.2.2.2.2).mono ?_
  rintro e wz ⟨rfl, rfl⟩
  go_wp2_with fail
  refine (putSteps_none g _ (HCC.out _ HK1.out).2.2.2.2.2.2).mono ?_
  rintro e wz ⟨rfl, rfl⟩
  go_wp2_with fail
  refine (putTexts_none g _ (HCC.out _ HK1.out).1).mono ?_
  rintro e wz ⟨rfl, rfl⟩
  have hput := kput_any g B p k cp ls w1 HK1.out.lt (Nat.le_trans HBS.out HB1.out.size) (HK1.out.cell 2) HK.out (HP.out.below HB1.out) hb (HR.out.below HB1.out) HFG.out HFP.out (fun l hl => Nat.le_trans (HN.out l hl) (by omega))
  have HPUT := Lib.hid hput
  clear hput
  go_wp2_with fail
  refine HPUT.out.mono ?_
  rintro e w2 ⟨rfl, zs, hpt, hrz, hkb⟩
  have HK2 := Lib.hid (Blk.butKept HK1.out hkb HFG.out)
  have HV : Hid (zs.map LI.val = ls.map LI.val) := Lib.hid hpt.vals
  have HPT := Lib.hid hpt
  have HRZ := Lib.hid hrz
  have HB2 : Hid (Below B w w2) := Lib.hid ((HB1.out.mono HBS.out).trans hkb.below)
  have HP2 : Hid (RowAt w2 p (zs.map LI.val)) := Lib.hid (by
    rw [HV.out]
    intro hp0
    obtain ⟨b, off, e, hbl, hc⟩ := (HP.out.below HB1.out) hp0
    exact ⟨b, off, e, Nat.lt_of_lt_of_le hbl hkb.below.size, fun j v hv => (hkb.cell (p := ⟨b, off + j, none⟩) hbl (show FreeOf ls b from HFP.out ⟨b, off, none⟩ e)).trans (hc j v hv)⟩)
  clear hpt hrz hkb HPUT
  go_wp2_with fail
  refine (putSpans_none g _ (HCC.out _ HK2.out).2.1).mono ?_
  rintro e wz ⟨rfl, rfl⟩
  go_wp2_with fail
  refine (putPieces_none g _ (HCC.out _ HK2.out).2.2.1).mono ?_
  rintro e wz ⟨rfl, rfl⟩
  go_wp2_with fail
  refine (putEntries_none g _ (HCC.out _ HK2.out).2.2.2.1).mono ?_
  rintro e wz ⟨rfl, rfl⟩
  go_wp2_with fail
  refine (putObjects_none g _ (HCC.out _ HK2.out).2.2.2.2.1).mono ?_
  rintro e wz ⟨rfl, rfl⟩
  go_wp2_with fail
  refine (putWrites_none g _ (HCC.out _ HK2.out).2.2.2.2.2.1).mono ?_
  rintro e wz ⟨rfl, rfl⟩
  go_wp2_with fail
  refine (growTexts_none g _ (HCC.out _ HK2.out).1).mono ?_
  rintro e wz ⟨rfl, rfl⟩
  have hgrow := kgrow_any g B p k cp zs w2 HK2.out.lt (Nat.le_trans HBS.out HB2.out.size) (HK2.out.cell 2) (by rw [HPT.out.len, HK.out]) HP2.out hb HRZ.out (freeOf_vals HV.out HFG.out) (fun a ha => freeOf_vals HV.out (HFP.out a ha)) (fun z hz => by
    obtain ⟨i, hi⟩ := List.mem_iff_getElem?.1 hz
    have hil : i < ls.length := by
      rw [← HPT.out.len]
      rcases Nat.lt_or_ge i zs.length with h | h
      · exact h
      · rw [List.getElem?_eq_none h] at hi; cases hi
    rw [(HPT.out.like i z _ hi (List.getElem?_eq_getElem hil)).2.2]
    exact HN.out _ (List.getElem_mem hil)) (fun i z hz => HPT.out.done i z hz (by
    rw [← HK.out, ← HPT.out.len]
    rcases Nat.lt_or_ge i zs.length with h | h
    · exact h
    · rw [List.getElem?_eq_none h] at hz; cases hz)) (HLI.out w2 zs HRZ.out)
  have HGROW := Lib.hid hgrow
  clear hgrow
  go_wp2_with fail
  refine HGROW.out.mono ?_
  rintro e w3 ⟨v, gs, rfl, hst, hrow⟩
  obtain ⟨vp, vc, rfl, -, -, -, -⟩ := krow_form hrow
  have HK3 := Lib.hid (Blk.butKept HK2.out hst.kept (freeOf_vals HV.out HFG.out))
  have HB3 : Hid (Below B w w3) := Lib.hid (HB2.out.trans hst.kept.below)
  have HST := Lib.hid hst
  have HMG : Hid (∀ W, Below w3.heap.size w3 W → Calls Tryz.prog 69 #[.slice vp k vc] W fun e w' => e = .returned (.bool true) ∧ Below W.heap.size W w') := Lib.hid (fun W hW => kmarked_any vp k vc gs W hst.len ((row_at hrow).below hW) hb (fun i l hl => by
    obtain ⟨r1, r2, r3, r4⟩ := hst.rows i l hl
    exact ⟨r2, ((row_ints r1).below hW).more hW.size, r3⟩))
  have HMZ : Hid (∀ W, Below w3.heap.size w3 W → Calls Tryz.prog 69 #[.slice p k cp] W fun e w' => e = .returned (.bool true) ∧ Below W.heap.size W w') := Lib.hid (fun W hW => kmarked_any p k cp zs W (by rw [HPT.out.len, HK.out]) (RowAt.below (fun hp0 => by
      obtain ⟨b, off, e, hbl, hc⟩ := HP2.out hp0
      exact ⟨b, off, e, Nat.lt_of_lt_of_le hbl hst.kept.below.size, fun j v hv => (hst.kept.cell (p := ⟨b, off + j, none⟩) hbl (freeOf_vals HV.out (show FreeOf ls b from HFP.out ⟨b, off, none⟩ e))).trans (hc j v hv)⟩) hW) hb (fun i z hz => ⟨HPT.out.done i z hz (by
      rw [← HK.out, ← HPT.out.len]
      rcases Nat.lt_or_ge i zs.length with h | h
      · exact h
      · rw [List.getElem?_eq_none h] at hz; cases hz), ((hst.zints i z hz).below hW).more hW.size, by
      have hil : i < ls.length := by
        rw [← HPT.out.len]
        rcases Nat.lt_or_ge i zs.length with h | h
        · exact h
        · rw [List.getElem?_eq_none h] at hz; cases hz
      rw [(HPT.out.like i z _ hz (List.getElem?_eq_getElem hil)).2.2]
      exact Nat.le_trans (HN.out _ (List.getElem_mem hil)) (by omega)⟩))
  clear hst hrow HGROW
  go_wp2_with fail
  refine (growSpans_none g _ (HCC.out _ HK3.out).2.1).mono ?_
  rintro e wz ⟨rfl, rfl⟩
  go_wp2_with fail
  refine (growPieces_none g _ (HCC.out _ HK3.out).2.2.1).mono ?_
  rintro e wz ⟨rfl, rfl⟩
  go_wp2_with fail
  refine (growEntries_none g _ (HCC.out _ HK3.out).2.2.2.1).mono ?_
  rintro e wz ⟨rfl, rfl⟩
  go_wp2_with fail
  refine (growObjects_none g _ (HCC.out _ HK3.out).2.2.2.2.1).mono ?_
  rintro e wz ⟨rfl, rfl⟩
  go_wp2_with fail
  refine (growWrites_none g _ (HCC.out _ HK3.out).2.2.2.2.2.1).mono ?_
  rintro e wz ⟨rfl, rfl⟩
  go_wp2_with fail
  refine (growSteps_none g _ (HCC.out _ HK3.out).2.2.2.2.2.2).mono ?_
  rintro e wz ⟨rfl, rfl⟩
  obtain ⟨c0, c4, c6, c8, c10, c12, c14⟩ := HCC.out _ HK3.out
  have c2 := HK3.out.cell 2
  simp [bookI] at c2
  go_wp2_with fail
  refine (markedTexts_none _).mono ?_
  rintro e wz ⟨rfl, rfl⟩
  go_wp2_with fail
  refine (markedTexts_none _).mono ?_
  rintro e wz ⟨rfl, rfl⟩
  go_wp2_with fail
  refine (HMG.out _ (Below.refl _ _)).mono ?_
  rintro e w4 ⟨rfl, hb4⟩
  have HB4 := Lib.hid hb4
  have HK4 := Lib.hid (HK3.out.below hb4 HK3.out.lt)
  have d2 := HK4.out.cell 2
  simp [bookI] at d2
  clear hb4 c0 c2 c4 c6 c8 c10 c12 c14
  go_wp2_with fail
  refine (HMZ.out _ HB4.out).mono ?_
  rintro e w5 ⟨rfl, hb5⟩
  have HB5 := Lib.hid (HB4.out.trans (hb5.mono HB4.out.size))
  have HK5 := Lib.hid (HK4.out.below hb5 HK4.out.lt)
  obtain ⟨c0, c4, c6, c8, c10, c12, c14⟩ := HCC.out _ HK5.out
  clear hb5 d2
  go_wp2_with fail
  refine (markedSpans_none _).mono ?_
  rintro e wz ⟨rfl, rfl⟩
  go_wp2_with fail
  refine (markedSpans_none _).mono ?_
  rintro e wz ⟨rfl, rfl⟩
  go_wp2_with fail
  refine (markedPieces_none _).mono ?_
  rintro e wz ⟨rfl, rfl⟩
  go_wp2_with fail
  refine (markedPieces_none _).mono ?_
  rintro e wz ⟨rfl, rfl⟩
  go_wp2_with fail
  refine (markedEntries_none _).mono ?_
  rintro e wz ⟨rfl, rfl⟩
  go_wp2_with fail
  refine (markedEntries_none _).mono ?_
  rintro e wz ⟨rfl, rfl⟩
  go_wp2_with fail
  refine (markedObjects_none _).mono ?_
  rintro e wz ⟨rfl, rfl⟩
  go_wp2_with fail
  refine (markedObjects_none _).mono ?_
  rintro e wz ⟨rfl, rfl⟩
  go_wp2_with fail
  refine (markedWrites_none _).mono ?_
  rintro e wz ⟨rfl, rfl⟩
  go_wp2_with fail
  refine (markedWrites_none _).mono ?_
  rintro e wz ⟨rfl, rfl⟩
  go_wp2_with fail
  refine (markedSteps_none _).mono ?_
  rintro e wz ⟨rfl, rfl⟩
  go_wp2_with fail
  refine (markedSteps_none _).mono ?_
  rintro e wz ⟨rfl, rfl⟩
  go_wp2_with fail
  go_ret
  exact ⟨rfl, HB3.out.trans (HB5.out.mono (Nat.le_trans HBS.out HB3.out.size))⟩
end Go.Proofs.YtbaanoomilohhaaGreat
