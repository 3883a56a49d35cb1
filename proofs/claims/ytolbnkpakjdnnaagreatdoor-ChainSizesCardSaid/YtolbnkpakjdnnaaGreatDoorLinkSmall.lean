/-
  Package chain: fits, Need, follows; a row of links in memory. No statement is proved here.
-/
import Derived.Test.YtolbnkpakjdnnaaGreatDoorLinkPure
import Derived.BigQuiet
import Derived.Deep.QuietTactic
namespace Go.Proofs.YtolbnkpakjdnnaaGreatDoor
open Go.RowKit

set_option maxRecDepth 100000 in
set_option maxHeartbeats 1000000 in
theorem lkfits_any (gen tag : Int) (w : World) : Calls Tryz.prog 57 #[.int .i64 gen, .int .i64 tag] w fun e w' => e = .returned (.bool (fitsC gen tag)) ∧ w' = w := by
  obtain ⟨r, hr⟩ : ∃ r, r = fitsC gen tag := ⟨_, rfl⟩
  rw [← hr]
  have HR := Lib.hid hr
  clear hr
  by_cases a0 : 1 ≤ gen
  rotate_left
  · obtain rfl : r = false := by rw [HR.out]; exact decide_eq_false (by omega)
    have b0 : gen < 1 := by omega
    go_enter Tryz.func57, Tryz.ntmps57
    go_wp2_with fail
    go_ret
    exact ⟨rfl, rfl⟩
  have b0 : ¬ gen < 1 := by omega
  by_cases a1 : gen ≤ 3
  rotate_left
  · obtain rfl : r = false := by rw [HR.out]; exact decide_eq_false (by omega)
    have b1 : 3 < gen := by omega
    go_enter Tryz.func57, Tryz.ntmps57
    go_wp2_with fail
    go_ret
    exact ⟨rfl, rfl⟩
  have b1 : ¬ 3 < gen := by omega
  by_cases a2 : 0 ≤ tag
  rotate_left
  · obtain rfl : r = false := by rw [HR.out]; exact decide_eq_false (by omega)
    have b2 : tag < 0 := by omega
    go_enter Tryz.func57, Tryz.ntmps57
    go_wp2_with fail
    go_ret
    exact ⟨rfl, rfl⟩
  have b2 : ¬ tag < 0 := by omega
  by_cases a3 : tag ≤ 200
  rotate_left
  · obtain rfl : r = false := by rw [HR.out]; exact decide_eq_false (by omega)
    have b3 : 200 < tag := by omega
    go_enter Tryz.func57, Tryz.ntmps57
    go_wp2_with fail
    go_ret
    exact ⟨rfl, rfl⟩
  have b3 : ¬ 200 < tag := by omega
  obtain rfl : r = true := by rw [HR.out]; exact decide_eq_true ⟨a0, a1, a2, a3⟩
  go_enter Tryz.func57, Tryz.ntmps57
  go_wp2_with fail
  go_ret
  exact ⟨rfl, rfl⟩

theorem needN_int {n : Nat} (h0 : 0 < n) (_h : n ≤ 9223372036854775807) : (((n : Int) - 1) / 236 + 1) = (needN n : Int) := by
  unfold needN
  rw [if_neg (by omega)]
  omega
def needI (n : Int) : Int := if n < 0 then 0 else (needN n.toNat : Int)
set_option maxRecDepth 100000 in
set_option maxHeartbeats 1000000 in
theorem lkneed_any (n : Int) (w : World) (hn : n ≤ 9223372036854775807) : Calls Tryz.prog 26 #[.int .i64 n] w fun e w' => e = .returned (.int .i64 (needI n)) ∧ w' = w := by
  by_cases h0 : n < 0
  · have e : needI n = 0 := if_pos h0
    rw [e]
    clear e
    go_enter Tryz.func26, Tryz.ntmps26
    go_wp2_with fail
    go_ret
    exact ⟨rfl, rfl⟩
  · by_cases h1 : n = 0
    · subst h1
      have e : needI 0 = 1 := rfl
      rw [e]
      clear e
      go_enter Tryz.func26, Tryz.ntmps26
      go_wp2_with fail
      go_ret
      exact ⟨rfl, rfl⟩
    · have h2 : (n == 0) = false := by simpa using h1
      have e : needI n = (n - 1) / 236 + 1 := by
        unfold needI
        rw [if_neg h0, ← needN_int (n := n.toNat) (by omega) (by omega), Int.toNat_of_nonneg (by omega)]
      rw [e]
      clear e
      have q1 : IntKind.i64.wrap (n - 1) = n - 1 := by rw [IntKind.wrap_i64]; omega
      have q2 : (n - 1).tdiv 236 = (n - 1) / 236 := by rw [Int.tdiv_eq_ediv_of_nonneg (by omega)]
      have q3 : IntKind.i64.wrap ((n - 1) / 236) = (n - 1) / 236 := by rw [IntKind.wrap_i64]; omega
      have q4 : IntKind.i64.wrap ((n - 1) / 236 + 1) = (n - 1) / 236 + 1 := by rw [IntKind.wrap_i64]; omega
      clear h1
      go_enter Tryz.func26, Tryz.ntmps26
      go_wp2_with fail
      go_ret
      first
        | exact ⟨rfl, rfl⟩
        | exact ⟨by rw [q2, q3, q4], rfl⟩

def flatK (l : List LK) : List Value := l.flatMap LK.vals
theorem LK.vals_len (x : LK) : x.vals.length = 7 := rfl
theorem flatK_len (l : List LK) : (flatK l).length = l.length * 7 := by
  induction l with
  | nil => rfl
  | cons x r ih =>
    show (x.vals ++ flatK r).length = _
    rw [List.length_append, ih, x.vals_len, List.length_cons]
    omega
theorem flatK_snoc (l : List LK) (x : LK) : flatK (l ++ [x]) = flatK l ++ x.vals := by simp [flatK]
theorem flatK_get {l : List LK} {j : Nat} {x : LK} (h : l[j]? = some x) {i : Nat} (hi : i < 7) : (flatK l)[j * 7 + i]? = x.vals[i]? := by
  induction l generalizing j with
  | nil => cases h
  | cons y r ih =>
    have e : flatK (y :: r) = y.vals ++ flatK r := rfl
    rw [e]
    cases j with
    | zero =>
      rw [List.getElem?_cons_zero] at h
      injection h with h
      subst h
      rw [List.getElem?_append_left (by rw [LK.vals_len]; omega), Nat.zero_mul, Nat.zero_add]
    | succ j =>
      rw [List.getElem?_cons_succ] at h
      rw [List.getElem?_append_right (by rw [LK.vals_len]; omega), LK.vals_len, ← ih h]
      congr 1
      omega
theorem LK.vals_one (x : LK) : ∀ u ∈ x.vals, u.oneCell' = true := by
  intro u hu
  simp only [LK.vals, List.mem_cons, List.not_mem_nil, or_false] at hu
  rcases hu with rfl | rfl | rfl | rfl | rfl | rfl | rfl <;> rfl
/-- The cells of a link at an address. -/
structure LinkCells (w : World) (g o : Nat) (x : LK) : Prop where
  c0 : w.cell? ⟨g, o, none⟩ = some (.int .i64 x.gen)
  c1 : w.cell? ⟨g, o + 1, none⟩ = some (.int .i64 x.tag)
  c2 : w.cell? ⟨g, o + 2, none⟩ = some (.int .i64 x.num)
  c3 : w.cell? ⟨g, o + 3, none⟩ = some (.int .i64 x.refs)
  c4 : w.cell? ⟨g, o + 4, none⟩ = some (.int .i64 x.next)
  c5 : w.cell? ⟨g, o + 5, none⟩ = some (.string x.data)
  c6 : w.cell? ⟨g, o + 6, none⟩ = some (.int .i64 x.at_)
theorem links_cells {w : World} {base n c : Nat} {p : Option Addr} {l : List LK} (h : w.ownsRow base 103 7 (.slice p n c) n (flatK l)) (hn : 0 < n) : ∃ g, p = some ⟨g, 0, none⟩ ∧ base ≤ g ∧ g < w.heap.size ∧ ∀ (j : Nat) (x : LK), l[j]? = some x → LinkCells w g (j * 7) x := by
  obtain ⟨g, cap, e1, hb, hlt⟩ := h.form hn
  injection e1 with e1 _ e3
  subst e1 e3
  have f : ∀ (j : Nat) (x : LK), l[j]? = some x → ∀ i u, i < 7 → x.vals[i]? = some u → w.cell? ⟨g, j * 7 + i, none⟩ = some u := fun j x hx i u hi hu => row_cell h ((flatK_get hx hi).trans hu)
  exact ⟨g, rfl, hb, hlt, fun j x hx => ⟨f j x hx 0 _ (by omega) rfl, f j x hx 1 _ (by omega) rfl, f j x hx 2 _ (by omega) rfl, f j x hx 3 _ (by omega) rfl, f j x hx 4 _ (by omega) rfl, f j x hx 5 _ (by omega) rfl, f j x hx 6 _ (by omega) rfl⟩⟩
theorem link_info : (Tryz.prog.info? 103).map (fun i => (i.zero, i.size, i.bytes)) = some (some (.agg #[.int .i64 0, .int .i64 0, .int .i64 0, .int .i64 0, .int .i64 0, .string .empty, .int .i64 0]), 7, 64) := by kernel_rfl
theorem below_drewN {B : Nat} {w w' : World} (h : Below B w w') (d : Nat) : Below B w (w'.drewN d) := ⟨h.os, h.tape, h.output, h.size, h.block⟩
/-- The first link of a row. -/
def FirstAt (w : World) (A : Option Addr) (l : List LK) : Prop := ∀ x, l[0]? = some x → ∃ g, A = some ⟨g, 0, none⟩ ∧ g < w.heap.size ∧ w.cell? ⟨g, 0, none⟩ = some (.int .i64 x.gen) ∧ w.cell? ⟨g, 1, none⟩ = some (.int .i64 x.tag)

set_option maxRecDepth 100000 in
set_option maxHeartbeats 4000000 in
theorem lkfollows_any (x : LK) (A : Option Addr) (n c : Nat) (l : List LK) (w : World) (hl : l.length = n) (hA : FirstAt w A l) (hn : n ≤ 1000) (hs : x.data.size ≤ 100000) :
    Calls Tryz.prog 100 #[x.val, .slice A n c] w fun e w' => e = .returned (.bool (followsC x l)) ∧ Below w.heap.size w w' := by
  obtain ⟨r, hr⟩ : ∃ r, r = followsC x l := ⟨_, rfl⟩
  rw [← hr]
  have HR := Lib.hid hr
  have HL := Lib.hid hl
  have HA := Lib.hid hA
  obtain ⟨gen, tag, num, refs, next, B, at_⟩ := x
  show Calls Tryz.prog 100 #[.agg #[.int .i64 gen, .int .i64 tag, .int .i64 num, .int .i64 refs, .int .i64 next, .string B, .int .i64 at_], .slice A n c] w _
  obtain ⟨sz, hsz⟩ : ∃ sz, sz = B.size := ⟨_, rfl⟩
  have HSZ := Lib.hid hsz
  have hsB : (B.size : Int) = (sz : Int) := by rw [hsz]
  have hszI : (sz : Int) ≤ 100000 := by rw [hsz]; simp only at hs; omega
  have hnI : (n : Int) ≤ 1000 := by omega
  clear hr hl hA hs hsz hn
  have HB : Hid (Below w.heap.size w (w.alloc (.cells #[.int .i64 gen, .int .i64 tag, .int .i64 num, .int .i64 refs, .int .i64 next, .string B, .int .i64 at_] 103))) := Lib.hid ((Below.refl _ _).alloc (Nat.le_refl _) _)
  by_cases a0 : num = (n : Int)
  rotate_left
  · obtain rfl : r = false := by rw [HR.out]; unfold followsC; rw [if_pos (.inl (by rw [HL.out]; exact a0))]
    have z0 : (num == (n : Int)) = false := by simpa using a0
    have z0' : (num != (n : Int)) = true := by simpa using a0
    clear a0
    go_enter Tryz.func100, Tryz.ntmps100
    go_wp2_with fail
    go_ret
    exact ⟨rfl, HB.out⟩
  subst a0
  by_cases a1 : next ≠ 0 ∧ sz ≠ 236
  · obtain rfl : r = false := by rw [HR.out]; unfold followsC; rw [if_pos (.inr ⟨a1.1, by show B.size ≠ 236; rw [← HSZ.out]; exact a1.2⟩)]
    have z1 : (next == 0) = false := by simpa using a1.1
    have z1' : (next != 0) = true := by simpa using a1.1
    have z2' : ((sz : Int) != 236) = true := by have := a1.2; simp; omega
    have z2 : ((sz : Int) == 236) = false := by have := a1.2; simp; omega
    have z3 : ¬ (sz : Int) = 236 := by have := a1.2; omega
    clear a1
    go_enter Tryz.func100, Tryz.ntmps100
    go_wp2_with fail
    go_ret
    exact ⟨rfl, HB.out⟩
  have HF : Hid (followsC ⟨gen, tag, n, refs, next, B, at_⟩ l = agreeC ⟨gen, tag, n, refs, next, B, at_⟩ l) := Lib.hid (by
    unfold followsC
    rw [if_neg]
    · rintro (h | h)
      · exact h (by rw [HL.out])
      · exact a1 ⟨h.1, by rw [HSZ.out]; exact h.2⟩)
  have a1' : next = 0 ∨ (next ≠ 0 ∧ sz = 236) := by omega
  have HN1 := Lib.hid a1'
  clear a1
  have hfull : (((sz : Int) == 236) = true ∧ (next == 0) = false ∧ (next != 0) = true) ∨ next = 0 := by
    rcases a1' with h | ⟨h1, h2⟩
    · exact .inr h
    · exact .inl ⟨by rw [h2]; rfl, by simpa using h1, by simpa using h1⟩
  clear a1' HN1
  rcases hfull with ⟨z2, z1, z1'⟩ | rfl
  · have z3 : (sz : Int) = 236 := by simpa using z2
    obtain rfl : sz = 236 := by omega
    cases l with
    | nil =>
      obtain rfl : r = true := by rw [HR.out, HF.out]; rfl
      obtain rfl : n = 0 := HL.out.symm
      go_enter Tryz.func100, Tryz.ntmps100
      go_wp2_with fail
      go_ret
      exact ⟨rfl, (Below.refl _ _).alloc (Nat.le_refl _) _⟩
    | cons a l =>
      obtain ⟨g, rfl, hglt, k0, k1⟩ := HA.out a rfl
      have hnp : 0 < (n : Int) := by have := HL.out; simp at this; omega
      have hnz : ((n : Int) == 0) = false := by simp; omega
      have hnz' : ¬ n = 0 := by omega
      have HG := Lib.hid hglt
      obtain ⟨ag, hag⟩ : ∃ ag, ag = a.gen := ⟨_, rfl⟩
      obtain ⟨at2, hat2⟩ : ∃ at2, at2 = a.tag := ⟨_, rfl⟩
      rw [← hag] at k0
      rw [← hat2] at k1
      have HAG := Lib.hid (And.intro hag hat2)
      clear hag hat2
      have q0 := (World.cell?_alloc_lt w (.cells #[.int .i64 gen, .int .i64 tag, .int .i64 n, .int .i64 refs, .int .i64 next, .string B, .int .i64 at_] 103) ⟨g, 0, none⟩ hglt).trans k0
      have q1 := (World.cell?_alloc_lt w (.cells #[.int .i64 gen, .int .i64 tag, .int .i64 n, .int .i64 refs, .int .i64 next, .string B, .int .i64 at_] 103) ⟨g, 1, none⟩ hglt).trans k1
      clear k0 k1 hglt
      by_cases s0 : gen = ag
      rotate_left
      · obtain rfl : r = false := by rw [HR.out, HF.out]; show decide (gen = a.gen ∧ tag = a.tag ∧ refs = 0 ∧ B ≠ .empty) = _; rw [← HAG.out.1, ← HAG.out.2]; exact decide_eq_false (fun h => s0 h.1)
        have y0 : (gen == ag) = false := by simpa using s0
        clear s0
        go_enter Tryz.func100, Tryz.ntmps100
        go_wp2_with fail
        go_quiet (fail)
        go_wp2_with fail
        go_ret
        exact ⟨rfl, below_drewN HB.out _⟩
      have y0 : (gen == ag) = true := by simpa using s0
      have HS0 := Lib.hid s0
      clear s0
      by_cases s1 : tag = at2
      rotate_left
      · obtain rfl : r = false := by rw [HR.out, HF.out]; show decide (gen = a.gen ∧ tag = a.tag ∧ refs = 0 ∧ B ≠ .empty) = _; rw [← HAG.out.1, ← HAG.out.2]; exact decide_eq_false (fun h => s1 h.2.1)
        have y1 : (tag == at2) = false := by simpa using s1
        clear s1
        go_enter Tryz.func100, Tryz.ntmps100
        go_wp2_with fail
        go_quiet (fail)
        go_wp2_with fail
        go_ret
        exact ⟨rfl, below_drewN HB.out _⟩
      have y1 : (tag == at2) = true := by simpa using s1
      have HS1 := Lib.hid s1
      clear s1
      by_cases s2 : refs = 0
      rotate_left
      · obtain rfl : r = false := by rw [HR.out, HF.out]; show decide (gen = a.gen ∧ tag = a.tag ∧ refs = 0 ∧ B ≠ .empty) = _; rw [← HAG.out.1, ← HAG.out.2]; exact decide_eq_false (fun h => s2 h.2.2.1)
        have y2 : (refs == 0) = false := by simpa using s2
        clear s2
        go_enter Tryz.func100, Tryz.ntmps100
        go_wp2_with fail
        go_quiet (fail)
        go_wp2_with fail
        go_ret
        exact ⟨rfl, below_drewN HB.out _⟩
      have y2 : (refs == 0) = true := by simpa using s2
      have HS2 := Lib.hid s2
      clear s2
      by_cases s3 : B ≠ .empty
      rotate_left
      · obtain rfl : r = false := by rw [HR.out, HF.out]; show decide (gen = a.gen ∧ tag = a.tag ∧ refs = 0 ∧ B ≠ .empty) = _; rw [← HAG.out.1, ← HAG.out.2]; exact decide_eq_false (fun h => s3 h.2.2.2)
        have y3 : B.toList.isEmpty = true := by obtain rfl : B = .empty := Classical.byContradiction s3; rw [Lib.toList_data]; rfl
        clear s3
        go_enter Tryz.func100, Tryz.ntmps100
        go_wp2_with fail
        go_quiet (fail)
        go_wp2_with fail
        go_ret
        exact ⟨rfl, below_drewN HB.out _⟩
      have y3 : B.toList.isEmpty = false := by
        rw [Lib.toList_data]
        cases hb : B.data.toList with
        | nil => exact absurd (ByteArray.ext (Array.toList_inj.1 hb)) s3
        | cons => rfl
      have HS3 := Lib.hid s3
      clear s3
      obtain rfl : r = true := by rw [HR.out, HF.out]; show decide (gen = a.gen ∧ tag = a.tag ∧ refs = 0 ∧ B ≠ .empty) = _; rw [← HAG.out.1, ← HAG.out.2]; exact decide_eq_true ⟨HS0.out, HS1.out, HS2.out, HS3.out⟩
      go_enter Tryz.func100, Tryz.ntmps100
      go_wp2_with fail
      go_quiet (fail)
      go_wp2_with fail
      go_ret
      exact ⟨rfl, below_drewN HB.out _⟩
  · cases l with
    | nil =>
      obtain rfl : r = true := by rw [HR.out, HF.out]; rfl
      obtain rfl : n = 0 := HL.out.symm
      go_enter Tryz.func100, Tryz.ntmps100
      go_wp2_with fail
      go_ret
      exact ⟨rfl, (Below.refl _ _).alloc (Nat.le_refl _) _⟩
    | cons a l =>
      obtain ⟨g, rfl, hglt, k0, k1⟩ := HA.out a rfl
      have hnp : 0 < (n : Int) := by have := HL.out; simp at this; omega
      have hnz : ((n : Int) == 0) = false := by simp; omega
      have hnz' : ¬ n = 0 := by omega
      have HG := Lib.hid hglt
      obtain ⟨ag, hag⟩ : ∃ ag, ag = a.gen := ⟨_, rfl⟩
      obtain ⟨at2, hat2⟩ : ∃ at2, at2 = a.tag := ⟨_, rfl⟩
      rw [← hag] at k0
      rw [← hat2] at k1
      have HAG := Lib.hid (And.intro hag hat2)
      clear hag hat2
      have q0 := (World.cell?_alloc_lt w (.cells #[.int .i64 gen, .int .i64 tag, .int .i64 n, .int .i64 refs, .int .i64 0, .string B, .int .i64 at_] 103) ⟨g, 0, none⟩ hglt).trans k0
      have q1 := (World.cell?_alloc_lt w (.cells #[.int .i64 gen, .int .i64 tag, .int .i64 n, .int .i64 refs, .int .i64 0, .string B, .int .i64 at_] 103) ⟨g, 1, none⟩ hglt).trans k1
      clear k0 k1 hglt
      by_cases s0 : gen = ag
      rotate_left
      · obtain rfl : r = false := by rw [HR.out, HF.out]; show decide (gen = a.gen ∧ tag = a.tag ∧ refs = 0 ∧ B ≠ .empty) = _; rw [← HAG.out.1, ← HAG.out.2]; exact decide_eq_false (fun h => s0 h.1)
        have y0 : (gen == ag) = false := by simpa using s0
        clear s0
        go_enter Tryz.func100, Tryz.ntmps100
        go_wp2_with fail
        go_quiet (fail)
        go_wp2_with fail
        go_ret
        exact ⟨rfl, below_drewN HB.out _⟩
      have y0 : (gen == ag) = true := by simpa using s0
      have HS0 := Lib.hid s0
      clear s0
      by_cases s1 : tag = at2
      rotate_left
      · obtain rfl : r = false := by rw [HR.out, HF.out]; show decide (gen = a.gen ∧ tag = a.tag ∧ refs = 0 ∧ B ≠ .empty) = _; rw [← HAG.out.1, ← HAG.out.2]; exact decide_eq_false (fun h => s1 h.2.1)
        have y1 : (tag == at2) = false := by simpa using s1
        clear s1
        go_enter Tryz.func100, Tryz.ntmps100
        go_wp2_with fail
        go_quiet (fail)
        go_wp2_with fail
        go_ret
        exact ⟨rfl, below_drewN HB.out _⟩
      have y1 : (tag == at2) = true := by simpa using s1
      have HS1 := Lib.hid s1
      clear s1
      by_cases s2 : refs = 0
      rotate_left
      · obtain rfl : r = false := by rw [HR.out, HF.out]; show decide (gen = a.gen ∧ tag = a.tag ∧ refs = 0 ∧ B ≠ .empty) = _; rw [← HAG.out.1, ← HAG.out.2]; exact decide_eq_false (fun h => s2 h.2.2.1)
        have y2 : (refs == 0) = false := by simpa using s2
        clear s2
        go_enter Tryz.func100, Tryz.ntmps100
        go_wp2_with fail
        go_quiet (fail)
        go_wp2_with fail
        go_ret
        exact ⟨rfl, below_drewN HB.out _⟩
      have y2 : (refs == 0) = true := by simpa using s2
      have HS2 := Lib.hid s2
      clear s2
      by_cases s3 : B ≠ .empty
      rotate_left
      · obtain rfl : r = false := by rw [HR.out, HF.out]; show decide (gen = a.gen ∧ tag = a.tag ∧ refs = 0 ∧ B ≠ .empty) = _; rw [← HAG.out.1, ← HAG.out.2]; exact decide_eq_false (fun h => s3 h.2.2.2)
        have y3 : B.toList.isEmpty = true := by obtain rfl : B = .empty := Classical.byContradiction s3; rw [Lib.toList_data]; rfl
        clear s3
        go_enter Tryz.func100, Tryz.ntmps100
        go_wp2_with fail
        go_quiet (fail)
        go_wp2_with fail
        go_ret
        exact ⟨rfl, below_drewN HB.out _⟩
      have y3 : B.toList.isEmpty = false := by
        rw [Lib.toList_data]
        cases hb : B.data.toList with
        | nil => exact absurd (ByteArray.ext (Array.toList_inj.1 hb)) s3
        | cons => rfl
      have HS3 := Lib.hid s3
      clear s3
      obtain rfl : r = true := by rw [HR.out, HF.out]; show decide (gen = a.gen ∧ tag = a.tag ∧ refs = 0 ∧ B ≠ .empty) = _; rw [← HAG.out.1, ← HAG.out.2]; exact decide_eq_true ⟨HS0.out, HS1.out, HS2.out, HS3.out⟩
      go_enter Tryz.func100, Tryz.ntmps100
      go_wp2_with fail
      go_quiet (fail)
      go_wp2_with fail
      go_ret
      exact ⟨rfl, below_drewN HB.out _⟩
end Go.Proofs.YtolbnkpakjdnnaaGreatDoor
