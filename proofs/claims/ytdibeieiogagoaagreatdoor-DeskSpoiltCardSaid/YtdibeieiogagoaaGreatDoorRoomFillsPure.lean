/-
  Sectors taken one by one, given back, taken again: plain. No statement is proved here.
-/
import Derived.Test.YtdibeieiogagoaaGreatDoorRoomMake
namespace Go.Proofs.YtdibeieiogagoaaGreatDoor
open Go.RowKit

set_option maxRecDepth 100000 in
set_option maxHeartbeats 2000000 in
theorem ramong_any (x : Int) (A : Option Addr) (c n : Nat) (l : List Int) (w : World) (hn : l.length = n) (hx : Ints w w.heap.size A l) (hb : n ≤ 1000000) :
    Calls Tryz.prog 14 #[.slice A n c, .int .i64 x] w fun e w' => e = .returned (.bool (decide (x ∈ l))) ∧ w' = w := by
  have HX := Lib.hid hx
  have HM := Lib.hid hn
  clear hx hn
  go_enter Tryz.func14, Tryz.ntmps14
  go_wp2_with fail
  go_loopw [5] (fun i wr => ∃ (j : Nat), j ≤ n ∧ i = .int .i64 j ∧ x ∉ l.take j ∧ wr = w) (fun i _ => n - (intOf i).toNat)
  case atStart => exact ⟨0, Nat.zero_le _, rfl, by simp, rfl⟩
  case round =>
    obtain ⟨j, hj, rfl, hno, rfl⟩ := hrel
    have HNO := Lib.hid hno
    clear hno
    by_cases hlt : j < n
    · have hjl : j < l.length := by rw [HM.out]; exact hlt
      obtain ⟨b, off, hA, hbB, hc⟩ := HX.out (by omega)
      obtain ⟨y, hy⟩ : ∃ y, y = l[j] := ⟨_, rfl⟩
      have hyj : l[j]? = some y := by rw [hy]; exact List.getElem?_eq_getElem hjl
      have E2 : Hid (l.take (j + 1) = l.take j ++ [y]) := Lib.hid (by rw [List.take_add_one, hyj]; rfl)
      have HYM := Lib.hid (List.mem_of_getElem? hyj)
      have d0 := hc j y hyj
      subst hA
      have hjI : (j : Int) < (n : Int) := by omega
      clear hy hyj hc hjl
      by_cases hxy : y = x
      · subst hxy
        go_wp2_with fail
        go_ret
        exact ⟨by rw [decide_eq_true HYM.out]; rfl, rfl⟩
      · have HNE := Lib.hid hxy
        go_wp2_with fail
        go_roundw
        case rel =>
          refine ⟨j + 1, by omega, by go_num, fun h => ?_, by first | rfl | trivial⟩
          rw [E2.out] at h
          rcases List.mem_append.1 h with h | h
          · exact HNO.out h
          · exact HNE.out (List.mem_singleton.1 h).symm
        case measure => simp [intOf]; omega
    · obtain rfl : j = n := by omega
      have htk : l.take j = l := List.take_of_length_le (by rw [HM.out]; exact Nat.le_refl _)
      rw [htk] at HNO
      clear htk
      go_wp2_with fail
      go_ret
      exact ⟨by rw [decide_eq_false HNO.out]; rfl, rfl⟩

set_option maxRecDepth 100000 in
set_option maxHeartbeats 2000000 in
theorem rdrop_any (x : Int) (A : Option Addr) (c n : Nat) (l : List Int) (w : World) (hn : l.length = n) (hx : Ints w w.heap.size A l) (hb : n ≤ 1000000) :
    Calls Tryz.prog 18 #[.slice A n c, .int .i64 x] w fun e w' => ∃ A' c', e = .returned (.slice A' (dropL x l).length c') ∧ w'.ownsRow w.heap.size 3 1 (.slice A' (dropL x l).length c') (dropL x l).length ((dropL x l).map (Value.int .i64)) ∧ Below w.heap.size w w' := by
  obtain ⟨i0, hi, hz0, hz1, hz2⟩ := info_parts hints_info
  have HX := Lib.hid hx
  have HM := Lib.hid hn
  clear hx hn
  go_enter Tryz.func18, Tryz.ntmps18
  go_wp2_with fail
  go_loopw [5, 6] (fun v i wr => ∃ (j : Nat) (xs : List Int), j ≤ n ∧ i = .int .i64 j ∧ xs = dropL x (l.take j) ∧ xs.length ≤ j ∧ wr.ownsRow w.heap.size 3 1 v xs.length (xs.map (Value.int .i64)) ∧ Below w.heap.size w wr) (fun _ i _ => n - (intOf i).toNat)
  case atStart => exact ⟨0, [], Nat.zero_le _, rfl, rfl, Nat.le_refl _, World.ownsRow_nil _ _ _ _, Below.refl _ _⟩
  case round =>
    obtain ⟨j, xs, hj, rfl, hxs, hxl, hrow, hbr⟩ := hrel
    have HXS := Lib.hid hxs
    have HRW := Lib.hid hrow
    have HBR := Lib.hid hbr
    clear hxs hrow hbr
    by_cases hlt : j < n
    · have hjl : j < l.length := by rw [HM.out]; exact hlt
      obtain ⟨b, off, hA, hbB, hc⟩ := HX.out (by omega)
      obtain ⟨y, hy⟩ : ∃ y, y = l[j] := ⟨_, rfl⟩
      have hyj : l[j]? = some y := by rw [hy]; exact List.getElem?_eq_getElem hjl
      have E2 : Hid (dropL x (l.take (j + 1)) = if y ≠ x then xs ++ [y] else xs) := Lib.hid (by
        rw [List.take_add_one, hyj]
        unfold dropL
        rw [List.filter_append, HXS.out]
        by_cases e : y = x
        · rw [if_neg (by simp [e])]
          simp [e, dropL]
        · rw [if_pos e]
          simp [e, dropL])
      have d0 : wr.cell? ⟨b, off + j, none⟩ = some (.int .i64 y) := (HBR.out.cell (p := ⟨b, off + j, none⟩) hbB).trans (hc j y hyj)
      subst hA
      have hjI : (j : Int) < (n : Int) := by omega
      clear hy hyj hc hjl
      by_cases hxy : y = x
      · rw [if_neg (by simp [hxy])] at E2
        subst hxy
        go_wp2_with fail
        go_roundw
        case rel => exact ⟨j + 1, xs, by omega, by go_num, E2.out.symm, by omega, HRW.out, HBR.out⟩
        case measure => simp [intOf]; omega
      · rw [if_pos hxy] at E2
        go_wp2_with (at_builtin; refine wpList_append_lies _ rfl (.tmp 19) (.tmp 24) 39 rfl w.heap.size 3 i0 (.int .i64 0) 1 8 Tryz.underlying39 hi hz0 hz1 hz2 rfl (by omega) _ xs.length _ rfl (HRW.out.alloc _) ⟨wr.heap.size, 0, none⟩ 1 1 [.int .i64 y] rfl rfl ?c1 ?c2 (by omega) (by unfold maxLen; omega) (by omega) (by have := HBR.out.size; simp; omega) _ rfl ?_)
        case c1 =>
          intro a u ha
          match a, ha with
          | 0, ha => simp at ha; subst ha; simp [Addr.add]
        case c2 => intro u hu; simp at hu; subst hu; rfl
        intro g2 cap w3 hown hg hor hlt1
        have HB3 : Hid (Below w.heap.size w w3) := Lib.hid ((HBR.out.alloc HBR.out.size _).grown hg (by have := HBR.out.size; simp; omega) (fun q e => (HRW.out.lt q e).1))
        have HR3 : Hid (w3.ownsRow w.heap.size 3 1 (.slice (some ⟨g2, 0, none⟩) (xs.length + 1) cap) (xs.length + 1) ((xs ++ [y]).map (Value.int .i64))) := Lib.hid (by rw [List.map_append]; exact hown)
        clear hown hg hor hlt1
        go_wp2_with fail
        go_roundw
        case rel =>
          refine ⟨j + 1, xs ++ [y], by omega, by go_num, E2.out.symm, by simp; omega, ?_, HB3.out⟩
          rw [List.length_append]
          exact HR3.out
        case measure => simp [intOf]; omega
    · obtain rfl : j = n := by omega
      have htk : l.take j = l := List.take_of_length_le (by rw [HM.out]; exact Nat.le_refl _)
      rw [htk] at HXS
      obtain rfl : xs = dropL x l := HXS.out
      obtain ⟨p, cap, rfl⟩ : ∃ p cap, u5 = .slice p (dropL x l).length cap := by
        obtain ⟨p, cap, e, _⟩ := row_slice' HRW.out
        exact ⟨p, cap, e⟩
      clear htk
      go_wp2_with fail
      go_ret
      exact ⟨_, _, rfl, HRW.out, HBR.out⟩
end Go.Proofs.YtdibeieiogagoaaGreatDoor

namespace Go.Proofs.YtdibeieiogagoaaGreatDoor
open Go.RowKit

theorem Ints.two {w : World} {b : Nat} {k m : Int} (h : Blk w b 3 #[.int .i64 k, .int .i64 m]) : Ints w w.heap.size (some ⟨b, 0, none⟩) [k, m] := ints_blk2 h
theorem put02 : putEach [0, 2] = [0, 2] := by decide
theorem put1 : putL 1 [0, 2] = [0, 1, 2] := by decide
theorem put3 : putL 3 [0, 1, 2] = [0, 1, 2, 3] := by decide
theorem least1 : Least [0, 2] 1 := ⟨fun i hi => by obtain rfl : i = 0 := by omega
                                                   decide, by decide⟩
theorem least3 : Least [0, 1, 2] 3 := ⟨fun i hi => by
  rcases (show i = 0 ∨ i = 1 ∨ i = 2 by omega) with rfl | rfl | rfl <;> decide, by decide⟩
end Go.Proofs.YtdibeieiogagoaaGreatDoor

namespace Go.Proofs.YtdibeieiogagoaaGreatDoor

theorem putEach_spec (l : List Int) : (putEach l).Pairwise (· < ·) ∧ ∀ z, z ∈ putEach l ↔ z ∈ l := by
  obtain ⟨h1, h2⟩ := putAll_spec l [] List.Pairwise.nil
  exact ⟨h1, fun z => by rw [show putEach l = l.foldl (fun a x => putL x a) [] from rfl, h2 z]; simp⟩
theorem putEach_rise {l : List Int} (h : l.Pairwise (· < ·)) : putEach l = l := strict_ext _ _ (putEach_spec l).1 h (putEach_spec l).2
theorem putL_length (x : Int) : ∀ l : List Int, x ∉ l → (putL x l).length = l.length + 1
  | [], _ => rfl
  | y :: r, h => by
    have h1 : x ≠ y := fun e => h (by simp [e])
    have h2 : x ∉ r := fun e => h (by simp [e])
    unfold putL
    split
    · rw [List.length_cons, putL_length x r h2, List.length_cons]
    · rw [if_neg (fun e => h1 e.symm)]
      simp
theorem putL_le (x : Int) : ∀ l : List Int, (putL x l).length ≤ l.length + 1
  | [] => by simp [putL]
  | y :: r => by
    unfold putL
    split
    · rw [List.length_cons, List.length_cons]; have := putL_le x r; omega
    · split <;> simp
theorem putEach_le (l : List Int) : (putEach l).length ≤ l.length := by
  have : ∀ (l acc : List Int), (l.foldl (fun a x => putL x a) acc).length ≤ acc.length + l.length := by
    intro l
    induction l with
    | nil => intro acc; simp
    | cons x r ih => intro acc; have h1 := ih (putL x acc); have h2 := putL_le x acc; rw [List.foldl_cons, List.length_cons]; omega
  have := this l []
  unfold putEach
  simpa using this
/-- All sectors are in use. -/
theorem all_used {n : Nat} {H : List Int} (ho : HOk n H) (hl : H.length = n) : ∀ t : Nat, t < n → (t : Int) ∈ H := by
  have := congrArg List.length (all_list ho)
  rw [List.length_map, hl] at this
  have h2 : ((List.range n).filter (inP H)).length = (List.range n).length := by rw [this, List.length_range]
  intro t ht
  have h3 := List.length_filter_eq_length_iff.1 h2 t (List.mem_range.2 ht)
  exact (inP_iff _ _).1 h3
theorem least_full {n : Nat} {H : List Int} (ho : HOk n H) (hl : H.length = n) : Least H n :=
  ⟨all_used ho hl, fun hm => by have := ho.range _ hm; omega⟩
theorem least_lt {n : Nat} {H : List Int} {k : Nat} (ho : HOk n H) (hk : Least H k) (hl : H.length < n) : k < n := by
  have h1 := hk.le ho
  rcases Nat.lt_or_ge k n with h | h
  · exact h
  · obtain rfl : k = n := by omega
    have e : (List.range k).filter (inP H) = List.range k := by
      rw [List.filter_eq_self]
      intro t ht
      exact (inP_iff _ _).2 (hk.all t (List.mem_range.1 ht))
    have := congrArg List.length (all_list ho)
    rw [List.length_map, e, List.length_range] at this
    omega

/-- While they are taken: those of old are in use, and all up to the last one. -/
structure Taking (n : Nat) (old : List Int) (i : Nat) (last : Int) (H : List Int) : Prop where
  ok : HOk n H
  len : H.length = old.length + i
  old : ∀ x ∈ old, x ∈ H
  up : ∀ t : Nat, (t : Int) ≤ last → (t : Int) ∈ H
  low : -1 ≤ last
theorem Taking.start {n : Nat} {old : List Int} (ho : HOk n old) : Taking n old 0 (-1) old := ⟨ho, rfl, fun _ h => h, fun t ht => by omega, by omega⟩
theorem Taking.next {n : Nat} {old : List Int} {i : Nat} {last : Int} {H : List Int} {k : Nat} (h : Taking n old i last H) (hk : Least H k) (hi : old.length + i < n) :
    k < n ∧ last < (k : Int) ∧ (k : Int) ∉ old ∧ Taking n old (i + 1) (k : Int) (putL (k : Int) H) := by
  have hlt := least_lt h.ok hk (by rw [h.len]; exact hi)
  refine ⟨hlt, ?_, fun hm => hk.not (h.old _ hm), h.ok.put (by omega) (by omega), by rw [putL_length _ _ hk.not, h.len]; omega, fun x hx => (putL_mem _ _ _).2 (.inr (h.old x hx)), fun t ht => ?_, by omega⟩
  · rcases Int.lt_or_le last (k : Int) with h' | h'
    · exact h'
    · exact absurd (h.up k h') hk.not
  · rcases Nat.lt_or_ge t k with h' | h'
    · exact (putL_mem _ _ _).2 (.inr (hk.all t h'))
    · exact (putL_mem _ _ _).2 (.inl (by omega))

theorem rise_nodup {l : List Int} (h : l.Pairwise (· < ·)) : l.Nodup := h.imp (fun hab e => by omega)
theorem dropL_length {x : Int} : ∀ {H : List Int}, H.Pairwise (· < ·) → x ∈ H → (dropL x H).length + 1 = H.length
  | [], _, hm => by cases hm
  | y :: r, h, hm => by
    rw [List.pairwise_cons] at h
    unfold dropL
    rw [List.filter_cons]
    by_cases e : y = x
    · subst e
      have hn : y ∉ r := fun hy => by have := h.1 y hy; omega
      have := dropL_not hn
      unfold dropL at this
      rw [if_neg (by simp), this, List.length_cons]
    · rw [if_pos (by simpa using e)]
      have hm' : x ∈ r := by
        rcases List.mem_cons.1 hm with h' | h'
        · exact absurd h'.symm e
        · exact h'
      have := dropL_length h.2 hm'
      unfold dropL at this
      rw [List.length_cons, List.length_cons]
      omega
/-- Given back, all of them in use: all but those are left. -/
theorem giveL_all {n : Nat} (l : List Int) : ∀ (H : List Int) (c : Nat), HOk n H → l.Pairwise (· < ·) → (∀ x ∈ l, x ∈ H) →
    (l.foldl giveS (H, c)).2 = c + l.length ∧ (l.foldl giveS (H, c)).1.length + l.length = H.length ∧ ∀ x, x ∈ (l.foldl giveS (H, c)).1 ↔ x ∈ H ∧ x ∉ l := by
  induction l with
  | nil => intro H c _ _ _; exact ⟨by simp, by simp, fun x => by simp⟩
  | cons y r ih =>
    intro H c ho hr hin
    rw [List.pairwise_cons] at hr
    have hy : y ∈ H := hin y (by simp)
    have hg : giveS (H, c) y = (dropL y H, c + 1) := by unfold giveS; rw [if_pos hy]
    have hd := dropL_length ho.rise hy
    obtain ⟨h1, h2, h3⟩ := ih (dropL y H) (c + 1) (ho.drop y) hr.2 (fun x hx => (dropL_mem _ _ _).2 ⟨hin x (by simp [hx]), fun e => by have := hr.1 x hx; omega⟩)
    rw [List.foldl_cons, hg]
    refine ⟨by rw [h1, List.length_cons]; omega, by rw [List.length_cons]; omega, fun x => ?_⟩
    rw [h3 x, dropL_mem, List.mem_cons]
    constructor
    · rintro ⟨⟨a, b⟩, c⟩
      exact ⟨a, fun h => h.elim b c⟩
    · rintro ⟨a, b⟩
      exact ⟨⟨a, fun h => b (.inl h)⟩, fun h => b (.inr h)⟩
/-- While those that were given back are taken again. -/
structure Back (n : Nat) (l : List Int) (i : Nat) (H : List Int) : Prop where
  ok : HOk n H
  mem : ∀ x, x ∈ H ↔ (0 ≤ x ∧ x < (n : Int)) ∧ x ∉ l.drop i
theorem Back.next {n : Nat} {l : List Int} {i : Nat} {H : List Int} {y : Int} (h : Back n l i H) (hl : l.Pairwise (· < ·)) (hr : ∀ x ∈ l, 0 ≤ x ∧ x < (n : Int)) (hy : l[i]? = some y) :
    ∃ k : Nat, y = (k : Int) ∧ k < n ∧ Least H k ∧ Back n l (i + 1) (putL (k : Int) H) := by
  obtain ⟨y0, y1⟩ := hr y (List.mem_of_getElem? hy)
  obtain ⟨k, rfl⟩ := Int.eq_ofNat_of_zero_le y0
  have hil : i < l.length := by
    rcases Nat.lt_or_ge i l.length with h' | h'
    · exact h'
    · rw [List.getElem?_eq_none h'] at hy; cases hy
  have hd : l.drop i = (k : Int) :: l.drop (i + 1) := by
    rw [List.drop_eq_getElem_cons hil]
    rw [List.getElem?_eq_getElem hil] at hy
    rw [Option.some.inj hy]
  have hp : ((k : Int) :: l.drop (i + 1)).Pairwise (· < ·) := by rw [← hd]; exact hl.sublist (List.drop_sublist _ _)
  rw [List.pairwise_cons] at hp
  have hno : (k : Int) ∉ l.drop (i + 1) := fun hm => by have := hp.1 _ hm; omega
  refine ⟨k, rfl, by omega, ⟨fun t ht => ?_, fun hm => ?_⟩, h.ok.put (by omega) y1, fun x => ?_⟩
  · refine (h.mem _).2 ⟨⟨by omega, by omega⟩, fun hm => ?_⟩
    rw [hd] at hm
    rcases List.mem_cons.1 hm with e | hm
    · omega
    · have := hp.1 _ hm; omega
  · exact ((h.mem _).1 hm).2 (by rw [hd]; simp)
  · rw [putL_mem, h.mem, hd, List.mem_cons]
    constructor
    · rintro (rfl | ⟨a, b⟩)
      · exact ⟨⟨by omega, y1⟩, hno⟩
      · exact ⟨a, fun h => b (.inr h)⟩
    · rintro ⟨a, b⟩
      by_cases e : x = (k : Int)
      · exact .inl e
      · exact .inr ⟨a, fun h => h.elim e b⟩

/-- A number brought into 0 to n less 1. -/
def modN (n x : Int) : Int := (x.tmod n + n).tmod n
theorem modN_range {n x : Int} (h : 1 ≤ n) : 0 ≤ modN n x ∧ modN n x < n := by
  unfold modN
  have h1 : -n < x.tmod n := by
    have := Int.lt_tmod_of_pos x (show (0 : Int) < n by omega)
    omega
  exact ⟨Int.tmod_nonneg _ (by omega), Int.tmod_lt_of_pos _ (by omega)⟩
def modAll (n : Int) (l : List Int) : List Int := putEach (l.map (modN n))
theorem modAll_snoc (n : Int) {l : List Int} {j : Nat} {x : Int} (h : l[j]? = some x) : modAll n (l.take (j + 1)) = putL (modN n x) (modAll n (l.take j)) := by
  unfold modAll
  rw [List.take_add_one, h]
  simp only [Option.toList_some, List.map_append, List.map_cons, List.map_nil]
  unfold putEach
  rw [List.foldl_append]
  rfl
theorem modAll_rise (n : Int) (l : List Int) : (modAll n l).Pairwise (· < ·) := (putEach_spec _).1
theorem modAll_range {n : Int} (h : 1 ≤ n) (l : List Int) : ∀ x ∈ modAll n l, 0 ≤ x ∧ x < n := fun x hx => by
  obtain ⟨y, _, rfl⟩ := List.mem_map.1 (((putEach_spec _).2 x).1 hx)
  exact modN_range h
theorem modAll_le (n : Int) (l : List Int) : (modAll n l).length ≤ l.length := by
  have := putEach_le (l.map (modN n))
  rwa [List.length_map] at this
theorem modAll_ok {n : Nat} (h : 1 ≤ n) (l : List Int) : HOk n (modAll (n : Int) l) := ⟨modAll_rise _ _, modAll_range (by omega) l⟩
theorem give_out {n : Nat} {H : List Int} (ho : HOk n H) : giveL H [-1, (n : Int)] = (H, 0) := by
  have h1 : (-1 : Int) ∉ H := fun hm => by have := ho.range _ hm; omega
  have h2 : (n : Int) ∉ H := fun hm => by have := ho.range _ hm; omega
  unfold giveL
  simp only [List.foldl_cons, List.foldl_nil]
  unfold giveS
  rw [if_neg h1]
  simp only
  rw [if_neg h2]
end Go.Proofs.YtdibeieiogagoaaGreatDoor
