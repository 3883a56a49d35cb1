/-
  masonrybook's lists of spans that are kept: is each what it was? No statement is proved here.
-/
import Derived.Test.YtkcjiogackkecaaSpanMark
import Derived.Test.YtkcjiogackkecaaGrow
namespace Go.Proofs.Ytkcjiogackkecaa
open Go.RowKit

/-- A list of spans as a slice. -/
structure LS where
  A : Option Addr
  c : Nat
  xs : List (Int × Int)
def LS.val (l : LS) : Value := .slice l.A l.xs.length l.c
theorem RowAt.getS {w : World} {p : Option Addr} {ls : List LS} {j : Nat} {l : LS} (h : RowAt w p (ls.map LS.val)) (hl : ls[j]? = some l) : ∃ b off, p = some ⟨b, off, none⟩ ∧ ∀ w', Below w.heap.size w w' → w'.cell? ⟨b, off + j, none⟩ = some l.val := by
  have hj : j < ls.length := by
    rcases Nat.lt_or_ge j ls.length with h | h
    · exact h
    · rw [List.getElem?_eq_none h] at hl; cases hl
  obtain ⟨b, off, e, hbl, hc⟩ := h (by rw [List.length_map]; omega)
  exact ⟨b, off, e, fun w' hw => (hw.cell (p := ⟨b, off + j, none⟩) hbl).trans (hc j _ (by rw [List.getElem?_map, hl]; rfl))⟩

set_option maxRecDepth 100000 in
set_option maxHeartbeats 4000000 in
theorem sstill_any (g : Nat) (p q : Option Addr) (k cp cq : Nat) (ls us : List LS) (w : World) (hg : g < w.heap.size) (h2 : w.cell? ⟨g, 4, none⟩ = some (.slice p k cp)) (h3 : w.cell? ⟨g, 5, none⟩ = some (.slice q k cq))
    (hk : ls.length = k) (hk' : us.length = k) (hp : RowAt w p (ls.map LS.val)) (hq : RowAt w q (us.map LS.val)) (hb : k ≤ 1000)
    (hs : ∀ (i : Nat) (l u : LS), ls[i]? = some l → us[i]? = some u → l.xs = u.xs ∧ Spans w w.heap.size l.A l.xs ∧ Spans w w.heap.size u.A l.xs ∧ l.xs.length ≤ 1000000) :
    Calls Try.prog 46 #[.pointer (some ⟨g, 0, none⟩)] w fun e w' => e = .returned (.bool true) ∧ Below w.heap.size w w' := by
  have HC : Hid (∀ w', Below w.heap.size w w' → w'.cell? ⟨g, 4, none⟩ = some (.slice p k cp) ∧ w'.cell? ⟨g, 5, none⟩ = some (.slice q k cq)) := Lib.hid (fun w' hw => ⟨(hw.cell (p := ⟨g, 4, none⟩) hg).trans h2, (hw.cell (p := ⟨g, 5, none⟩) hg).trans h3⟩)
  have HK := Lib.hid hk
  have HK' := Lib.hid hk'
  have HP := Lib.hid hp
  have HQ := Lib.hid hq
  have HSS := Lib.hid hs
  have hkI : (k : Int) ≤ 1000 := by omega
  clear hk hk' hp hq hs h2 h3
  go_enter Try.func46, Try.ntmps46
  go_wp2_with fail
  go_loopw [3] (fun i wr => ∃ j : Nat, j ≤ k ∧ i = .int .i64 j ∧ Below w.heap.size w wr) (fun i _ => k - (intOf i).toNat)
  case atStart => exact ⟨0, Nat.zero_le _, rfl, Below.refl _ _⟩
  case round =>
    obtain ⟨j, hj, rfl, hbr⟩ := hrel
    have HBR := Lib.hid hbr
    obtain ⟨c2, c3⟩ := HC.out _ hbr
    clear hbr
    by_cases hlt : j < k
    · obtain ⟨l, hl⟩ : ∃ l, ls[j]? = some l := ⟨ls[j]'(by rw [HK.out]; exact hlt), List.getElem?_eq_getElem _⟩
      obtain ⟨u, hu⟩ : ∃ u, us[j]? = some u := ⟨us[j]'(by rw [HK'.out]; exact hlt), List.getElem?_eq_getElem _⟩
      obtain ⟨e1, e2, e3, e4⟩ := HSS.out j l u hl hu
      obtain ⟨b, off, rfl, hx⟩ := HP.out.getS hl
      obtain ⟨b', off', rfl, hy⟩ := HQ.out.getS hu
      obtain ⟨A, c, xs⟩ := l
      obtain ⟨A', c', ys⟩ := u
      simp only at e1 e2 e3 e4
      subst e1
      unfold LS.val at hx hy
      simp only at hx hy
      have HS : Hid (∀ w', Below w.heap.size w w' → Calls Try.prog 14 #[.slice A xs.length c, .slice A' xs.length c'] w' fun e w'' => e = .returned (.bool true) ∧ Below w'.heap.size w' w'') := Lib.hid (fun w' hw => by
        refine (ssame_any A A' xs.length c c' xs w' rfl ((e2.below hw).more hw.size) ((e3.below hw).more hw.size) e4).mono ?_
        rintro e w'' ⟨rfl, q, rfl⟩
        exact ⟨rfl, ⟨rfl, rfl, rfl, Nat.le_refl _, fun _ _ => rfl⟩⟩)
      obtain ⟨n, hn⟩ : ∃ n, n = xs.length := ⟨_, rfl⟩
      rw [← hn] at hx hy HS
      have HX := Lib.hid hx
      have HY := Lib.hid hy
      have hjI : (j : Int) < (k : Int) := by omega
      have h0J : Below w.heap.size w wr.drew := HBR.out.drew
      clear hx hy hl hu e2 e3 e4 hn
      go_upto_region 4 with fail
      refine wp_region_grow (Below w.heap.size w) (by kernel_rfl) (by kernel_rfl) h0J ?_
      apply grow_step
      · intro w' hw K hK
        go_simp
        exact hK
      · exact ⟨_, rfl, Nat.le_of_ble_eq_true rfl⟩
      · exact ⟨_, h0J⟩
      apply grow_step
      · intro w' hw K hK
        go_simp
        exact hK
      · exact ⟨_, rfl, Nat.le_of_ble_eq_true rfl⟩
      · exact ⟨_, h0J⟩
      apply grow_step
      · intro w' hw K hK
        go_simp
        exact hK
      · exact ⟨_, rfl, Nat.le_of_ble_eq_true rfl⟩
      · exact ⟨_, h0J⟩
      apply grow_step
      · intro w' hw K hK
        obtain ⟨c2, c3⟩ := HC.out w' hw
        go_simp
        exact hK
      · exact ⟨_, rfl, Nat.le_of_ble_eq_true rfl⟩
      · exact ⟨_, h0J⟩
      apply grow_step
      · intro w' hw K hK
        go_simp
        exact hK
      · exact ⟨_, rfl, Nat.le_of_ble_eq_true rfl⟩
      · exact ⟨_, h0J⟩
      apply grow_step
      · intro w' hw K hK
        go_simp
        exact hK
      · exact ⟨_, rfl, Nat.le_of_ble_eq_true rfl⟩
      · exact ⟨_, h0J⟩
      apply grow_step
      · intro w' hw K hK
        have hcx := HX.out w' hw
        go_simp
        exact hK
      · exact ⟨_, rfl, Nat.le_of_ble_eq_true rfl⟩
      · exact ⟨_, h0J⟩
      apply grow_step
      · intro w' hw K hK
        go_simp
        exact hK
      · exact ⟨_, rfl, Nat.le_of_ble_eq_true rfl⟩
      · exact ⟨_, h0J⟩
      apply grow_step
      · intro w' hw K hK
        go_simp
        exact hK
      · exact ⟨_, rfl, Nat.le_of_ble_eq_true rfl⟩
      · exact ⟨_, h0J⟩
      apply grow_step
      · intro w' hw K hK
        go_simp
        exact hK
      · exact ⟨_, rfl, Nat.le_of_ble_eq_true rfl⟩
      · exact ⟨_, h0J⟩
      apply grow_step
      · intro w' hw K hK
        obtain ⟨c2, c3⟩ := HC.out w' hw
        go_simp
        exact hK
      · exact ⟨_, rfl, Nat.le_of_ble_eq_true rfl⟩
      · exact ⟨_, h0J⟩
      apply grow_step
      · intro w' hw K hK
        go_simp
        exact hK
      · exact ⟨_, rfl, Nat.le_of_ble_eq_true rfl⟩
      · exact ⟨_, h0J⟩
      apply grow_step
      · intro w' hw K hK
        go_simp
        exact hK
      · exact ⟨_, rfl, Nat.le_of_ble_eq_true rfl⟩
      · exact ⟨_, h0J⟩
      apply grow_step
      · intro w' hw K hK
        have hcy := HY.out w' hw
        go_simp
        exact hK
      · exact ⟨_, rfl, Nat.le_of_ble_eq_true rfl⟩
      · exact ⟨_, h0J⟩
      refine grow_call (fun w' hw => (HS.out w' hw).mono fun e w'' ⟨he, hb⟩ => ⟨he, hw.trans (hb.mono hw.size)⟩) (by simp [Region.wanted]) (fun w' hw => by go_simp) ?_
      simp only [Act.put, List.setIfInBounds_toArray, List.set_cons_succ, List.set_cons_zero]
      apply grow_step
      · intro w' hw K hK
        go_simp
        exact hK
      · exact ⟨_, rfl, Nat.le_of_ble_eq_true rfl⟩
      · exact ⟨_, h0J⟩
      refine grow_nil ?_
      intro w7 hw7
      have HW7 := Lib.hid hw7
      clear hw7
      go_wp2_with fail
      go_roundw
      case rel => exact ⟨j + 1, by omega, by go_num, HW7.out⟩
      case measure => simp [intOf]; omega
    · obtain rfl : j = k := by omega
      go_wp2_with fail
      go_ret
      exact ⟨rfl, HBR.out⟩
end Go.Proofs.Ytkcjiogackkecaa
