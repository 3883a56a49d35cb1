/-
  BitsOrder, walked within its bounds: one by one is as at once.
-/
import Derived.Test.YtdfickppfihiiaaDoorOrderOut
namespace Go.Proofs.YtdfickppfihiiaaDoor
open Go.RowKit

/-- What stands at the head of each round of the first loop. -/
def Order1 (w : World) (o : Nat) (xs : List Int) (j : Nat) (wr : World) : Prop :=
  OutAt wr o ((Wr.mk [] 0).nums 2 (xs.take j)) ∧ OutAt wr (o + 1) ⟨[], 0⟩ ∧ Below w.heap.size w wr
/-- And of the second. -/
def Order2 (w : World) (o : Nat) (xs : List Int) (ts : List ByteArray) (j : Nat) (wr : World) : Prop :=
  OutAt wr o (((Wr.mk [] 0).nums 2 xs).texts (ts.take j)) ∧ OutAt wr (o + 1) ⟨[], 0⟩ ∧ Below w.heap.size w wr ∧ ∀ x ∈ ts.take j, x.size ≤ 200

theorem order1_next {w wr w1 : World} {o j : Nat} {xs : List Int} {x : Int} (hx : xs[j]? = some x) (h : Order1 w o xs j wr) (ho : w.heap.size ≤ o) {X : Obj}
    (h1 : OutAt w1 o (((Wr.mk [] 0).nums 2 (xs.take j)).nums 2 [x])) (hg : (wr.alloc X).grownBy w1 (some o)) : Order1 w o xs (j + 1) w1 := by
  obtain ⟨h2, h3, h4⟩ := h
  have hb : Below wr.heap.size wr (wr.alloc X) := (Below.refl _ _).alloc (Nat.le_refl _) _
  refine ⟨?_, (h3.below hb).other (h2.below hb) hg (by omega), below_by_new (h4.alloc h4.size _) hg ho⟩
  rw [List.take_add_one, hx]
  rw [nums_snoc] at h1
  exact h1
theorem order2_next {w wr w1 : World} {o j : Nat} {xs : List Int} {ts : List ByteArray} {x : ByteArray} (hx : ts[j]? = some x) (h : Order2 w o xs ts j wr) (ho : w.heap.size ≤ o) (hs : x.size ≤ 200) {X : Obj}
    (h1 : OutAt w1 o ((((Wr.mk [] 0).nums 2 xs).texts (ts.take j)).texts [x])) (hg : (wr.alloc X).grownBy w1 (some o)) : Order2 w o xs ts (j + 1) w1 := by
  obtain ⟨h2, h3, h4, h5⟩ := h
  have hb : Below wr.heap.size wr (wr.alloc X) := (Below.refl _ _).alloc (Nat.le_refl _) _
  refine ⟨?_, (h3.below hb).other (h2.below hb) hg (by omega), below_by_new (h4.alloc h4.size _) hg ho, ?_⟩
  · rw [List.take_add_one, hx]
    rw [texts_snoc] at h1
    exact h1
  · intro y hy
    rw [List.take_add_one, hx] at hy
    simp only [Option.toList_some, List.mem_append, List.mem_singleton] at hy
    rcases hy with hy | rfl
    · exact h5 y hy
    · exact hs
theorem order2_start {w wr : World} {o : Nat} {xs : List Int} {ts : List ByteArray} (h : Order1 w o xs xs.length wr) : Order2 w o xs ts 0 wr := by
  obtain ⟨h2, h3, h4⟩ := h
  rw [List.take_length] at h2
  refine ⟨?_, h3, h4, by simp⟩
  rw [List.take_zero]
  have e : ((Wr.mk [] 0).nums 2 xs).texts [] = (Wr.mk [] 0).nums 2 xs := by
    unfold Wr.texts
    rw [if_pos (by rfl)]
    exact raws_nil _
  rw [e]
  exact h2
/-- How long what the first loop has laid is. -/
theorem order1_len (xs : List Int) (j : Nat) (hj : j ≤ 40) : ((Wr.mk [] 0).nums 2 (xs.take j)).l.length ≤ 80 := by
  have h := (Wr.mk [] 0).len_nums 2 (xs.take j)
  rw [List.length_take] at h
  simp only [List.length_nil] at h
  have : min j xs.length * 2 ≤ j * 2 := Nat.mul_le_mul_right _ (Nat.min_le_left _ _)
  omega
theorem order2_len (xs : List Int) (ts : List ByteArray) (j : Nat) (hx : xs.length ≤ 40) (hj : j ≤ 20) (hs : ∀ x ∈ ts.take j, x.size ≤ 200) : (((Wr.mk [] 0).nums 2 xs).texts (ts.take j)).l.length ≤ 5000 := by
  have h1 := order1_len xs xs.length hx
  rw [List.take_length] at h1
  have h2 := len_texts ((Wr.mk [] 0).nums 2 xs) (ts.take j)
  have h3 := textsBytes_bound (ts.take j) hs
  have h4 : (ts.take j).length ≤ j := List.length_take_le _ _
  omega

set_option maxRecDepth 100000 in
set_option maxHeartbeats 4000000 in
theorem order_in (A B : Option Addr) (c d : Nat) (xs : List Int) (ts : List ByteArray) (w : World) (hA : Ints w w.heap.size A xs) (hB : Txts w w.heap.size B ts) (hr : InRange xs) (hn : xs.length ≤ 40) (hm : ts.length ≤ 20) :
    Calls Tryd.prog 8 #[.slice A xs.length c, .slice B ts.length d] w fun e w' => e = .returned (.bool true) ∧ Below w.heap.size w w' := by
  have HA := Lib.hid hA
  have HB := Lib.hid hB
  have HR := Lib.hid hr
  clear hA hB hr
  obtain ⟨n, en⟩ : ∃ n, n = xs.length := ⟨_, rfl⟩
  obtain ⟨m, em⟩ : ∃ m, m = ts.length := ⟨_, rfl⟩
  rw [← en] at hn ⊢
  rw [← em] at hm ⊢
  have EN := Lib.hid en
  have EM := Lib.hid em
  clear en em
  go_enter Tryd.func8, Tryd.ntmps8
  go_wp2_with fail
  refine (alive_any _).mono ?_
  rintro e w1 ⟨rfl, hb1⟩
  go_wp2_with fail
  have hg0 : w.heap.size ≤ w1.heap.size := hb1.size
  have hst : Order1 w w1.heap.size xs 0 ((w1.alloc (.cells #[.pointer none, .int .i64 0, .int .i64 0] 44)).alloc (.cells #[.pointer none, .int .i64 0, .int .i64 0] 44)) := by
    refine ⟨?_, ?_, (hb1.alloc hb1.size _).alloc (by simp; omega) _⟩
    · rw [List.take_zero, nums_nil]
      exact (OutAt.new w1).below ((Below.refl _ _).alloc (Nat.le_refl _) _)
    · have := OutAt.new (w1.alloc (.cells #[.pointer none, .int .i64 0, .int .i64 0] 44))
      simpa using this
  go_loopw [7] (fun i wr => ∃ j : Nat, j ≤ n ∧ i = .int .i64 j ∧ Order1 w w1.heap.size xs j wr) (fun i _ => n - (intOf i).toNat)
  case atStart => exact ⟨0, Nat.zero_le _, rfl, hst⟩
  case round =>
    obtain ⟨j, hj, rfl, hO⟩ := hrel
    clear hst
    by_cases hlt : j < n
    · have hxl : j < xs.length := by rw [← EN.out]; exact hlt
      obtain ⟨b, off, eA, hbB, hc⟩ := HA.out (by omega)
      obtain ⟨x, hx⟩ : ∃ x, x = xs[j] := ⟨_, rfl⟩
      have hxj : xs[j]? = some x := by rw [hx]; exact List.getElem?_eq_getElem hxl
      have hcx : wr.cell? ⟨b, off + j, none⟩ = some (.int .i64 x) := (hO.2.2.cell (p := ⟨b, off + j, none⟩) hbB).trans (hc j x hxj)
      have HRX := Lib.hid (show InRange [x] from inRange_one (HR.out x (by rw [hx]; exact List.getElem_mem hxl)).1 (HR.out x (by rw [hx]; exact List.getElem_mem hxl)).2)
      have HXJ := Lib.hid hxj
      have HL := Lib.hid (show ((Wr.mk [] 0).nums 2 (xs.take j)).l.length ≤ 140737488351232 by have := order1_len xs j (by omega); omega)
      have HO := Lib.hid hO
      have HO1 := Lib.hid (show OutAt wr w1.heap.size ((Wr.mk [] 0).nums 2 (xs.take j)) from hO.1)
      clear hxj hc hx hO
      subst eA
      go_wp2_with fail
      with_reducible refine (out_half w1.heap.size _ (some ⟨wr.heap.size, 0, none⟩) 1 1 [x] _ rfl ?_ (by simp) HRX.out (HO1.out.below ((Below.refl _ _).alloc (Nat.le_refl _) _)) HL.out).mono ?_
      · exact ints_at _ _ _ _ rfl rfl
      rintro e w2 ⟨rfl, h2, hg2⟩
      have hN := Lib.hid (order1_next HXJ.out HO.out hg0 h2 hg2)
      clear h2 hg2 hcx
      go_wp2_with fail
      go_roundw
      case rel => exact ⟨j + 1, by omega, by go_num, hN.out⟩
      case measure => simp [intOf]; omega
    · obtain rfl : j = n := by omega
      have hO2 : Order2 w w1.heap.size xs ts 0 wr := order2_start (by rw [← EN.out]; exact hO)
      have HO2 := Lib.hid hO2
      clear hO hO2
      go_wp2_with fail
      obtain ⟨wo, rfl⟩ : ∃ wo : World, wo = wr := ⟨_, rfl⟩
      go_loopw [8] (fun i wi => ∃ t : Nat, t ≤ m ∧ i = .int .i64 t ∧ Order2 w w1.heap.size xs ts t wi) (fun i _ => m - (intOf i).toNat)
      case atStart => exact ⟨0, Nat.zero_le _, rfl, HO2.out⟩
      case round =>
        obtain ⟨t, ht, rfl, hO⟩ := hrel
        by_cases htl : t < m
        · have hxl : t < ts.length := by rw [← EM.out]; exact htl
          obtain ⟨b, off, eB, hbB, hc⟩ := HB.out (by omega)
          obtain ⟨x, hx⟩ : ∃ x, x = ts[t] := ⟨_, rfl⟩
          have hxj : ts[t]? = some x := by rw [hx]; exact List.getElem?_eq_getElem hxl
          have hcx : wr.cell? ⟨b, off + t, none⟩ = some (.string x) := (hO.2.2.1.cell (p := ⟨b, off + t, none⟩) hbB).trans (hc t x hxj)
          have HXJ := Lib.hid hxj
          have HL := Lib.hid (show (((Wr.mk [] 0).nums 2 xs).texts (ts.take t)).l.length ≤ 140737488351232 by have := order2_len xs ts t (by rw [← EN.out]; exact hn) (by omega) hO.2.2.2; omega)
          have HO := Lib.hid hO
          have HO1 := Lib.hid (show OutAt wr w1.heap.size (((Wr.mk [] 0).nums 2 xs).texts (ts.take t)) from hO.1)
          have HO3 := Lib.hid (show Below w.heap.size w wr from hO.2.2.1)
          clear hxj hc hx hO
          subst eB
          by_cases hbig : 200 < x.size
          · go_wp2_with fail
            go_ret
            exact ⟨rfl, HO3.out⟩
          · have hsm : x.size ≤ 200 := by omega
            have HS := Lib.hid (show (textsBytes [x]).length ≤ 140737488351232 by have := textBytes_len x; simp [textsBytes]; omega)
            clear hbig
            go_wp2_with fail
            with_reducible refine (out_text w1.heap.size _ (some ⟨wr.heap.size, 0, none⟩) 1 1 [x] _ rfl ?_ (by simp) HS.out (HO1.out.below ((Below.refl _ _).alloc (Nat.le_refl _) _)) HL.out).mono ?_
            · exact txts_at _ _ _ _ rfl rfl
            rintro e w2 ⟨rfl, h2, hg2⟩
            have hN := Lib.hid (order2_next HXJ.out HO.out hg0 hsm h2 hg2)
            clear h2 hg2 hcx
            go_wp2_with fail
            go_roundw
            case rel => exact ⟨t + 1, by omega, by go_num, hN.out⟩
            case measure => simp [intOf]; omega
        · obtain rfl : t = m := by omega
          have htk : ts.take t = ts := List.take_of_length_le (by rw [← EM.out]; exact Nat.le_refl _)
          obtain ⟨k1, k2, k3, k4⟩ := hO
          have hl5 := order2_len xs ts t (by rw [← EN.out]; exact hn) (by omega) k4
          rw [htk] at k1 k4 hl5
          have hle1 : ((Wr.mk [] 0).nums 2 xs).l.length ≤ 80 := by
            have := order1_len xs xs.length (by rw [← EN.out]; exact hn)
            rw [List.take_length] at this
            exact this
          have hts : (textsBytes ts).length ≤ 140737488351232 := by
            have := textsBytes_bound ts k4
            have := EM.out
            omega
          obtain ⟨S0, eS0⟩ : ∃ S0, S0 = (Wr.mk [] 0).nums 2 xs := ⟨_, rfl⟩
          obtain ⟨S, eS⟩ : ∃ S, S = S0.texts ts := ⟨_, rfl⟩
          have hok : S.ok := by
            rw [eS, eS0]
            exact Wr.ok_texts (Wr.ok_nums (Wr.ok_zero _) 2 xs) ts
          rw [← eS0, ← eS] at k1 hl5
          rw [← eS0] at hle1
          have W1 := Lib.hid eS0.symm
          have W2 := Lib.hid eS.symm
          have HOK := Lib.hid hok
          have L1 := Lib.hid (show S0.l.length ≤ 140737488351232 by omega)
          have L2 := Lib.hid (show S.l.length ≤ 140737488351232 by omega)
          have HTS := Lib.hid hts
          have XL := Lib.hid (show xs.length * 8 ≤ 140737488351232 by have := EN.out; omega)
          have TL := Lib.hid (show ts.length ≤ 140737488351232 by have := EM.out; omega)
          have XA := Lib.hid ((HA.out.below k3).more k3.size)
          have K1 := Lib.hid k1
          have K2 := Lib.hid k2
          clear htk k4 hl5 hle1 hts eS0 eS hok k1 k2
          go_wp2_with fail
          with_reducible refine (out_half (w1.heap.size + 1) ⟨[], 0⟩ A _ c xs wr EN.out.symm XA.out XL.out HR.out K2.out (by simp)).mono ?_
          rintro e w3 ⟨rfl, b3, g3⟩
          rw [W1.out] at b3
          have a3 := K1.out.other K2.out g3 (by omega)
          have hb3 : Below w.heap.size w w3 := below_by_new k3 g3 (by omega)
          clear g3 k3 K1 K2
          go_wp2_with fail
          with_reducible refine (out_byte (w1.heap.size + 1) S0 none 0 0 [] w3 rfl (Ints.nil _ _ _) (by simp) (inRange_of (by decide)) b3 L1.out).mono ?_
          rintro e w4 ⟨rfl, b4, g4⟩
          rw [nums_nil] at b4
          have a4 := a3.other b3 g4 (by omega)
          have hb4 : Below w.heap.size w w4 := below_by_new hb3 g4 (by omega)
          clear g4 hb3 a3 b3
          go_wp2_with fail
          with_reducible refine (out_raw (w1.heap.size + 1) S0 none 0 0 [] w4 rfl (Txts.nil _ _ _) (by simp) (by simp [cats]) b4 L1.out).mono ?_
          rintro e w5 ⟨rfl, b5, g5⟩
          rw [raws_nil] at b5
          have a5 := a4.other b4 g5 (by omega)
          have hb5 : Below w.heap.size w w5 := below_by_new hb4 g5 (by omega)
          clear g5 hb4 a4 b4
          have TA := Lib.hid ((HB.out.below hb5).more hb5.size)
          go_wp2_with fail
          with_reducible refine (out_text (w1.heap.size + 1) S0 B _ d ts w5 EM.out.symm TA.out TL.out HTS.out b5 L1.out).mono ?_
          rintro e w6 ⟨rfl, b6, g6⟩
          rw [W2.out] at b6
          have a6 := a5.other b5 g6 (by omega)
          have hb6 : Below w.heap.size w w6 := below_by_new hb5 g6 (by omega)
          clear g6 hb5 a5 b5 TA
          go_wp2_with fail
          with_reducible refine (out_long (w1.heap.size + 1) S none 0 0 [] w6 rfl (Ints.nil _ _ _) (by simp) (inRange_of (by decide)) b6 L2.out).mono ?_
          rintro e w7 ⟨rfl, b7, g7⟩
          rw [nums_nil] at b7
          have a7 := a6.other b6 g7 (by omega)
          have hb7 : Below w.heap.size w w7 := below_by_new hb6 g7 (by omega)
          clear g7 hb6 a6 b6
          go_wp2_with fail
          with_reducible refine (fin_any w1.heap.size S w7 a7 HOK.out L2.out).mono ?_
          rintro e w8 ⟨rfl, a8, g8⟩
          have b8 := b7.below g8
          have hb8 : Below w.heap.size w w8 := hb7.trans (g8.mono hb7.size)
          clear g8 hb7 a7 b7 a8
          go_wp2_with fail
          with_reducible refine (fin_any (w1.heap.size + 1) S w8 b8 HOK.out L2.out).mono ?_
          rintro e w9 ⟨rfl, b9, g9⟩
          have hb9 : Below w.heap.size w w9 := hb8.trans (g9.mono hb8.size)
          clear g9 hb8 b8 b9
          go_wp2_with fail
          go_ret
          exact ⟨by simp, hb9⟩
end Go.Proofs.YtdfickppfihiiaaDoor
