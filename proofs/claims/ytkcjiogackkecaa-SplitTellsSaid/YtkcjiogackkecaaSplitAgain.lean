/-
  Package split: Again, by a cutter behind an interface. No statement is proved here.
-/
import Derived.Test.YtkcjiogackkecaaSplitSearch
import Derived.Deep.CutBlock
import Derived.Deep.CutRange
import Derived.Defers
import Derived.Recover
namespace Go.Proofs.Ytkcjiogackkecaa
open Go.RowKit

/-- A cutter behind an interface: what its two methods come to. -/
structure CutterIs (T : TypeId) (x : Value) (R : RuleN) (fN fC : FuncId) (rN rC : Value) : Prop where
  na : ∀ (F : Nat) (w : World), (nilAhead (F + 1) T x "Next").run Try.prog w = .ok (some false) w
  mN : ∀ (F : Nat) (w : World), (method (F + 1) T x "Next").run Try.prog w = .ok (fN, rN) w
  mC : ∀ (F : Nat) (w : World), (method (F + 1) T x "Cut").run Try.prog w = .ok (fC, rC) w
  cN : ∀ (args : Array Value) (w : World), (callFunc fN args).run Try.prog w = .ok (.enter fN args) w
  cC : ∀ (args : Array Value) (w : World), (callFunc fC args).run Try.prog w = .ok (.enter fC args) w
  ok : R.ok = true
  next : ∀ (s : ByteArray) (w : World), s.size ≤ 1000000 → Calls Try.prog fN #[rN, .string s] w fun e w' => e = .returned (.int .i64 (firstL R s.data.toList : Int)) ∧ Below w.heap.size w w'
  cut : ∀ (A : Option Addr) (m c : Nat) (xs : List ByteArray) (w : World), xs.length = m → Txts w w.heap.size A xs → m ≤ 1000000 → m ≤ c → (cats xs).length ≤ 1000000 →
    Calls Try.prog fC #[rC, .slice A m c] w fun e w' => ∃ p cap, e = .returned (.slice p (cutL R 0 (cats xs)).length cap) ∧ w'.ownsRow w.heap.size 36 2 (.slice p (cutL R 0 (cats xs)).length cap) (cutL R 0 (cats xs)).length (flatS (cutL R 0 (cats xs))) ∧ Below w.heap.size w w'
theorem even_is : CutterIs 44 (.agg #[.int .i64 64]) e64 23 21 (.agg #[.int .i64 64]) (.agg #[.int .i64 64]) where
  na := fun F w => by kernel_rfl
  mN := fun F w => by kernel_rfl
  mC := fun F w => by kernel_rfl
  cN := fun args w => by kernel_rfl
  cC := fun args w => by kernel_rfl
  ok := e64_ok
  next := fun s w hs => (evnext_any 64 s w).mono fun e w' ⟨h1, h2⟩ => ⟨by
    rw [h1, e64_first, ← Lib.size_eq]
    congr 2
    omega, h2⟩
  cut := fun A m c xs w hm hx hl _ hs => by
    have h := evcut_any 64 A m c xs w (by omega) hm hx hl hs
    rw [cutS_64] at h
    exact h
theorem uneven_is : CutterIs 42 dfl.val dfl 17 15 dfl.val dfl.val where
  na := fun F w => by kernel_rfl
  mN := fun F w => by kernel_rfl
  mC := fun F w => by kernel_rfl
  cN := fun args w => by kernel_rfl
  cC := fun args w => by kernel_rfl
  ok := dfl_ok
  next := fun s w hs => unnext_any dfl s w (by omega)
  cut := fun A m c xs w hm hx hl hc hs => ccut_any dfl A m c xs w hm hx hl hc hs

variable {T : TypeId} {x : Value} {R : RuleN} {fN fC : FuncId} {rN rC : Value}
theorem run_next (K : CutterIs T x R fN fC rN rC) {ρ : Operand → Value} {o : Oper} {r y : Operand} {s : ByteArray} (ho : o.op = .call { callee := .invoke r "Next", args := #[y], argTypes := #[9] }) (h1 : ρ r = .iface T x) (h2 : ρ y = .string s) (w : World) :
    (execOp ρ o).run Try.prog w = .ok (.enter fN #[rN, .string s]) w := by
  simp [execOp, ho, resolve, invoke, callMethod, h1, h2, go_sem, Made.depth, K.mN, K.cN]
theorem run_cut (K : CutterIs T x R fN fC rN rC) {ρ : Operand → Value} {o : Oper} {r y : Operand} {v : Value} (ho : o.op = .call { callee := .invoke r "Cut", args := #[y], argTypes := #[24] }) (h1 : ρ r = .iface T x) (h2 : ρ y = v) (w : World) :
    (execOp ρ o).run Try.prog w = .ok (.enter fC #[rC, v]) w := by
  simp [execOp, ho, resolve, invoke, callMethod, h1, h2, go_sem, Made.depth, K.mC, K.cC]

set_option maxRecDepth 100000 in
set_option maxHeartbeats 8000000 in
theorem mend_any (K : CutterIs T x R fN fC rN rC) (A : Option Addr) (m c : Nat) (l : List (Int × Int)) (k : Nat) (s : ByteArray) (t g : Int) (w : World) (hm : l.length = m) (hx : Spans w w.heap.size A l) (hl : m ≤ 1000000) (hmc : m ≤ c) (hc0 : A = none → c = 0) (hk : k ≤ m) (hs : s.size ≤ 1000000) (_hg2 : -9223372036854775808 ≤ g) (hw : wholeB ((s.size : Int) - g) l = true) (hn : (s.size : Int) - g ≤ 9223372036854775807) (hat : stayAt l k ≤ (s.size : Int)) :
    Calls Try.prog 42 #[.iface T x, .slice A m c, .int .i64 (k : Int), .string s, .int .i64 t, .int .i64 g] w fun e w' => ∃ p cap, e = .returned (.tuple #[.slice p (l.take k ++ (mendL R l t g (stayAt l k).toNat (s.data.toList.drop (stayAt l k).toNat)).1).length cap, .int .i64 ((mendL R l t g (stayAt l k).toNat (s.data.toList.drop (stayAt l k).toNat)).2 : Int), .bool true]) ∧
      w'.ownsRow w.heap.size 36 2 (.slice p (l.take k ++ (mendL R l t g (stayAt l k).toNat (s.data.toList.drop (stayAt l k).toNat)).1).length cap) (l.take k ++ (mendL R l t g (stayAt l k).toNat (s.data.toList.drop (stayAt l k).toNat)).1).length (flatS (l.take k ++ (mendL R l t g (stayAt l k).toNat (s.data.toList.drop (stayAt l k).toNat)).1)) ∧ Below w.heap.size w w' := by
  obtain ⟨i0, hi, hz0, hz1, hz2⟩ := info_parts hspans_info
  obtain ⟨hwn, hwx, hwo, -⟩ := wholeB_in hw
  have HWX := Lib.hid hwx
  have HORD : Hid (∀ (i j : Nat) (x y : Int × Int), i < j → l[i]? = some x → l[j]? = some y → x.1 < y.1) := Lib.hid (fun i j x y hij h1 h2 => by
    have q1 := hwo i j x y hij h1 h2
    have q2 := (hwx i x h1).2.1
    omega)
  have hst0 : 0 ≤ stayAt l k := by
    cases k with
    | zero => exact Int.le_refl _
    | succ j =>
      show 0 ≤ ((l[j]?).map (·.2)).getD 0
      cases hj : l[j]? with
      | none => exact Int.le_refl _
      | some x => have := hwx j x hj; show 0 ≤ x.2; omega
  obtain ⟨a0, ha0⟩ : ∃ a0 : Nat, a0 = (stayAt l k).toNat := ⟨_, rfl⟩
  have hsta : stayAt l k = (a0 : Int) := by omega
  have ha0s : a0 ≤ s.size := by omega
  rw [← ha0]
  obtain ⟨L, hL⟩ : ∃ L, L = l.take k ++ (mendL R l t g a0 (s.data.toList.drop a0)).1 := ⟨_, rfl⟩
  obtain ⟨N, hN⟩ : ∃ N, N = (mendL R l t g a0 (s.data.toList.drop a0)).2 := ⟨_, rfl⟩
  rw [← hL, ← hN]
  have HL := Lib.hid hL
  have HN := Lib.hid hN
  have HX := Lib.hid hx
  have HM := Lib.hid hm
  have HSTA := Lib.hid hsta
  have HSZ : Hid (s.size = s.data.toList.length) := Lib.hid (Lib.size_eq s)
  have HTK : Hid ((flatS (l.take k)).length = k * 2) := Lib.hid (by rw [flatS_len, List.length_take, hm, Nat.min_eq_left hk])
  have HTL : Hid ((l.take k).length = k) := Lib.hid (by rw [List.length_take, hm, Nat.min_eq_left hk])
  have HC0 := Lib.hid hc0
  clear hL hN hx hm hwx hwo hw hst0 ha0 hsta hat hc0
  go_enter Try.func42, Try.ntmps42
  go_upto_region 2 with fail
  go_cut [15] from 21 to 25 (fun v wx => wx.ownsRow w.heap.size 36 2 v k (flatS (l.take k)) ∧ Below w.heap.size w wx)
  case first =>
    rcases A with _ | ad
    · obtain rfl : c = 0 := HC0.out rfl
      obtain rfl : m = 0 := by omega
      obtain rfl : k = 0 := by omega
      go_wp2_with (at_builtin; refine wpList_append_own_none rfl _ _ 33 rfl w.heap.size 36 i0 2 Try.underlying33 hi (.slice none 0 0) 0 [] rfl (World.ownsRow_nil _ _ _ _) rfl ?_)
      go_meet
      exact ⟨World.ownsRow_nil _ _ _ _, Below.refl _ _⟩
    · have hnews : ∀ (j : Nat) (u : Value), (flatS (l.take k))[j]? = some u → w.cell? (ad.add j) = some u := by
        intro j u hu
        have hj : 0 < l.length := by
          cases l with
          | nil => simp [flatS] at hu
          | cons _ _ => simp
        obtain ⟨b, off, e, hB, hc⟩ := HX.out hj
        injection e with e
        subst e
        rw [Go.WideShapes.add_plain]
        refine flatS_cells (f := fun j => w.cell? ⟨b, off + j, none⟩) (fun j x hx => ?_) j u hu
        have hx2 : l[j]? = some x := by
          rw [List.getElem?_take] at hx
          split at hx
          · exact hx
          · cases hx
        exact hc j x hx2
      have HNW := Lib.hid hnews
      have HO := Lib.hid (flatS_one (l := l.take k))
      clear hnews
      go_wp2_with (at_builtin; refine wpList_append_own _ rfl _ _ 33 rfl w.heap.size 36 i0 (.agg #[.int .i64 0, .int .i64 0]) 2 16 Try.underlying33 hi hz0 hz1 hz2 rfl (by omega) (.slice none 0 0) 0 [] rfl (World.ownsRow_nil _ _ _ _) ad k c (flatS (l.take k)) rfl HTK.out HNW.out HO.out (by unfold maxLen; omega) (by omega) (Nat.le_refl _) ?_; intro v1 w1 hown1 hg1 _)
      have hb1 : Below w.heap.size w w1 := (Below.refl _ _).grown hg1 (Nat.le_refl _) (by simp [Value.ownBlock])
      clear hg1
      have HOW : Hid (w1.ownsRow w.heap.size 36 2 v1 k (flatS (l.take k))) := Lib.hid (by simpa using hown1)
      have HB1 := Lib.hid hb1
      clear hown1 hb1 HNW HO
      go_meet
      exact ⟨HOW.out, HB1.out⟩
  case rest =>
  obtain ⟨w1, rfl⟩ : ∃ w1, w1 = wc := ⟨_, rfl⟩
  obtain ⟨p1, cap1, rfl, -, -, -, -⟩ := krow_form hcut.1
  have HOW1 := Lib.hid hcut.1
  have HB1 := Lib.hid hcut.2
  clear hcut HTK
  go_upto_if 27 with fail
  go_cut [16] from 27 to 33 (fun v wx => v = .int .i64 (a0 : Int) ∧ wx = w1)
  case first =>
    by_cases hk0 : 0 < k
    · have hkI : (0 : Int) < (k : Int) := by omega
      obtain ⟨x0, x1, hxj⟩ := spans_get HM.out (by omega : k - 1 < m)
      obtain ⟨b, off, hA, hbB, hc⟩ := HX.out (by rw [HM.out]; omega)
      obtain ⟨d0, d1⟩ := hc _ _ hxj
      have e1 : w1.cell? ⟨b, off + (k - 1) * 2 + 1, none⟩ = some (.int .i64 x1) := (HB1.out.cell (p := ⟨b, off + (k - 1) * 2 + 1, none⟩) hbB).trans d1
      have HA0 : Hid (x1 = (a0 : Int)) := Lib.hid (by
        rw [← HSTA.out]
        obtain ⟨j, rfl⟩ : ∃ j, k = j + 1 := ⟨k - 1, by omega⟩
        show x1 = ((l[j]?).map (·.2)).getD 0
        have : l[j]? = some (x0, x1) := hxj
        rw [this]; rfl)
      clear hc d0 d1 hxj
      subst hA
      go_wp2_with fail
      go_meet
      exact ⟨by rw [HA0.out], rfl⟩
    · obtain rfl : k = 0 := by omega
      have HA0 : Hid ((0 : Int) = (a0 : Int)) := Lib.hid (by rw [← HSTA.out]; rfl)
      go_wp2_with fail
      go_meet
      exact ⟨by rw [HA0.out], rfl⟩
  case rest =>
  obtain ⟨w2, rfl⟩ : ∃ w2, w2 = wc := ⟨_, rfl⟩
  obtain ⟨rfl, rfl⟩ := hcut
  go_wp2_with fail
  go_loopw [15, 16, 17, 18, 19, 20] (fun u v y _ _ _ wr => ∃ (a n : Nat) (X : List (Int × Int)), a ≤ s.size ∧ n ≤ a ∧ v = .int .i64 (a : Int) ∧ y = .int .i64 (n : Int) ∧ X ++ (mendL R l t g a (s.data.toList.drop a)).1 = L ∧ n + (mendL R l t g a (s.data.toList.drop a)).2 = N ∧ X.length ≤ k + a ∧ wr.ownsRow w.heap.size 36 2 u X.length (flatS X) ∧ Below w.heap.size w wr) (fun _ v _ _ _ _ _ => s.size - (intOf v).toNat)
  case atStart => exact ⟨a0, 0, l.take k, ha0s, Nat.zero_le _, rfl, rfl, HL.out.symm, by rw [HN.out, Nat.zero_add], by rw [HTL.out]; omega, by rw [HTL.out]; exact HOW1.out, HB1.out⟩
  case round =>
    obtain ⟨a, n, X, ha, hna, rfl, rfl, hX, hNN, hXl, hown, hbr⟩ := hrel
    obtain ⟨p, cap, rfl, -, -, -, -⟩ := krow_form hown
    have HOWN := Lib.hid hown
    have HXL := Lib.hid hX
    have HNN := Lib.hid hNN
    have HBR := Lib.hid hbr
    clear hown hX hNN hbr
    by_cases hlt : a < s.size
    · have hne : s.data.toList.drop a ≠ [] := by
        intro e
        have h := congrArg List.length e
        rw [List.length_drop, List.length_nil] at h
        have := HSZ.out
        omega
      have HNE := Lib.hid hne
      have hltI : (a : Int) < (s.size : Int) := by omega
      clear hne
      go_upto_if 40 with fail
      go_cut [18] from 40 to 57 (fun _ wx => meetS l t g a = none ∧ Below wr.heap.size wr wx)
      case first =>
        by_cases hta : t ≤ (a : Int)
        · have HSE := Lib.hid (search_any ((a : Int) - g) A m c l wr HM.out ((HX.out.below HBR.out).more HBR.out.size) hl HORD.out)
          have HME : Hid (meetS l t g a = findS l ((a : Int) - g)) := Lib.hid (by unfold meetS; rw [if_pos hta])
          go_wp2_with fail
          refine HSE.out.mono ?_
          rintro e w3 ⟨k', fd, rfl, hf1, hf2, hb3⟩
          have HF1 := Lib.hid hf1
          have HF2 := Lib.hid hf2
          have HB3 := Lib.hid hb3
          have HB33 := Lib.hid (HBR.out.trans (hb3.mono HBR.out.size))
          clear hf1 hf2 hb3
          cases fd with
          | false =>
            go_wp2_with fail
            go_meet
            exact ⟨by rw [HME.out]; exact HF2.out (by simp), HB3.out⟩
          | true =>
            have hfs := HF1.out (by simp)
            obtain ⟨x1, hxk⟩ := findS_some hfs
            have hkm : k' < m := by
              rcases Nat.lt_or_ge k' m with h | h
              · exact h
              · rw [List.getElem?_eq_none (by rw [HM.out]; exact h)] at hxk
                cases hxk
            obtain ⟨b, off, hA, hbB, hc⟩ := HX.out (by rw [HM.out]; omega)
            subst hA
            have HDL : Hid ((l.drop k').length = m - k') := Lib.hid (by rw [List.length_drop, HM.out])
            have HDX : Hid (Spans w3 w3.heap.size (some ⟨b, off + k' * 2, none⟩) (l.drop k')) := Lib.hid (fun _ => by
              refine ⟨b, off + k' * 2, rfl, Nat.lt_of_lt_of_le hbB HB33.out.size, fun j z hz => ?_⟩
              rw [List.getElem?_drop] at hz
              obtain ⟨q0, q1⟩ := hc (k' + j) z hz
              have e : off + k' * 2 + j * 2 = off + (k' + j) * 2 := by omega
              rw [e]
              exact ⟨(HB33.out.cell (p := ⟨b, off + (k' + j) * 2, none⟩) hbB).trans q0, (HB33.out.cell (p := ⟨b, off + (k' + j) * 2 + 1, none⟩) hbB).trans q1⟩)
            have HMG : Hid (∀ z ∈ l.drop k', (0 ≤ z.1 + g ∧ z.1 + g ≤ 1000000) ∧ 0 ≤ z.2 + g ∧ z.2 + g ≤ 1000000) := Lib.hid (fun z hz => by
              obtain ⟨j, hj⟩ := List.getElem?_of_mem hz
              rw [List.getElem?_drop] at hj
              have h1 := HWX.out _ z hj
              have h2 : (a : Int) - g ≤ z.1 := by
                rcases Nat.eq_zero_or_pos j with h | h
                · subst h
                  rw [Nat.add_zero, hxk] at hj
                  injection hj with hj
                  rw [← hj]
                  exact Int.le_refl _
                · have := HORD.out k' (k' + j) _ z (by omega) hxk hj
                  simp only at this
                  omega
              omega)
            have HLL : Hid (X ++ (l.drop k').map (shS g) = L ∧ n = N) := Lib.hid (by
              have hme : meetS l t g a = some k' := by rw [HME.out]; exact hfs
              have h1 := HXL.out
              have h2 := HNN.out
              rw [mendL_some HNE.out hme] at h1 h2
              exact ⟨h1, by simpa using h2⟩)
            have HMV := Lib.hid (moved_any g (some ⟨b, off + k' * 2, none⟩) (m - k') (c - k') (l.drop k') w3 HDL.out HDX.out (by omega) HMG.out)
            have hkI : (k' : Int) ≤ (m : Int) := by omega
            have hkc : (k' : Int) ≤ (c : Int) := by omega
            have HX3 := Lib.hid (row_below HOWN.out HB3.out)
            clear hc hxk hfs
            go_wp2_with fail
            refine HMV.out.mono ?_
            rintro e w4 ⟨p4, cap4, rfl, hown4, hb4⟩
            have hlow : ∃ g4, p4 = some ⟨g4, 0, none⟩ ∧ ∀ (j : Nat) (u : Value), (flatS ((l.drop k').map (shS g)))[j]? = some u → w4.cell? ⟨g4, 0 + j, none⟩ = some u := by
              obtain ⟨g4, cap', e, _, _⟩ := hown4.form (by omega : 0 < m - k')
              injection e with e1 _ e3
              subst e1 e3
              refine ⟨g4, rfl, fun j u hu => ?_⟩
              have h := hown4.cells (g := g4) rfl j u hu
              rw [Go.WideShapes.add_plain] at h
              exact h
            obtain ⟨g4, rfl, hcells⟩ := hlow
            have HX4 := Lib.hid (row_below HX3.out hb4)
            have HB4 := Lib.hid (HB33.out.trans (hb4.mono HB33.out.size))
            have HNW : Hid (∀ (j : Nat) (u : Value), (flatS ((l.drop k').map (shS g)))[j]? = some u → w4.cell? ((⟨g4, 0, none⟩ : Addr).add j) = some u) := Lib.hid (fun j u hu => by rw [Go.WideShapes.add_plain]; exact hcells j u hu)
            have HNL : Hid ((flatS ((l.drop k').map (shS g))).length = (m - k') * 2) := Lib.hid (by rw [flatS_len, List.length_map, HDL.out])
            have HNO := Lib.hid (flatS_one (l := (l.drop k').map (shS g)))
            clear hcells hown4 hb4
            go_wp2_with (at_builtin; refine wpList_append_own _ rfl _ _ 33 rfl w.heap.size 36 i0 (.agg #[.int .i64 0, .int .i64 0]) 2 16 Try.underlying33 hi hz0 hz1 hz2 rfl (by omega) (.slice p X.length cap) X.length (flatS X) rfl HX4.out ⟨g4, 0, none⟩ (m - k') cap4 (flatS ((l.drop k').map (shS g))) rfl HNL.out HNW.out HNO.out (by unfold maxLen; omega) (by omega) HB4.out.size ?_; intro v5 w5 hown5 hg5 _)
            have hb5 : Below w.heap.size w w5 := HB4.out.grown hg5 HB4.out.size (fun k hk => (HX4.out.lt k hk).1)
            have hlen : X.length + (m - k') = L.length := by rw [← HLL.out.1, List.length_append, List.length_map, HDL.out]
            rw [hlen, ← flatS_append, HLL.out.1] at hown5
            obtain ⟨p5, cap5, rfl, -, -, -, -⟩ := krow_form hown5
            have HOW5 := Lib.hid hown5
            have HB5 := Lib.hid hb5
            clear hown5 hg5 hb5 hlen
            go_wp2_with fail
            go_ret3
            exact ⟨p5, cap5, by rw [HLL.out.2]; rfl, HOW5.out, HB5.out⟩
        · have HME : Hid (meetS l t g a = none) := Lib.hid (by unfold meetS; rw [if_neg hta])
          go_wp2_with fail
          go_meet
          exact ⟨HME.out, Below.refl _ _⟩
      case rest =>
      obtain ⟨w3, rfl⟩ : ∃ w3, w3 = wc := ⟨_, rfl⟩
      have HMN := Lib.hid hcut.1
      have HB3 := Lib.hid (HBR.out.trans (hcut.2.mono HBR.out.size))
      have HX3 := Lib.hid (row_below HOWN.out hcut.2)
      clear hcut
      obtain ⟨F, hF⟩ : ∃ F, F = firstL R (s.data.toList.drop a) := ⟨_, rfl⟩
      have hF1 : 1 ≤ F := by rw [hF]; exact firstL_pos R _ HNE.out
      have hF2 : F ≤ s.size - a := by
        have h := firstL_le R (s.data.toList.drop a)
        rw [List.length_drop, ← HSZ.out, ← hF] at h
        exact h
      have HMM : Hid (X ++ [((a : Int), ((a + F : Nat) : Int))] ++ (mendL R l t g (a + F) (s.data.toList.drop (a + F))).1 = L ∧ n + 1 + (mendL R l t g (a + F) (s.data.toList.drop (a + F))).2 = N) := Lib.hid (by
        have h1 := HXL.out
        have h2 := HNN.out
        rw [mendL_none HNE.out HMN.out, ← hF, List.drop_drop] at h1 h2
        simp only at h1 h2
        exact ⟨by rw [← h1, List.append_assoc]; rfl, by omega⟩)
      have HFF : Hid (∀ w' : World, Calls Try.prog fN #[rN, .string (s.extract a s.size)] w' fun e w'' => e = .returned (.int .i64 (F : Int)) ∧ Below w'.heap.size w' w'') := Lib.hid (fun w' => by
        have h := K.next (s.extract a s.size) w' (by rw [ByteArray.size_extract]; omega)
        rw [extract_drop, ← hF] at h
        exact h)
      clear hF
      have hna := K.na
      have h0J : Below w3.heap.size w3 w3.drew := (Below.refl _ _).drew
      go_upto_region 11 with fail
      refine wp_region_grow (Below w3.heap.size w3) (by kernel_rfl) (by kernel_rfl) h0J ?_
      iterate 7
        apply grow_step
        · intro w' hw K hK
          go_simp
          exact hK
        · exact ⟨_, rfl, Nat.le_of_ble_eq_true rfl⟩
        · exact ⟨_, h0J⟩
      refine grow_call (fun w' hw => (HFF.out w').mono fun e w'' ⟨he, hb⟩ => ⟨he, hw.trans (hb.mono hw.size)⟩) (by simp [Region.wanted]) (fun w' hw => run_next K rfl rfl rfl w') ?_
      simp only [Act.put, List.setIfInBounds_toArray, List.set_cons_succ, List.set_cons_zero]
      apply grow_step
      · intro w' hw K hK
        go_simp
        exact hK
      · exact ⟨_, rfl, Nat.le_of_ble_eq_true rfl⟩
      · exact ⟨_, h0J⟩
      refine grow_nil ?_
      intro w4 hw4
      have HB4 := Lib.hid (HB3.out.trans (hw4.mono HB3.out.size))
      have HX4 := Lib.hid (row_below HX3.out hw4)
      clear hw4 h0J hna
      have hFI1 : decide ((F : Int) < 1) = false := decide_eq_false (by omega)
      have hFI2 : decide ((s.size : Int) - (a : Int) < (F : Int)) = false := decide_eq_false (by omega)
      go_wp2_with (at_builtin; refine wpList_append_lies _ rfl (.tmp 76) (.tmp 82) 33 rfl w.heap.size 36 i0 (.agg #[.int .i64 0, .int .i64 0]) 2 16 Try.underlying33 hi hz0 hz1 hz2 rfl (by omega) _ X.length _ rfl (HX4.out.alloc _) ⟨w4.heap.size, 0, none⟩ 1 1 [.int .i64 (a : Int), .int .i64 ((a : Int) + (F : Int))] rfl rfl ?c1 ?c2 (by omega) (by unfold maxLen; omega) (by omega) (by have := HB4.out.size; simp; omega) _ rfl ?_)
      case c1 => exact World.news_of_block (heap_alloc_new w4 _)
      case c2 => intro u hu; simp at hu; rcases hu with rfl | rfl <;> rfl
      intro g5 cap5 w5 hown5 hg5 hor5 hlt5
      have hb5 : Below w.heap.size w w5 := (HB4.out.alloc HB4.out.size _).grown hg5 (by have := HB4.out.size; simp; omega) (fun k hk => (HX4.out.lt k hk).1)
      have HB5 := Lib.hid hb5
      have HX5 : Hid (w5.ownsRow w.heap.size 36 2 (.slice (some ⟨g5, 0, none⟩) (X ++ [((a : Int), ((a + F : Nat) : Int))]).length cap5) (X ++ [((a : Int), ((a + F : Nat) : Int))]).length (flatS (X ++ [((a : Int), ((a + F : Nat) : Int))]))) := Lib.hid (by
        rw [flatS_append, List.length_append]
        exact hown5)
      clear hown5 hg5 hor5 hlt5 hb5
      go_wp2_with fail
      go_roundw
      case rel => exact ⟨a + F, n + 1, X ++ [((a : Int), ((a + F : Nat) : Int))], by omega, by omega, by go_num, by go_num, HMM.out.1, HMM.out.2, by simp; omega, by have h := HX5.out; simpa using h, HB5.out⟩
      case measure => simp [intOf]; omega
    · obtain rfl : a = s.size := by omega
      have hnil : s.data.toList.drop s.size = [] := List.drop_eq_nil_of_le (by rw [← HSZ.out]; exact Nat.le_refl _)
      have HLL : Hid (X = L ∧ n = N) := Lib.hid (by
        have h1 := HXL.out
        have h2 := HNN.out
        rw [hnil, mendL_nil] at h1 h2
        exact ⟨by simpa using h1, by simpa using h2⟩)
      obtain ⟨rfl, rfl⟩ := HLL.out
      clear hnil
      go_wp2_with fail
      go_ret3
      exact ⟨p, cap, rfl, HOWN.out, HBR.out⟩
end Go.Proofs.Ytkcjiogackkecaa

namespace Go.Proofs.Ytkcjiogackkecaa
open Go.RowKit

/-- The deferred closure, where nothing panicked. -/
theorem again_idle (p q : Addr) (w : World) :
    CallsD Try.prog 39 #[.pointer (some p), .pointer (some q)] .returning w fun e u' w' => e = .returned (.tuple #[]) ∧ u' = .returning ∧ w' = w := by
  refine callsD_of_wpS Try.func39 rfl fun c₀ cs hu => ?_
  apply wpS_seq
  apply wpS_region
  simp [wpOpsS, go_sem, recoverD, hu, Try.ntmps39, Exit.thenS]
  refine wpS_cond (t := false) (by simp [Act.eval, Array.replicate]) ?_
  simp only [Bool.false_eq_true, if_false]
  refine wpS_of_wp (wp_skip ?_)
  cases c₀
  simp_all [bodyPostS, results, Try.results39]

set_option maxRecDepth 100000 in
set_option maxHeartbeats 1000000 in
theorem sclone_any (A : Option Addr) (m c : Nat) (l : List (Int × Int)) (w : World) (hl : l.length = m) (hx : Spans w w.heap.size A l) (h0 : A = none → m = 0 ∧ c = 0) (hm : m ≤ 1000000) :
    Calls Try.prog 43 #[.slice A m c] w fun e w' => ∃ p cap, e = .returned (.slice p m cap) ∧ w'.ownsRow w.heap.size 36 2 (.slice p m cap) m (flatS l) ∧ Below w.heap.size w w' := by
  obtain ⟨i0, hi, hz0, hz1, hz2⟩ := info_parts hspans_info
  rcases A with _ | ad
  · obtain ⟨rfl, rfl⟩ := h0 rfl
    have hxs : l = [] := List.eq_nil_of_length_eq_zero hl
    subst hxs
    have q : ∀ w, (binOp .eql 33 (.slice none 0 0) (.slice none 0 0)).run Try.prog w = .ok (.bool true) w := fun w => Lib.run_eql_slice_nil w 33 _ none 0 0 0 0 Try.underlying33
    clear hx h0 hl
    go_enter Try.func43, Try.ntmps43
    go_wp2_with fail
    go_ret
    exact ⟨_, _, rfl, World.ownsRow_nil _ _ _ _, Below.refl _ _⟩
  · have hnews : ∀ (j : Nat) (u : Value), (flatS l)[j]? = some u → w.cell? (ad.add j) = some u := by
      intro j u hu
      have hj : 0 < l.length := by
        cases l with
        | nil => simp [flatS] at hu
        | cons _ _ => simp
      obtain ⟨b, off, e, hB, hc⟩ := hx hj
      injection e with e
      subst e
      rw [Go.WideShapes.add_plain]
      exact flatS_cells (f := fun j => w.cell? ⟨b, off + j, none⟩) (fun j x hx => hc j x hx) j u hu
    have HO := Lib.hid (flatS_one (l := l))
    have HE : Hid ((w.alloc (.cells #[] 36)).ownsRow w.heap.size 36 2 (.slice (some ⟨w.heap.size, 0, none⟩) 0 0) 0 []) := Lib.hid (World.ownsRow_made w #[] 0 (Nat.le_refl _) (by decide) rfl)
    have HC : Hid ((flatS l).length = m * 2) := Lib.hid (by rw [flatS_len, hl])
    have HB : Hid (Below w.heap.size w (w.alloc (.cells #[] 36))) := Lib.hid ((Below.refl _ _).alloc (Nat.le_refl _) _)
    have HNN : Hid (∀ (j : Nat) (u : Value), (flatS l)[j]? = some u → (w.alloc (.cells #[] 36)).cell? (ad.add j) = some u) := Lib.hid (fun j u hu => by
      have h1 := hnews j u hu
      have hlt := World.block_lt_of_cell? w _ h1
      rw [World.cell?_of_block (Below.heap_alloc w _ _ hlt)]
      exact h1)
    have q : ∀ w, (binOp .eql 33 (.slice (some ad) m c) (.slice none 0 0)).run Try.prog w = .ok (.bool false) w := fun w => Lib.run_eql_slice_nil w 33 _ (some ad) m c 0 0 Try.underlying33
    clear hx h0 hl hnews
    go_enter Try.func43, Try.ntmps43
    go_wp2_with (at_builtin; refine wpList_append_own _ rfl _ _ 33 rfl w.heap.size 36 i0 (.agg #[.int .i64 0, .int .i64 0]) 2 16 Try.underlying33 hi hz0 hz1 hz2 rfl (by omega) (.slice (some ⟨w.heap.size, 0, none⟩) 0 0) 0 [] rfl HE.out ad m c (flatS l) rfl HC.out HNN.out HO.out (by unfold maxLen; omega) (by omega) (by simp) ?_; intro v1 w1 hown1 hg1 _)
    have hb1 : Below w.heap.size w w1 := HB.out.grown hg1 (by simp) (by simp [Value.ownBlock])
    have hown2 : w1.ownsRow w.heap.size 36 2 v1 m (flatS l) := by simpa using hown1
    obtain ⟨p, cap, rfl, -, -, -, -⟩ := krow_form hown2
    have HOW := Lib.hid hown2
    clear hown1 hown2 hg1
    go_ret
    exact ⟨p, cap, rfl, HOW.out, hb1⟩

variable {T : TypeId} {x : Value} {R : RuleN} {fN fC : FuncId} {rN rC : Value}
theorem stay_le {l : List (Int × Int)} {a S : Int} {same : Bool} (h0 : 0 ≤ S) (ha : a ≤ S) : stayAt l (stayN l a same) ≤ S := by
  have hk := stayN_le l a same
  cases h : stayN l a same with
  | zero => exact h0
  | succ j =>
    show ((l[j]?).map (·.2)).getD 0 ≤ S
    cases hj : l[j]? with
    | none => exact h0
    | some x =>
      have h1 := take_while_get (fun x : Int × Int => decide (x.2 ≤ a)) l j x (by unfold aheadN at hk; omega) hj
      simp at h1
      show x.2 ≤ S
      omega
/-- The way out: the closure finds nothing, and the results are read. -/
theorem again_door {R' : Ending → World → Prop} {t : Array Value} {g0 n1 : Nat} {q : Option Addr} {n cap : Nat} {W : World} (h12 : t[12]?.getD undef = .pointer (some ⟨g0, 0, none⟩)) (h13 : t[13]?.getD undef = .pointer (some ⟨g0 + 1, 0, none⟩))
    (c0 : W.cell? ⟨g0, 0, none⟩ = some (.slice q n cap)) (c1 : W.cell? ⟨g0 + 1, 0, none⟩ = some (.int .i64 (n1 : Int))) (hR : R' (.returned (.tuple #[.slice q n cap, .int .i64 (n1 : Int)])) W) :
    bodyPostD Try.prog Try.f25 R' Exit.ret { tmps := t, defers := [{ target := Target.fn (Fn.func 39) #[.pointer (some ⟨g0, 0, none⟩), .pointer (some ⟨g0 + 1, 0, none⟩)], args := #[] }] } W := by
  refine leaves_cons (f := 39) (args := #[.pointer (some ⟨g0, 0, none⟩), .pointer (some ⟨g0 + 1, 0, none⟩)]) (by simp) (by simp [go_sem]) ?_
  refine (again_idle ⟨g0, 0, none⟩ ⟨g0 + 1, 0, none⟩ W).mono ?_
  rintro e u' w'' ⟨rfl, rfl, rfl⟩
  simp [Leaves, settle, results, Try.results25, go_sem, h12, h13, c0, c1]
  exact hR
set_option maxRecDepth 100000 in
set_option maxHeartbeats 8000000 in
theorem again_any (K : CutterIs T x R fN fC rN rC) (A : Option Addr) (m c : Nat) (l : List (Int × Int)) (s : ByteArray) (a b g : Int) (w : World) (hm : l.length = m) (hx : Spans w w.heap.size A l) (hl : m ≤ 900000) (hmc : m ≤ c) (hc0 : A = none → m = 0 ∧ c = 0) (hs : s.size ≤ 1000000)
    (ha : -9223372036854775808 ≤ a ∧ a ≤ 9223372036854775807) (hb : -9223372036854775808 ≤ b ∧ b ≤ 9223372036854775807) (hg : -9223372036854775808 ≤ g ∧ g ≤ 9223372036854775807) (hlb : ∀ x ∈ l, x.2 ≤ 9223372036854775807) :
    Calls Try.prog 25 #[.iface T x, .slice A m c, .string s, .int .i64 a, .int .i64 b, .int .i64 g] w fun e w' => ∃ p cap, e = .returned (.tuple #[.slice p (againL R l s.data.toList a b g).1.length cap, .int .i64 ((againL R l s.data.toList a b g).2 : Int)]) ∧
      w'.ownsRow w.heap.size 36 2 (.slice p (againL R l s.data.toList a b g).1.length cap) (againL R l s.data.toList a b g).1.length (flatS (againL R l s.data.toList a b g).1) ∧ Below w.heap.size w w' := by
  obtain ⟨L, hL⟩ : ∃ L, L = againL R l s.data.toList a b g := ⟨_, rfl⟩
  rw [← hL]
  obtain ⟨w0, hw0⟩ : ∃ w0, w0 = (w.alloc (.cells #[.slice none 0 0] 33)).alloc (.cells #[.int .i64 0] 3) := ⟨_, rfl⟩
  have hb0 : Below w.heap.size w w0 := by rw [hw0]; exact ((Below.refl _ _).alloc (Nat.le_refl _) _).alloc (by simp) _
  have hsz0 : w0.heap.size = w.heap.size + 2 := by rw [hw0]; simp
  have hbk0 : Blk w0 w.heap.size 33 #[.slice none 0 0] := by
    rw [hw0]
    exact (Blk.new w _ _).below ((Below.refl _ _).alloc (Nat.le_refl _) _) (by simp)
  have hbk1 : Blk w0 (w.heap.size + 1) 3 #[.int .i64 0] := by
    rw [hw0]
    have h := Blk.new (w.alloc (.cells #[.slice none 0 0] 33)) 3 #[.int .i64 0]
    rw [show (w.alloc (.cells #[.slice none 0 0] 33)).heap.size = w.heap.size + 1 by simp] at h
    exact h
  have HX0 : Hid (Spans w0 w0.heap.size A l) := Lib.hid ((hx.below hb0).more hb0.size)
  have HMAY := Lib.hid (may_any a b g s.size A m c l w0 hm HX0.out (by omega) hs ha hb hg hlb)
  have HB0 := Lib.hid hb0
  have HW0 := Lib.hid hw0
  have HSZ0 := Lib.hid hsz0
  have HBK0 := Lib.hid hbk0
  have HBK1 := Lib.hid hbk1
  have HM := Lib.hid hm
  have HLB := Lib.hid hlb
  have HC0 := Lib.hid hc0
  have HL := Lib.hid hL
  clear hL hb0 hsz0 hbk0 hbk1 hx hm hlb hc0
  have hmf : ∀ (fn : Fn) (first cap : Array Value) (w : World), (Instr.makeFunc fn first cap).run Try.prog w = .ok (.func fn first cap) w := fun _ _ _ _ => rfl
  have hq : ∀ (w : World), (binOp .eql 29 (.iface T x) .nilIface).run Try.prog w = .ok (.bool false) w := fun w => by rfl
  go_enter_defers Try.func25, Try.ntmps25
  go_upto_region 4 with fail
  rw [← hw0]
  clear hw0
  cases hV : mayB l s.size a b g with
  | false =>
    have hm2 := HMAY.out
    rw [hV] at hm2
    have HM2 := Lib.hid hm2
    have HLB2 : Hid (L = (cutL R 0 s.data.toList, (cutL R 0 s.data.toList).length)) := Lib.hid (by
      rw [HL.out, again_bad]
      rw [← Lib.size_eq]
      exact hV)
    clear hV hm2 HMAY HL
    have hmC := K.mC
    have hcC := K.cC
    have HCUT : Hid (∀ (w' : World) (p : Nat), Blk w' p 9 #[.string s] → Calls Try.prog fC #[rC, .slice (some ⟨p, 0, none⟩) 1 1] w' fun e w'' => ∃ q cap, e = .returned (.slice q L.1.length cap) ∧ w''.ownsRow w'.heap.size 36 2 (.slice q L.1.length cap) L.1.length (flatS L.1) ∧ Below w'.heap.size w' w'') := Lib.hid (fun w' p hp => by
      have e1 : cats [s] = s.data.toList := by simp [cats]
      have h := K.cut (some ⟨p, 0, none⟩) 1 1 [s] w' rfl (fun _ => ⟨p, 0, rfl, hp.lt, fun j z hz => by
        cases j with
        | zero => simp at hz; subst hz; exact hp.cell 0
        | succ j => simp at hz⟩) (by omega) (Nat.le_refl _) (by rw [e1, ← Lib.size_eq]; exact hs)
      rw [e1] at h
      rw [HLB2.out]
      exact h)
    go_wp2_with fail
    refine HM2.out.mono ?_
    rintro e w1 ⟨rfl, hb1⟩
    have HB1 := Lib.hid hb1
    clear hb1
    go_wp2_with fail
    have hba : Below w1.heap.size w1 (w1.alloc (.cells #[.string s] 9)) := (Below.refl _ _).alloc (Nat.le_refl _) _
    refine (HCUT.out (w1.alloc (.cells #[.string s] 9)) w1.heap.size (Blk.new w1 _ _)).mono ?_
    rintro e w2 ⟨q, cap, rfl, hown2, hb2⟩
    have HB2 : Hid (Below w0.heap.size w0 w2) := Lib.hid ((HB1.out.trans (hba.mono HB1.out.size)).trans (hb2.mono (Nat.le_trans HB1.out.size hba.size)))
    obtain ⟨q2, cap2, e2, -, -, hqn, -⟩ := krow_form hown2
    have HCL := Lib.hid (sclone_any q L.1.length cap L.1 w2 rfl (row_spans hown2) (fun h => by
      subst h
      rcases hown2.2 with ⟨h1, _⟩ | ⟨g', c', cur, h1, _⟩
      · injection h1 with _ h1 h2
        exact ⟨h1, h2⟩
      · cases h1) (by rw [HLB2.out]; have := cutL_few R 0 s.data.toList; rw [← Lib.size_eq] at this; exact Nat.le_trans this hs))
    clear hown2 hb2 hba e2 hqn
    go_wp2_with fail
    refine HCL.out.mono ?_
    rintro e w3 ⟨q3, cap3, rfl, hown3, hb3⟩
    have HB3 := Lib.hid (HB2.out.trans (hb3.mono HB2.out.size))
    have HOW3 := Lib.hid (row_lower hown3 HB2.out.size)
    clear hown3 hb3
    have k0 := HBK0.out.below HB3.out HBK0.out.lt
    have k1 := HBK1.out.below HB3.out HBK1.out.lt
    have c0 : w3.cell? ⟨w.heap.size, 0, none⟩ = some (.slice none 0 0) := k0.cell 0
    have z0 : w3.frozen? ⟨w.heap.size, 0, none⟩ = false := k0.frozen 0
    have c1 : w3.cell? ⟨w.heap.size + 1, 0, none⟩ = some (.int .i64 0) := k1.cell 0
    have z1 : w3.frozen? ⟨w.heap.size + 1, 0, none⟩ = false := k1.frozen 0
    have HK0 := Lib.hid k0
    have HK1 := Lib.hid k1
    clear k0 k1
    go_wp2_with fail
    have W1 := (HK0.out.put 0 (.slice q3 L.1.length cap3)).far (p := ⟨w.heap.size + 1, 0, none⟩) (by simp) (.int .i64 (L.1.length : Int))
    have W2 := (HK1.out.far (p := ⟨w.heap.size, 0, none⟩) (by simp) (.slice q3 L.1.length cap3)).put 0 (.int .i64 (L.1.length : Int))
    refine again_door rfl rfl (W1.cell 0) (W2.cell 0) ⟨q3, cap3, by rw [HLB2.out], ?_, ?_⟩
    · refine row_kept' (row_lower HOW3.out HB0.out.size) fun k hk => ?_
      have hk2 := (HOW3.out.lt k hk).1
      rw [HSZ0.out] at hk2
      rw [Below.heap_setCell _ _ _ _ (by simp; omega), Below.heap_setCell _ _ _ _ (by simp; omega)]
    · exact ((HB0.out.trans (HB3.out.mono HB0.out.size)).setCell (Nat.le_refl _) _).setCell (by simp) _
  | true =>
    have hm2 := HMAY.out
    rw [hV] at hm2
    have HM2 := Lib.hid hm2
    have hparts : wholeB ((s.size : Int) - g) l = true ∧ 0 ≤ a ∧ a ≤ b ∧ b ≤ (s.size : Int) ∧ a ≤ b - g := by
      unfold mayB at hV
      simp only [Bool.and_eq_true, decide_eq_true_eq] at hV
      exact ⟨hV.1.1.1.1, hV.1.1.1.2, hV.1.1.2, hV.1.2, hV.2⟩
    obtain ⟨same, hsame⟩ : ∃ same : Bool, same = (decide (a = b) && decide (g = 0)) := ⟨_, rfl⟩
    obtain ⟨k, hk⟩ : ∃ k, k = stayN l a same := ⟨_, rfl⟩
    have HLB2 : Hid (L = (l.take k ++ (mendL R l b g (stayAt l k).toNat (s.data.toList.drop (stayAt l k).toNat)).1, (mendL R l b g (stayAt l k).toNat (s.data.toList.drop (stayAt l k).toNat)).2)) := Lib.hid (by
      rw [HL.out]
      unfold againL
      rw [if_pos (by rw [← Lib.size_eq]; exact hV), ← hsame, ← hk])
    have hkm : k ≤ m := by
      rw [hk, ← HM.out]
      exact Nat.le_trans (stayN_le l a same) (aheadN_le l a)
    have hnm : (s.size : Int) - g ≤ 9223372036854775807 := by
      obtain ⟨q0, _, _, q4⟩ := wholeB_in hparts.1
      by_cases hl0 : l = []
      · have h := hparts.1
        subst hl0
        unfold wholeB wholeEnd at h
        simp at h
        omega
      · obtain ⟨z, hz1, hz2⟩ := q4 hl0
        have := HLB.out z hz1
        omega
    have hst := stay_le (l := l) (a := a) (S := (s.size : Int)) (same := same) (by omega) (by omega)
    rw [← hk] at hst
    have HST := Lib.hid hst
    have HK := Lib.hid hk
    have HSM := Lib.hid hsame
    have HPT := Lib.hid hparts
    clear hV hm2 HMAY HL hk hsame hparts hst
    go_wp2_with fail
    refine HM2.out.mono ?_
    rintro e w1 ⟨rfl, hb1⟩
    have HB1 := Lib.hid hb1
    clear hb1
    go_upto_region 5 with fail
    go_cut [14] from 29 to 38 (fun v wx => v = .int .i64 (k : Int) ∧ wx = w1)
    case first =>
      have HAH := Lib.hid (ahead_any a same A m c l w1 HM.out ((HX0.out.below HB1.out).more HB1.out.size) (by omega))
      rw [← HK.out] at HAH
      by_cases hab : a = b
      · subst hab
        by_cases hg0 : g = 0
        · subst hg0
          have e : same = true := by rw [HSM.out]; simp
          subst e
          go_wp2_with fail
          refine HAH.out.mono ?_
          rintro e w2 ⟨rfl, rfl⟩
          go_wp2_with fail
          go_meet
          exact ⟨rfl, rfl⟩
        · have e : same = false := by rw [HSM.out]; simp [hg0]
          have d : (g == 0) = false := by simpa using hg0
          subst e
          go_wp2_with fail
          refine HAH.out.mono ?_
          rintro e w2 ⟨rfl, rfl⟩
          go_wp2_with fail
          go_meet
          exact ⟨rfl, rfl⟩
      · have e : same = false := by rw [HSM.out]; simp [hab]
        have d : (a == b) = false := by simpa using hab
        subst e
        go_wp2_with fail
        refine HAH.out.mono ?_
        rintro e w2 ⟨rfl, rfl⟩
        go_wp2_with fail
        go_meet
        exact ⟨rfl, rfl⟩
    case rest =>
    obtain ⟨w2, rfl⟩ : ∃ w2, w2 = wc := ⟨_, rfl⟩
    obtain ⟨rfl, rfl⟩ := hcut
    have HME := Lib.hid (mend_any K A m c l k s b g w2 HM.out ((HX0.out.below HB1.out).more HB1.out.size) (by omega) hmc (fun h => (HC0.out h).2) hkm hs hg.1 HPT.out.1 hnm HST.out)
    go_wp2_with fail
    refine HME.out.mono ?_
    rintro e w3 ⟨q3, cap3, rfl, hown3, hb3⟩
    have hfst : l.take k ++ (mendL R l b g (stayAt l k).toNat (s.data.toList.drop (stayAt l k).toNat)).1 = L.1 := by rw [HLB2.out]
    have hsnd : (mendL R l b g (stayAt l k).toNat (s.data.toList.drop (stayAt l k).toNat)).2 = L.2 := by rw [HLB2.out]
    rw [hfst] at hown3 ⊢
    rw [hsnd]
    have HB3 := Lib.hid (HB1.out.trans (hb3.mono HB1.out.size))
    have HOW3 := Lib.hid (row_lower hown3 HB1.out.size)
    clear hown3 hb3 hfst hsnd
    have k0 := HBK0.out.below HB3.out HBK0.out.lt
    have k1 := HBK1.out.below HB3.out HBK1.out.lt
    have c0 : w3.cell? ⟨w.heap.size, 0, none⟩ = some (.slice none 0 0) := k0.cell 0
    have z0 : w3.frozen? ⟨w.heap.size, 0, none⟩ = false := k0.frozen 0
    have c1 : w3.cell? ⟨w.heap.size + 1, 0, none⟩ = some (.int .i64 0) := k1.cell 0
    have z1 : w3.frozen? ⟨w.heap.size + 1, 0, none⟩ = false := k1.frozen 0
    have HK0 := Lib.hid k0
    have HK1 := Lib.hid k1
    clear k0 k1
    go_wp2_with fail
    have W1 := (HK0.out.put 0 (.slice q3 L.1.length cap3)).far (p := ⟨w.heap.size + 1, 0, none⟩) (by simp) (.int .i64 (L.2 : Int))
    have W2 := (HK1.out.far (p := ⟨w.heap.size, 0, none⟩) (by simp) (.slice q3 L.1.length cap3)).put 0 (.int .i64 (L.2 : Int))
    refine again_door rfl rfl (W1.cell 0) (W2.cell 0) ⟨q3, cap3, rfl, ?_, ?_⟩
    · refine row_kept' (row_lower HOW3.out HB0.out.size) fun k hk => ?_
      have hk2 := (HOW3.out.lt k hk).1
      rw [HSZ0.out] at hk2
      rw [Below.heap_setCell _ _ _ _ (by simp; omega), Below.heap_setCell _ _ _ _ (by simp; omega)]
    · exact ((HB0.out.trans (HB3.out.mono HB0.out.size)).setCell (Nat.le_refl _) _).setCell (by simp) _
/-- The same, of cuts that lie in a row of their own. -/
theorem again_row (K : CutterIs T x R fN fC rN rC) {p : Option Addr} {c B : Nat} {l : List (Int × Int)} {s : ByteArray} {a b g : Int} {w : World} (hr : w.ownsRow B 36 2 (.slice p l.length c) l.length (flatS l)) (hl : l.length ≤ 900000) (hs : s.size ≤ 1000000)
    (ha : -9223372036854775808 ≤ a ∧ a ≤ 9223372036854775807) (hb : -9223372036854775808 ≤ b ∧ b ≤ 9223372036854775807) (hg : -9223372036854775808 ≤ g ∧ g ≤ 9223372036854775807) (hlb : ∀ x ∈ l, x.2 ≤ 9223372036854775807) :
    Calls Try.prog 25 #[.iface T x, .slice p l.length c, .string s, .int .i64 a, .int .i64 b, .int .i64 g] w fun e w' => ∃ q cap, e = .returned (.tuple #[.slice q (againL R l s.data.toList a b g).1.length cap, .int .i64 ((againL R l s.data.toList a b g).2 : Int)]) ∧
      w'.ownsRow w.heap.size 36 2 (.slice q (againL R l s.data.toList a b g).1.length cap) (againL R l s.data.toList a b g).1.length (flatS (againL R l s.data.toList a b g).1) ∧ Below w.heap.size w w' := by
  obtain ⟨p2, c2, e2, hcp, -, -, -⟩ := krow_form hr
  have e3 : p2 = p ∧ c2 = c := by injection e2 with e4 e5 e6; exact ⟨e4.symm, e6.symm⟩
  obtain ⟨rfl, rfl⟩ := e3
  exact again_any K p2 l.length c2 l s a b g w rfl (row_spans hr) hl hcp (fun e => by
    subst e
    rcases hr.2 with ⟨h3, _⟩ | ⟨g', c', cur, h3, _⟩
    · injection h3 with _ h4 h5
      exact ⟨h4, h5⟩
    · cases h3) hs ha hb hg hlb
end Go.Proofs.Ytkcjiogackkecaa
