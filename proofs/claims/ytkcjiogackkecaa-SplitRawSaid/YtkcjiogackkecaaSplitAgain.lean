/-
  Package split: Again, by a cutter behind an interface. No statement is proved here.
-/
import Derived.Test.YtkcjiogackkecaaSplitMend
import Derived.Defers
import Derived.Recover
namespace Go.Proofs.Ytkcjiogackkecaa
open Go.RowKit

/-- The deferred closure, where nothing panicked. -/
theorem again_idle (p q : Addr) (w : World) :
    CallsD Try.prog 39 #[.pointer (some p), .pointer (some q)] .returning w fun e u' w' => e = .returned (.tuple #[]) ∧ u' = .returning ∧ w' = w := by
  refine callsD_of_wpS Try.func39 rfl fun c₀ cs hu => ?_
  apply wpS_seq
  apply wpS_region
  simp [wpOpsS, go_sem, recoverD, hu, Try.ntmps39, Exit.thenS]
  refine wpS_cond (t := false) (by simp [Act.eval, Array.replicate]) ?_
  simp only [Bool.false_eq_true, if_false]
  refine wpS_of_wp (wp_skip ?_)
  cases c₀
  simp_all [bodyPostS, results, Try.results39]

set_option maxRecDepth 100000 in
set_option maxHeartbeats 1000000 in
theorem sclone_any (A : Option Addr) (m c : Nat) (l : List (Int × Int)) (w : World) (hl : l.length = m) (hx : Spans w w.heap.size A l) (h0 : A = none → m = 0 ∧ c = 0) (hm : m ≤ 1000000) :
    Calls Try.prog 43 #[.slice A m c] w fun e w' => ∃ p cap, e = .returned (.slice p m cap) ∧ w'.ownsRow w.heap.size 36 2 (.slice p m cap) m (flatS l) ∧ Below w.heap.size w w' := by
  obtain ⟨i0, hi, hz0, hz1, hz2⟩ := info_parts hspans_info
  rcases A with _ | ad
  · obtain ⟨rfl, rfl⟩ := h0 rfl
    have hxs : l = [] := List.eq_nil_of_length_eq_zero hl
    subst hxs
    have q : ∀ w, (binOp .eql 33 (.slice none 0 0) (.slice none 0 0)).run Try.prog w = .ok (.bool true) w := fun w => Lib.run_eql_slice_nil w 33 _ none 0 0 0 0 Try.underlying33
    clear hx h0 hl
    go_enter Try.func43, Try.ntmps43
    go_wp2_with fail
    go_ret
    exact ⟨_, _, rfl, World.ownsRow_nil _ _ _ _, Below.refl _ _⟩
  · have hnews : ∀ (j : Nat) (u : Value), (flatS l)[j]? = some u → w.cell? (ad.add j) = some u := by
      intro j u hu
      have hj : 0 < l.length := by
        cases l with
        | nil => simp [flatS] at hu
        | cons _ _ => simp
      obtain ⟨b, off, e, hB, hc⟩ := hx hj
      injection e with e
      subst e
      rw [Go.WideShapes.add_plain]
      exact flatS_cells (f := fun j => w.cell? ⟨b, off + j, none⟩) (fun j x hx => hc j x hx) j u hu
    have HO := Lib.hid (flatS_one (l := l))
    have HE : Hid ((w.alloc (.cells #[] 36)).ownsRow w.heap.size 36 2 (.slice (some ⟨w.heap.size, 0, none⟩) 0 0) 0 []) := Lib.hid (World.ownsRow_made w #[] 0 (Nat.le_refl _) (by decide) rfl)
    have HC : Hid ((flatS l).length = m * 2) := Lib.hid (by rw [flatS_len, hl])
    have HB : Hid (Below w.heap.size w (w.alloc (.cells #[] 36))) := Lib.hid ((Below.refl _ _).alloc (Nat.le_refl _) _)
    have HNN : Hid (∀ (j : Nat) (u : Value), (flatS l)[j]? = some u → (w.alloc (.cells #[] 36)).cell? (ad.add j) = some u) := Lib.hid (fun j u hu => by
      have h1 := hnews j u hu
      have hlt := World.block_lt_of_cell? w _ h1
      rw [World.cell?_of_block (Below.heap_alloc w _ _ hlt)]
      exact h1)
    have q : ∀ w, (binOp .eql 33 (.slice (some ad) m c) (.slice none 0 0)).run Try.prog w = .ok (.bool false) w := fun w => Lib.run_eql_slice_nil w 33 _ (some ad) m c 0 0 Try.underlying33
    clear hx h0 hl hnews
    go_enter Try.func43, Try.ntmps43
    go_wp2_with (at_builtin; refine wpList_append_own _ rfl _ _ 33 rfl w.heap.size 36 i0 (.agg #[.int .i64 0, .int .i64 0]) 2 16 Try.underlying33 hi hz0 hz1 hz2 rfl (by omega) (.slice (some ⟨w.heap.size, 0, none⟩) 0 0) 0 [] rfl HE.out ad m c (flatS l) rfl HC.out HNN.out HO.out (by unfold maxLen; omega) (by omega) (by simp) ?_; intro v1 w1 hown1 hg1 _)
    have hb1 : Below w.heap.size w w1 := HB.out.grown hg1 (by simp) (by simp [Value.ownBlock])
    have hown2 : w1.ownsRow w.heap.size 36 2 v1 m (flatS l) := by simpa using hown1
    obtain ⟨p, cap, rfl, -, -, -, -⟩ := krow_form hown2
    have HOW := Lib.hid hown2
    clear hown1 hown2 hg1
    go_ret
    exact ⟨p, cap, rfl, HOW.out, hb1⟩

variable {T : TypeId} {x : Value} {R : RuleN} {fN fC : FuncId} {rN rC : Value}
theorem stay_le {l : List (Int × Int)} {a S : Int} {same : Bool} (h0 : 0 ≤ S) (ha : a ≤ S) : stayAt l (stayN l a same) ≤ S := by
  have hk := stayN_le l a same
  cases h : stayN l a same with
  | zero => exact h0
  | succ j =>
    show ((l[j]?).map (·.2)).getD 0 ≤ S
    cases hj : l[j]? with
    | none => exact h0
    | some x =>
      have h1 := take_while_get (fun x : Int × Int => decide (x.2 ≤ a)) l j x (by unfold aheadN at hk; omega) hj
      simp at h1
      show x.2 ≤ S
      omega
/-- The way out: the closure finds nothing, and the results are read. -/
theorem again_door {R' : Ending → World → Prop} {t : Array Value} {g0 n1 : Nat} {q : Option Addr} {n cap : Nat} {W : World} (h12 : t[12]?.getD undef = .pointer (some ⟨g0, 0, none⟩)) (h13 : t[13]?.getD undef = .pointer (some ⟨g0 + 1, 0, none⟩))
    (c0 : W.cell? ⟨g0, 0, none⟩ = some (.slice q n cap)) (c1 : W.cell? ⟨g0 + 1, 0, none⟩ = some (.int .i64 (n1 : Int))) (hR : R' (.returned (.tuple #[.slice q n cap, .int .i64 (n1 : Int)])) W) :
    bodyPostD Try.prog Try.f25 R' Exit.ret { tmps := t, defers := [{ target := Target.fn (Fn.func 39) #[.pointer (some ⟨g0, 0, none⟩), .pointer (some ⟨g0 + 1, 0, none⟩)], args := #[] }] } W := by
  refine leaves_cons (f := 39) (args := #[.pointer (some ⟨g0, 0, none⟩), .pointer (some ⟨g0 + 1, 0, none⟩)]) (by simp) (by simp [go_sem]) ?_
  refine (again_idle ⟨g0, 0, none⟩ ⟨g0 + 1, 0, none⟩ W).mono ?_
  rintro e u' w'' ⟨rfl, rfl, rfl⟩
  simp [Leaves, settle, results, Try.results25, go_sem, h12, h13, c0, c1]
  exact hR
set_option maxRecDepth 100000 in
set_option maxHeartbeats 8000000 in
theorem again_any (K : CutterIs T x R fN fC rN rC) (A : Option Addr) (m c : Nat) (l : List (Int × Int)) (s : ByteArray) (a b g : Int) (w : World) (hm : l.length = m) (hx : Spans w w.heap.size A l) (hl : m ≤ 900000) (hmc : m ≤ c) (hc0 : A = none → m = 0 ∧ c = 0) (hs : s.size ≤ 1000000)
    (ha : -9223372036854775808 ≤ a ∧ a ≤ 9223372036854775807) (hb : -9223372036854775808 ≤ b ∧ b ≤ 9223372036854775807) (hg : -9223372036854775808 ≤ g ∧ g ≤ 9223372036854775807) (hlb : ∀ x ∈ l, x.2 ≤ 9223372036854775807) :
    Calls Try.prog 25 #[.iface T x, .slice A m c, .string s, .int .i64 a, .int .i64 b, .int .i64 g] w fun e w' => ∃ p cap, e = .returned (.tuple #[.slice p (againL R l s.data.toList a b g).1.length cap, .int .i64 ((againL R l s.data.toList a b g).2 : Int)]) ∧
      w'.ownsRow w.heap.size 36 2 (.slice p (againL R l s.data.toList a b g).1.length cap) (againL R l s.data.toList a b g).1.length (flatS (againL R l s.data.toList a b g).1) ∧ Below w.heap.size w w' := by
  obtain ⟨L, hL⟩ : ∃ L, L = againL R l s.data.toList a b g := ⟨_, rfl⟩
  rw [← hL]
  obtain ⟨w0, hw0⟩ : ∃ w0, w0 = (w.alloc (.cells #[.slice none 0 0] 33)).alloc (.cells #[.int .i64 0] 3) := ⟨_, rfl⟩
  have hb0 : Below w.heap.size w w0 := by rw [hw0]; exact ((Below.refl _ _).alloc (Nat.le_refl _) _).alloc (by simp) _
  have hsz0 : w0.heap.size = w.heap.size + 2 := by rw [hw0]; simp
  have hbk0 : Blk w0 w.heap.size 33 #[.slice none 0 0] := by
    rw [hw0]
    exact (Blk.new w _ _).below ((Below.refl _ _).alloc (Nat.le_refl _) _) (by simp)
  have hbk1 : Blk w0 (w.heap.size + 1) 3 #[.int .i64 0] := by
    rw [hw0]
    have h := Blk.new (w.alloc (.cells #[.slice none 0 0] 33)) 3 #[.int .i64 0]
    rw [show (w.alloc (.cells #[.slice none 0 0] 33)).heap.size = w.heap.size + 1 by simp] at h
    exact h
  have HX0 : Hid (Spans w0 w0.heap.size A l) := Lib.hid ((hx.below hb0).more hb0.size)
  have HMAY := Lib.hid (may_any a b g s.size A m c l w0 hm HX0.out (by omega) hs ha hb hg hlb)
  have HB0 := Lib.hid hb0
  have HW0 := Lib.hid hw0
  have HSZ0 := Lib.hid hsz0
  have HBK0 := Lib.hid hbk0
  have HBK1 := Lib.hid hbk1
  have HM := Lib.hid hm
  have HLB := Lib.hid hlb
  have HC0 := Lib.hid hc0
  have HL := Lib.hid hL
  clear hL hb0 hsz0 hbk0 hbk1 hx hm hlb hc0
  have hmf : ∀ (fn : Fn) (first cap : Array Value) (w : World), (Instr.makeFunc fn first cap).run Try.prog w = .ok (.func fn first cap) w := fun _ _ _ _ => rfl
  have hq : ∀ (w : World), (binOp .eql 29 (.iface T x) .nilIface).run Try.prog w = .ok (.bool false) w := fun w => by rfl
  go_enter_defers Try.func25, Try.ntmps25
  go_upto_region 4 with fail
  rw [← hw0]
  clear hw0
  cases hV : mayB l s.size a b g with
  | false =>
    have hm2 := HMAY.out
    rw [hV] at hm2
    have HM2 := Lib.hid hm2
    have HLB2 : Hid (L = (cutL R 0 s.data.toList, (cutL R 0 s.data.toList).length)) := Lib.hid (by
      rw [HL.out, again_bad]
      rw [← Lib.size_eq]
      exact hV)
    clear hV hm2 HMAY HL
    have hmC := K.mC
    have hcC := K.cC
    have HCUT : Hid (∀ (w' : World) (p : Nat), Blk w' p 9 #[.string s] → Calls Try.prog fC #[rC, .slice (some ⟨p, 0, none⟩) 1 1] w' fun e w'' => ∃ q cap, e = .returned (.slice q L.1.length cap) ∧ w''.ownsRow w'.heap.size 36 2 (.slice q L.1.length cap) L.1.length (flatS L.1) ∧ Below w'.heap.size w' w'') := Lib.hid (fun w' p hp => by
      have e1 : cats [s] = s.data.toList := by simp [cats]
      have h := K.cut (some ⟨p, 0, none⟩) 1 1 [s] w' rfl (fun _ => ⟨p, 0, rfl, hp.lt, fun j z hz => by
        cases j with
        | zero => simp at hz; subst hz; exact hp.cell 0
        | succ j => simp at hz⟩) (by omega) (Nat.le_refl _) (by rw [e1, ← Lib.size_eq]; exact hs)
      rw [e1] at h
      rw [HLB2.out]
      exact h)
    go_wp2_with fail
    refine HM2.out.mono ?_
    rintro e w1 ⟨rfl, hb1⟩
    have HB1 := Lib.hid hb1
    clear hb1
    go_wp2_with fail
    have hba : Below w1.heap.size w1 (w1.alloc (.cells #[.string s] 9)) := (Below.refl _ _).alloc (Nat.le_refl _) _
    refine (HCUT.out (w1.alloc (.cells #[.string s] 9)) w1.heap.size (Blk.new w1 _ _)).mono ?_
    rintro e w2 ⟨q, cap, rfl, hown2, hb2⟩
    have HB2 : Hid (Below w0.heap.size w0 w2) := Lib.hid ((HB1.out.trans (hba.mono HB1.out.size)).trans (hb2.mono (Nat.le_trans HB1.out.size hba.size)))
    obtain ⟨q2, cap2, e2, -, -, hqn, -⟩ := krow_form hown2
    have HCL := Lib.hid (sclone_any q L.1.length cap L.1 w2 rfl (row_spans hown2) (fun h => by
      subst h
      rcases hown2.2 with ⟨h1, _⟩ | ⟨g', c', cur, h1, _⟩
      · injection h1 with _ h1 h2
        exact ⟨h1, h2⟩
      · cases h1) (by rw [HLB2.out]; have := cutL_few R 0 s.data.toList; rw [← Lib.size_eq] at this; exact Nat.le_trans this hs))
    clear hown2 hb2 hba e2 hqn
    go_wp2_with fail
    refine HCL.out.mono ?_
    rintro e w3 ⟨q3, cap3, rfl, hown3, hb3⟩
    have HB3 := Lib.hid (HB2.out.trans (hb3.mono HB2.out.size))
    have HOW3 := Lib.hid (row_lower hown3 HB2.out.size)
    clear hown3 hb3
    have k0 := HBK0.out.below HB3.out HBK0.out.lt
    have k1 := HBK1.out.below HB3.out HBK1.out.lt
    have c0 : w3.cell? ⟨w.heap.size, 0, none⟩ = some (.slice none 0 0) := k0.cell 0
    have z0 : w3.frozen? ⟨w.heap.size, 0, none⟩ = false := k0.frozen 0
    have c1 : w3.cell? ⟨w.heap.size + 1, 0, none⟩ = some (.int .i64 0) := k1.cell 0
    have z1 : w3.frozen? ⟨w.heap.size + 1, 0, none⟩ = false := k1.frozen 0
    have HK0 := Lib.hid k0
    have HK1 := Lib.hid k1
    clear k0 k1
    go_wp2_with fail
    have W1 := (HK0.out.put 0 (.slice q3 L.1.length cap3)).far (p := ⟨w.heap.size + 1, 0, none⟩) (by simp) (.int .i64 (L.1.length : Int))
    have W2 := (HK1.out.far (p := ⟨w.heap.size, 0, none⟩) (by simp) (.slice q3 L.1.length cap3)).put 0 (.int .i64 (L.1.length : Int))
    refine again_door rfl rfl (W1.cell 0) (W2.cell 0) ⟨q3, cap3, by rw [HLB2.out], ?_, ?_⟩
    · refine row_kept' (row_lower HOW3.out HB0.out.size) fun k hk => ?_
      have hk2 := (HOW3.out.lt k hk).1
      rw [HSZ0.out] at hk2
      rw [Below.heap_setCell _ _ _ _ (by simp; omega), Below.heap_setCell _ _ _ _ (by simp; omega)]
    · exact ((HB0.out.trans (HB3.out.mono HB0.out.size)).setCell (Nat.le_refl _) _).setCell (by simp) _
  | true =>
    have hm2 := HMAY.out
    rw [hV] at hm2
    have HM2 := Lib.hid hm2
    have hparts : wholeB ((s.size : Int) - g) l = true ∧ 0 ≤ a ∧ a ≤ b ∧ b ≤ (s.size : Int) ∧ a ≤ b - g := by
      unfold mayB at hV
      simp only [Bool.and_eq_true, decide_eq_true_eq] at hV
      exact ⟨hV.1.1.1.1, hV.1.1.1.2, hV.1.1.2, hV.1.2, hV.2⟩
    obtain ⟨same, hsame⟩ : ∃ same : Bool, same = (decide (a = b) && decide (g = 0)) := ⟨_, rfl⟩
    obtain ⟨k, hk⟩ : ∃ k, k = stayN l a same := ⟨_, rfl⟩
    have HLB2 : Hid (L = (l.take k ++ (mendL R l b g (stayAt l k).toNat (s.data.toList.drop (stayAt l k).toNat)).1, (mendL R l b g (stayAt l k).toNat (s.data.toList.drop (stayAt l k).toNat)).2)) := Lib.hid (by
      rw [HL.out]
      unfold againL
      rw [if_pos (by rw [← Lib.size_eq]; exact hV), ← hsame, ← hk])
    have hkm : k ≤ m := by
      rw [hk, ← HM.out]
      exact Nat.le_trans (stayN_le l a same) (aheadN_le l a)
    have hnm : (s.size : Int) - g ≤ 9223372036854775807 := by
      obtain ⟨q0, _, _, q4⟩ := wholeB_in hparts.1
      by_cases hl0 : l = []
      · have h := hparts.1
        subst hl0
        unfold wholeB wholeEnd at h
        simp at h
        omega
      · obtain ⟨z, hz1, hz2⟩ := q4 hl0
        have := HLB.out z hz1
        omega
    have hst := stay_le (l := l) (a := a) (S := (s.size : Int)) (same := same) (by omega) (by omega)
    rw [← hk] at hst
    have HST := Lib.hid hst
    have HK := Lib.hid hk
    have HSM := Lib.hid hsame
    have HPT := Lib.hid hparts
    clear hV hm2 HMAY HL hk hsame hparts hst
    go_wp2_with fail
    refine HM2.out.mono ?_
    rintro e w1 ⟨rfl, hb1⟩
    have HB1 := Lib.hid hb1
    clear hb1
    go_upto_region 5 with fail
    go_cut [14] from 29 to 38 (fun v wx => v = .int .i64 (k : Int) ∧ wx = w1)
    case first =>
      have HAH := Lib.hid (ahead_any a same A m c l w1 HM.out ((HX0.out.below HB1.out).more HB1.out.size) (by omega))
      rw [← HK.out] at HAH
      by_cases hab : a = b
      · subst hab
        by_cases hg0 : g = 0
        · subst hg0
          have e : same = true := by rw [HSM.out]; simp
          subst e
          go_wp2_with fail
          refine HAH.out.mono ?_
          rintro e w2 ⟨rfl, rfl⟩
          go_wp2_with fail
          go_meet
          exact ⟨rfl, rfl⟩
        · have e : same = false := by rw [HSM.out]; simp [hg0]
          have d : (g == 0) = false := by simpa using hg0
          subst e
          go_wp2_with fail
          refine HAH.out.mono ?_
          rintro e w2 ⟨rfl, rfl⟩
          go_wp2_with fail
          go_meet
          exact ⟨rfl, rfl⟩
      · have e : same = false := by rw [HSM.out]; simp [hab]
        have d : (a == b) = false := by simpa using hab
        subst e
        go_wp2_with fail
        refine HAH.out.mono ?_
        rintro e w2 ⟨rfl, rfl⟩
        go_wp2_with fail
        go_meet
        exact ⟨rfl, rfl⟩
    case rest =>
    obtain ⟨w2, rfl⟩ : ∃ w2, w2 = wc := ⟨_, rfl⟩
    obtain ⟨rfl, rfl⟩ := hcut
    have HME := Lib.hid (mend_any K A m c l k s b g w2 HM.out ((HX0.out.below HB1.out).more HB1.out.size) (by omega) hmc (fun h => (HC0.out h).2) hkm hs hg.1 HPT.out.1 hnm HST.out)
    go_wp2_with fail
    refine HME.out.mono ?_
    rintro e w3 ⟨q3, cap3, rfl, hown3, hb3⟩
    have hfst : l.take k ++ (mendL R l b g (stayAt l k).toNat (s.data.toList.drop (stayAt l k).toNat)).1 = L.1 := by rw [HLB2.out]
    have hsnd : (mendL R l b g (stayAt l k).toNat (s.data.toList.drop (stayAt l k).toNat)).2 = L.2 := by rw [HLB2.out]
    rw [hfst] at hown3 ⊢
    rw [hsnd]
    have HB3 := Lib.hid (HB1.out.trans (hb3.mono HB1.out.size))
    have HOW3 := Lib.hid (row_lower hown3 HB1.out.size)
    clear hown3 hb3 hfst hsnd
    have k0 := HBK0.out.below HB3.out HBK0.out.lt
    have k1 := HBK1.out.below HB3.out HBK1.out.lt
    have c0 : w3.cell? ⟨w.heap.size, 0, none⟩ = some (.slice none 0 0) := k0.cell 0
    have z0 : w3.frozen? ⟨w.heap.size, 0, none⟩ = false := k0.frozen 0
    have c1 : w3.cell? ⟨w.heap.size + 1, 0, none⟩ = some (.int .i64 0) := k1.cell 0
    have z1 : w3.frozen? ⟨w.heap.size + 1, 0, none⟩ = false := k1.frozen 0
    have HK0 := Lib.hid k0
    have HK1 := Lib.hid k1
    clear k0 k1
    go_wp2_with fail
    have W1 := (HK0.out.put 0 (.slice q3 L.1.length cap3)).far (p := ⟨w.heap.size + 1, 0, none⟩) (by simp) (.int .i64 (L.2 : Int))
    have W2 := (HK1.out.far (p := ⟨w.heap.size, 0, none⟩) (by simp) (.slice q3 L.1.length cap3)).put 0 (.int .i64 (L.2 : Int))
    refine again_door rfl rfl (W1.cell 0) (W2.cell 0) ⟨q3, cap3, rfl, ?_, ?_⟩
    · refine row_kept' (row_lower HOW3.out HB0.out.size) fun k hk => ?_
      have hk2 := (HOW3.out.lt k hk).1
      rw [HSZ0.out] at hk2
      rw [Below.heap_setCell _ _ _ _ (by simp; omega), Below.heap_setCell _ _ _ _ (by simp; omega)]
    · exact ((HB0.out.trans (HB3.out.mono HB0.out.size)).setCell (Nat.le_refl _) _).setCell (by simp) _
/-- The same, of cuts that lie in a row of their own. -/
theorem again_row (K : CutterIs T x R fN fC rN rC) {p : Option Addr} {c B : Nat} {l : List (Int × Int)} {s : ByteArray} {a b g : Int} {w : World} (hr : w.ownsRow B 36 2 (.slice p l.length c) l.length (flatS l)) (hl : l.length ≤ 900000) (hs : s.size ≤ 1000000)
    (ha : -9223372036854775808 ≤ a ∧ a ≤ 9223372036854775807) (hb : -9223372036854775808 ≤ b ∧ b ≤ 9223372036854775807) (hg : -9223372036854775808 ≤ g ∧ g ≤ 9223372036854775807) (hlb : ∀ x ∈ l, x.2 ≤ 9223372036854775807) :
    Calls Try.prog 25 #[.iface T x, .slice p l.length c, .string s, .int .i64 a, .int .i64 b, .int .i64 g] w fun e w' => ∃ q cap, e = .returned (.tuple #[.slice q (againL R l s.data.toList a b g).1.length cap, .int .i64 ((againL R l s.data.toList a b g).2 : Int)]) ∧
      w'.ownsRow w.heap.size 36 2 (.slice q (againL R l s.data.toList a b g).1.length cap) (againL R l s.data.toList a b g).1.length (flatS (againL R l s.data.toList a b g).1) ∧ Below w.heap.size w w' := by
  obtain ⟨p2, c2, e2, hcp, -, -, -⟩ := krow_form hr
  have e3 : p2 = p ∧ c2 = c := by injection e2 with e4 e5 e6; exact ⟨e4.symm, e6.symm⟩
  obtain ⟨rfl, rfl⟩ := e3
  exact again_any K p2 l.length c2 l s a b g w rfl (row_spans hr) hl hcp (fun e => by
    subst e
    rcases hr.2 with ⟨h3, _⟩ | ⟨g', c', cur, h3, _⟩
    · injection h3 with _ h4 h5
      exact ⟨h4, h5⟩
    · cases h3) hs ha hb hg hlb
end Go.Proofs.Ytkcjiogackkecaa
