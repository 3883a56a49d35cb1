/-
  SplitFew, walked. No statement is proved here.
-/
import Derived.Test.YtkcjiogackkecaaSplitAlive
import Derived.Test.YtkcjiogackkecaaSplitMore
import Derived.Test.YtkcjiogackkecaaLoose
import Derived.Lib.ConvBytes
namespace Go.Proofs.Ytkcjiogackkecaa
open Go.RowKit

theorem cutter_of {gen : Int} (_h : 1 ≤ gen ∧ gen ≤ 3) : ∃ (T : TypeId) (x : Value) (fN fC : FuncId) (rN rC : Value), cutterV gen = .iface T x ∧ CutterIs T x (ruleOf gen) fN fC rN rC := by
  by_cases h1 : gen = 1
  · subst h1
    exact ⟨44, .agg #[.int .i64 64], 23, 21, .agg #[.int .i64 64], .agg #[.int .i64 64], rfl, even_is⟩
  · refine ⟨42, dfl.val, 17, 15, dfl.val, dfl.val, if_neg h1, ?_⟩
    rw [show ruleOf gen = dfl from if_neg h1]
    exact uneven_is
theorem of_in {gen : Int} (h : 1 ≤ gen ∧ gen ≤ 3) {T : TypeId} {x : Value} (hx : cutterV gen = .iface T x) (w : World) : Calls Try.prog 12 #[.int .i64 gen] w fun e w' => e = .returned (.tuple #[.iface T x, .int .i64 0]) ∧ Below w.heap.size w w' := by
  have q := of_any gen w
  rw [ofV_in h, hx] at q
  exact q
theorem sbytes_below (w : World) (e : TypeId) (s : ByteArray) : Below w.heap.size w (Lib.bytesWorld w e s) :=
  ⟨rfl, rfl, rfl, by rw [Lib.bytesWorld_size]; omega, fun i hi => Lib.bytesWorld_at_old w e s i hi⟩
theorem sbytes_frozen (w : World) (e : TypeId) (s : ByteArray) (j : Nat) (hj : j < s.size) : (Lib.bytesWorld w e s).frozen? ⟨w.heap.size, j, none⟩ = false := by
  have h := Lib.bytesWorld_at_new w e s
  have hs : s.size ≤ (Lib.bytesCells w e s).size := by
    have : s.data.size = s.size := rfl
    simp [Lib.bytesCells]
  simp [World.frozen?, h]
  intro _
  omega
/-- A byte with some bits turned is a byte. -/
theorem byte_xor (x : UInt8) (by_ : Int) : ∃ c : UInt8, bits .xor .u8 (x.toNat : Int) (by_ % 256) = (c.toNat : Int) := by
  obtain ⟨v, hv⟩ : ∃ v : Nat, (v : Int) = by_ % 256 := ⟨(by_ % 256).toNat, by omega⟩
  have hx := x.toNat_lt
  have hlt : x.toNat ^^^ v < 256 := Nat.xor_lt_two_pow (n := 8) hx (by omega)
  have h8 : ∀ n : Nat, n < 256 → (n.toUInt8).toNat = n := fun n hn => by
    have : (n.toUInt8).toNat = n % 256 := by simp [Nat.toUInt8]
    rw [this, Nat.mod_eq_of_lt hn]
  refine ⟨(x.toNat ^^^ v).toUInt8, ?_⟩
  rw [← hv, u8_xor_nat x.toNat v hx (by omega), h8 _ hlt]
set_option maxRecDepth 100000 in
set_option maxHeartbeats 2000000 in
theorem sfew_out (s : ByteArray) (at_ by_ : Int) (_hs : s.size ≤ 140737488351232) (w : World) (h : 1200 < s.size ∨ s.size < 1 ∨ at_ < 0) :
    Calls Try.prog 6 #[.string s, .int .i64 at_, .int .i64 by_] w fun e w' => e = .returned (.bool true) ∧ Below w.heap.size w w' := by
  by_cases h0 : 1200 < s.size
  · clear h
    go_enter Try.func6, Try.ntmps6
    go_wp2_with fail
    refine (alive15_any _).mono ?_
    rintro e w1 ⟨rfl, hb1⟩
    go_wp2_with fail
    go_ret
    exact ⟨rfl, hb1⟩
  have n0 : s.size ≤ 1200 := by omega
  by_cases h1 : s.size < 1
  · clear h h0
    go_enter Try.func6, Try.ntmps6
    go_wp2_with fail
    refine (alive15_any _).mono ?_
    rintro e w1 ⟨rfl, hb1⟩
    go_wp2_with fail
    go_ret
    exact ⟨rfl, hb1⟩
  have n1 : 1 ≤ s.size := by omega
  have h2 : at_ < 0 := by omega
  clear h h0 h1
  go_enter Try.func6, Try.ntmps6
  go_wp2_with fail
  refine (alive15_any _).mono ?_
  rintro e w1 ⟨rfl, hb1⟩
  go_wp2_with fail
  go_ret
  exact ⟨rfl, hb1⟩

set_option maxRecDepth 100000 in
set_option maxHeartbeats 4000000 in
theorem sfew_in (s : ByteArray) (a : Nat) (by_ : Int) (w : World) (h1 : s.size ≤ 1200) (h2 : 1 ≤ s.size) (_ha : a ≤ 9223372036854775807) :
    Calls Try.prog 6 #[.string s, .int .i64 (a : Int), .int .i64 by_] w fun e w' => e = .returned (.bool true) ∧ Below w.heap.size w w' := by
  have HOF := Lib.hid (of_in (gen := 1) (by omega) (T := 44) (x := .agg #[.int .i64 64]) rfl)
  have hq1 : ∀ (w : World), (binOp .eql 29 (.iface 44 (.agg #[.int .i64 64])) .nilIface).run Try.prog w = .ok (.bool false) w := fun w => by rfl
  have hsl : s.data.toList.length = s.size := (Lib.size_eq s).symm
  obtain ⟨old, hold⟩ : ∃ old, old = cutL e64 0 s.data.toList := ⟨_, rfl⟩
  have holdl : old.length ≤ 1200 := by rw [hold]; have := cutL_few e64 0 s.data.toList; omega
  have HOLD := Lib.hid hold
  have HSL := Lib.hid hsl
  clear hold hsl
  go_enter Try.func6, Try.ntmps6
  go_wp2_with fail
  refine (alive15_any _).mono ?_
  rintro e w1 ⟨rfl, hb1⟩
  have HB1 := Lib.hid hb1
  clear hb1
  go_wp2_with fail
  refine (HOF.out _).mono ?_
  rintro e w4 ⟨rfl, hb2⟩
  have hb4' : Below w.heap.size w w4 := HB1.out.trans (hb2.mono HB1.out.size)
  clear hb2
  obtain ⟨k, hk⟩ : ∃ k : Nat, k = a % s.size := ⟨_, rfl⟩
  have hks : k < s.size := by rw [hk]; exact Nat.mod_lt _ (by omega)
  have hkm : Int.tmod (a : Int) (s.size : Int) = (k : Int) := by rw [hk]; exact (Int.ofNat_tmod _ _).symm
  have hkm2 : (a : Int) % (s.size : Int) = (k : Int) := by rw [hk]; exact (Int.natCast_emod _ _).symm
  have hcv := Lib.run_convert_string_bytes (P := Try.prog) w4 9 66 5 s (u := .string) Try.underlying9 Try.underlying66 Try.underlying5
  have hcell : ∀ j, j < s.size → (Lib.bytesWorld w4 5 s).cell? ⟨w4.heap.size, j, none⟩ = some (.int .u8 (s.data.toList.getD j 0).toNat) := fun j hj => Lib.bytesWorld_cell w4 5 s j hj
  have hfr := sbytes_frozen w4 5 s k hks
  have hbb := hb4'.trans ((sbytes_below w4 5 s).mono hb4'.size)
  have hcj := hcell k hks
  have hg : w.heap.size ≤ w4.heap.size := hb4'.size
  have hgW : w4.heap.size < (Lib.bytesWorld w4 5 s).heap.size := by rw [Lib.bytesWorld_size]; omega
  obtain ⟨g, hgE⟩ : ∃ g, g = w4.heap.size := ⟨_, rfl⟩
  obtain ⟨W, hW⟩ : ∃ W, W = Lib.bytesWorld w4 5 s := ⟨_, rfl⟩
  obtain ⟨cap, hcap⟩ : ∃ cap, cap = grownCap w4 s.size 0 5 := ⟨_, rfl⟩
  rw [← hgE, ← hW] at hcell hfr hcj hgW
  rw [← hgE, ← hW, ← hcap] at hcv
  rw [← hW] at hbb
  rw [← hgE] at hg
  obtain ⟨x, hx⟩ : ∃ x, x = s.data.toList.getD k 0 := ⟨_, rfl⟩
  rw [← hx] at hcj
  obtain ⟨c, hxc⟩ := byte_xor x by_
  obtain ⟨D, hD⟩ : ∃ D : ByteArray, D = ⟨(s.data.toList.set k c).toArray⟩ := ⟨_, rfl⟩
  have hDl : D.data.toList = s.data.toList.set k c := by rw [hD]
  have hDs : D.data.toList.length = s.size := by rw [hDl, List.length_set, HSL.out]
  obtain ⟨W6, hW6⟩ : ∃ W6, W6 = W.setCell ⟨g, k, none⟩ (.int .u8 c.toNat) := ⟨_, rfl⟩
  have hsz6 : W6.heap.size = W.heap.size := by rw [hW6]; simp
  have HCV : Hid (∀ w', Below W6.heap.size W6 w' → (convert 66 9 (.slice (some ⟨g, 0, none⟩) s.size cap)).run Try.prog w' = .ok (.string D) w') := Lib.hid (fun w' hb => by
    have hcv2 := run_convert_bytes_back (P := Try.prog) w' 66 9 5 ⟨g, 0, none⟩ cap D.data.toList Try.underlying66 Try.underlying5 Try.underlying9
      (fun i hi => by
        have hi2 : i < s.size := by omega
        rw [Go.WideShapes.add_plain, Nat.zero_add, hb.cell (p := ⟨g, i, none⟩) (by rw [hsz6]; exact hgW), hW6]
        have hw := hcell i hi2
        by_cases hij : k = i
        · have h1 := World.cell?_setCell_same W ⟨g, k, none⟩ (.int .u8 c.toNat) hcj
          rw [hij] at h1 ⊢
          rw [h1]
          simp [hDl, hij]
        · rw [World.cell?_setCell_other W _ _ _ (fun e => hij (by injection e)), hw]
          have hi3 : i < s.data.size := hi2
          simp [hDl, hij, List.getD]
          rw [Array.getElem?_eq_getElem hi3]
          rfl)
    rw [hDs] at hcv2
    have hDmk : (⟨D.data.toList.toArray⟩ : ByteArray) = D := rfl
    rw [hDmk] at hcv2
    exact hcv2)
  have hDz : D.size = s.size := by rw [Lib.size_eq, hDs]
  have HB6 : Hid (Below w.heap.size w W6) := Lib.hid (by rw [hW6]; exact hbb.setCell hg _)
  obtain ⟨new, hnew⟩ : ∃ new, new = cutL e64 0 D.data.toList := ⟨_, rfl⟩
  obtain ⟨N, hN⟩ : ∃ N, N = (againL e64 old D.data.toList (k : Int) ((k + 1 : Nat) : Int) 0).2 := ⟨_, rfl⟩
  have hNN : N ≤ 1 := by
    rw [hN, HOLD.out]
    exact again_byte _ _ k (by rw [HSL.out]; exact hks) (by rw [hDs, HSL.out])
  have hnewl : new.length ≤ 1200 := by rw [hnew]; have := cutL_few e64 0 D.data.toList; omega
  have hag0 : (againL e64 old D.data.toList (k : Int) ((k + 1 : Nat) : Int) 0) = (new, N) := by
    refine Prod.ext ?_ hN.symm
    have h := again_edit e64_ok s.data.toList [c] k 1 (by rw [HSL.out]; omega)
    have e1 : s.data.toList.take k ++ [c] ++ s.data.toList.drop (k + 1) = D.data.toList := by
      rw [hDl, List.set_eq_take_append_cons_drop, if_pos (by rw [HSL.out]; exact hks), List.append_assoc]
      rfl
    rw [e1, ← HOLD.out, show (([c] : List UInt8).length : Int) - ((1 : Nat) : Int) = 0 from rfl] at h
    rw [hnew]
    exact h
  have HRC : Hid (∀ w', Below W6.heap.size W6 w' → Calls Try.prog 13 #[.int .i64 1, .string s] w' fun e w'' => ∃ p c, e = .returned (.slice p old.length c) ∧ w''.ownsRow W6.heap.size 36 2 (.slice p old.length c) old.length (flatS old) ∧ Below w'.heap.size w' w'') := Lib.hid (fun w' hb => by
    have h := refcut_any 1 s w' (by omega)
    rw [show ruleOf 1 = e64 from rfl, ← HOLD.out] at h
    exact h.mono fun e w'' ⟨p, c, he, hr, hb2⟩ => ⟨p, c, he, row_lower hr hb.size, hb2⟩)
  have HRD : Hid (∀ w', Calls Try.prog 13 #[.int .i64 1, .string D] w' fun e w'' => ∃ p c, e = .returned (.slice p new.length c) ∧ w''.ownsRow w'.heap.size 36 2 (.slice p new.length c) new.length (flatS new) ∧ Below w'.heap.size w' w'') := Lib.hid (fun w' => by
    have h := refcut_any 1 D w' (by omega)
    rw [show ruleOf 1 = e64 from rfl, ← hnew] at h
    exact h)
  have HAG : Hid (∀ (w' : World) (p : Option Addr) (c : Nat), Below W6.heap.size W6 w' → w'.ownsRow W6.heap.size 36 2 (.slice p old.length c) old.length (flatS old) → Calls Try.prog 25 #[.iface 44 (.agg #[.int .i64 64]), .slice p old.length c, .string D, .int .i64 (k : Int), .int .i64 ((k : Int) + 1), .int .i64 0] w' fun e w'' => ∃ q d, e = .returned (.tuple #[.slice q new.length d, .int .i64 (N : Int)]) ∧ w''.ownsRow W6.heap.size 36 2 (.slice q new.length d) new.length (flatS new) ∧ Below w'.heap.size w' w'') := Lib.hid (fun w' p c hb hr => by
    obtain ⟨p2, c2, e2, hcp, -, hpn, -⟩ := krow_form hr
    have e3 : p2 = p ∧ c2 = c := by injection e2 with e4 e5 e6; exact ⟨e4.symm, e6.symm⟩
    obtain ⟨rfl, rfl⟩ := e3
    have h := again_any even_is p2 old.length c2 old D (k : Int) ((k : Int) + 1) 0 w' rfl (row_spans hr) (by omega) hcp (fun e => by
      subst e
      rcases hr.2 with ⟨h3, _⟩ | ⟨g', c', cur, h3, _⟩
      · injection h3 with _ h4 h5
        exact ⟨h4, h5⟩
      · cases h3) (by omega) (by omega) (by omega) (by omega) (fun x hx => by
        rw [HOLD.out] at hx
        obtain ⟨j, hj⟩ := List.getElem?_of_mem hx
        have := cutL_int (x0 := x.1) (x1 := x.2) hj
        have := HSL.out
        omega)
    rw [show ((k : Int) + 1) = ((k + 1 : Nat) : Int) by omega, hag0] at h
    exact h.mono fun e w'' ⟨q, d, he, hr2, hb2⟩ => ⟨q, d, he, row_lower hr2 hb.size, hb2⟩)
  have HW6 := Lib.hid hW6
  clear hW hW6 hD hDl hDs hgE hcap hcell hbb hb4' hx hN hnew hag0 hk hsz6 hgW hDz
  have hkI : (k : Int) < (s.size : Int) := by omega
  go_upto_region 9 with fail
  rw [← HW6.out]
  clear hcv hcj hfr hxc
  refine wp_region_loosely 14 [some 55, some 56, some 57, some 58, some 59, some 60, some 61, some 62, some 63, some 54, some 64, some 65, some 11, some 12] [some (.iface 44 (.agg #[.int .i64 64])), some (.string s), none, some (.slice (some ⟨g, 0, none⟩) s.size cap), some (.string D), some (.int .i64 (k : Int)), some (.int .i64 (k : Int)), some (.int .i64 ((k : Int) + 1)), none, none, none, some (.int .i64 (N : Int)), none, some (.int .i64 (N : Int))] (fun _ w' => Below W6.heap.size W6 w') (fun _ w w' => Below w.heap.size w w') (fun L i v w => (i = 2 → (fun _ v w => ∃ p c, v = .slice p old.length c ∧ w.ownsRow W6.heap.size 36 2 (.slice p old.length c) old.length (flatS old)) L v w) ∧ (i = 8 → (fun _ v w => ∃ p c, v = .tuple #[.slice p new.length c, .int .i64 (N : Int)] ∧ w.ownsRow W6.heap.size 36 2 (.slice p new.length c) new.length (flatS new)) L v w) ∧ (i = 9 → (fun _ v w => ∃ p c, v = .tuple #[.slice p new.length c, .int .i64 (N : Int)] ∧ w.ownsRow W6.heap.size 36 2 (.slice p new.length c) new.length (flatS new)) L v w) ∧ (i = 10 → (fun _ v w => ∃ p c, v = .slice p new.length c ∧ w.ownsRow W6.heap.size 36 2 (.slice p new.length c) new.length (flatS new)) L v w) ∧ (i = 12 → (fun _ v w => ∃ p c, v = .slice p new.length c ∧ w.ownsRow W6.heap.size 36 2 (.slice p new.length c) new.length (flatS new)) L v w)) (by kernel_rfl) (by kernel_rfl) rfl (by kernel_rfl) (by kernel_rfl) ?hM (fun _ _ _ _ _ h g => h.trans (g.mono h.size)) (below_dn _ 1) ?hops ?hrest
  case hM =>
    intro L o i v w w' hne hLi hLo hcl h hj hg
    exact ⟨(fun e => by
      have hh := h.1 e
      subst e
      exact (match hh with | ⟨p, c, e, hr⟩ => ⟨p, c, e, row_below hr hg⟩)), (fun e => by
      have hh := h.2.1 e
      subst e
      exact (match hh with | ⟨p, c, e, hr⟩ => ⟨p, c, e, row_below hr hg⟩)), (fun e => by
      have hh := h.2.2.1 e
      subst e
      exact (match hh with | ⟨p, c, e, hr⟩ => ⟨p, c, e, row_below hr hg⟩)), (fun e => by
      have hh := h.2.2.2.1 e
      subst e
      exact (match hh with | ⟨p, c, e, hr⟩ => ⟨p, c, e, row_below hr hg⟩)), (fun e => by
      have hh := h.2.2.2.2 e
      subst e
      exact (match hh with | ⟨p, c, e, hr⟩ => ⟨p, c, e, row_below hr hg⟩))⟩
  case hops =>
    intro o ho L f x' w2 hcl hfr hLo hj hw
    rcases (show o = 0 ∨ o = 1 ∨ o = 2 ∨ o = 3 ∨ o = 4 ∨ o = 5 ∨ o = 6 ∨ o = 7 ∨ o = 8 ∨ o = 9 ∨ o = 10 ∨ o = 11 ∨ o = 12 ∨ o = 13 by omega) with rfl | rfl | rfl | rfl | rfl | rfl | rfl | rfl | rfl | rfl | rfl | rfl | rfl | rfl
    · have e1 : x'.tmps[7]?.getD undef = .iface 44 (.agg #[.int .i64 64]) := by rw [hfr 7 (slL_far (by kernel_rfl))]; rfl
      clear hw hfr hcl hLo
      refine wpOp_on (v := .iface 44 (.agg #[.int .i64 64])) (w' := w2) rfl (wanted_none rfl) ?_ ⟨_, rfl, (Below.refl _ _), .known rfl ⟨(fun e => absurd e (by decide)), (fun e => absurd e (by decide)), (fun e => absurd e (by decide)), (fun e => absurd e (by decide)), (fun e => absurd e (by decide))⟩⟩
      go_simp
    · have e1 : x'.tmps[0]?.getD undef = .string s := by rw [hfr 0 (slL_far (by kernel_rfl))]; rfl
      clear hw hfr hcl hLo
      refine wpOp_on (v := .string s) (w' := w2) rfl (wanted_none rfl) ?_ ⟨_, rfl, (Below.refl _ _), .known rfl ⟨(fun e => absurd e (by decide)), (fun e => absurd e (by decide)), (fun e => absurd e (by decide)), (fun e => absurd e (by decide)), (fun e => absurd e (by decide))⟩⟩
      go_simp
    · have e1 : x'.tmps[56]?.getD undef = .string s := (hw 1 (of_decide_eq_true (by kernel_rfl))).is rfl rfl
      clear hw hfr hcl hLo
      refine wpOp_enter (f := 13) (args := #[.int .i64 1, .string s]) rfl (wanted_none rfl) (by go_simp) ((HRC.out w2 hj).mono ?_)
      rintro e wy ⟨p, c, rfl, hr, hb⟩
      exact ⟨_, rfl, _, rfl, hb, .loose rfl ⟨(fun _ => ⟨p, c, rfl, hr⟩), (fun e => absurd e (by decide)), (fun e => absurd e (by decide)), (fun e => absurd e (by decide)), (fun e => absurd e (by decide))⟩⟩
    · have e1 : x'.tmps[10]?.getD undef = .slice (some ⟨g, 0, none⟩) s.size cap := by rw [hfr 10 (slL_far (by kernel_rfl))]; rfl
      clear hw hfr hcl hLo
      refine wpOp_on (v := .slice (some ⟨g, 0, none⟩) s.size cap) (w' := w2) rfl (wanted_none rfl) ?_ ⟨_, rfl, (Below.refl _ _), .known rfl ⟨(fun e => absurd e (by decide)), (fun e => absurd e (by decide)), (fun e => absurd e (by decide)), (fun e => absurd e (by decide)), (fun e => absurd e (by decide))⟩⟩
      go_simp
    · have e1 : x'.tmps[58]?.getD undef = .slice (some ⟨g, 0, none⟩) s.size cap := (hw 3 (of_decide_eq_true (by kernel_rfl))).is rfl rfl
      have hcv := HCV.out w2 hj
      clear hw hfr hcl hLo
      refine wpOp_on (v := .string D) (w' := w2) rfl (wanted_none rfl) ?_ ⟨_, rfl, (Below.refl _ _), .known rfl ⟨(fun e => absurd e (by decide)), (fun e => absurd e (by decide)), (fun e => absurd e (by decide)), (fun e => absurd e (by decide)), (fun e => absurd e (by decide))⟩⟩
      go_simp
    · have e1 : x'.tmps[9]?.getD undef = .int .i64 (k : Int) := by rw [hfr 9 (slL_far (by kernel_rfl))]; rfl
      clear hw hfr hcl hLo
      refine wpOp_on (v := .int .i64 (k : Int)) (w' := w2) rfl (wanted_none rfl) ?_ ⟨_, rfl, (Below.refl _ _), .known rfl ⟨(fun e => absurd e (by decide)), (fun e => absurd e (by decide)), (fun e => absurd e (by decide)), (fun e => absurd e (by decide)), (fun e => absurd e (by decide))⟩⟩
      go_simp
    · have e1 : x'.tmps[9]?.getD undef = .int .i64 (k : Int) := by rw [hfr 9 (slL_far (by kernel_rfl))]; rfl
      clear hw hfr hcl hLo
      refine wpOp_on (v := .int .i64 (k : Int)) (w' := w2) rfl (wanted_none rfl) ?_ ⟨_, rfl, (Below.refl _ _), .known rfl ⟨(fun e => absurd e (by decide)), (fun e => absurd e (by decide)), (fun e => absurd e (by decide)), (fun e => absurd e (by decide)), (fun e => absurd e (by decide))⟩⟩
      go_simp
    · have e1 : x'.tmps[61]?.getD undef = .int .i64 (k : Int) := (hw 6 (of_decide_eq_true (by kernel_rfl))).is rfl rfl
      have hadd : IntKind.i64.wrap ((k : Int) + 1) = (k : Int) + 1 := by rw [IntKind.wrap_i64]; omega
      clear hw hfr hcl hLo
      refine wpOp_on (v := .int .i64 ((k : Int) + 1)) (w' := w2) rfl (wanted_none rfl) ?_ ⟨_, rfl, (Below.refl _ _), .known rfl ⟨(fun e => absurd e (by decide)), (fun e => absurd e (by decide)), (fun e => absurd e (by decide)), (fun e => absurd e (by decide)), (fun e => absurd e (by decide))⟩⟩
      go_simp
    · have e1 : x'.tmps[55]?.getD undef = .iface 44 (.agg #[.int .i64 64]) := (hw 0 (of_decide_eq_true (by kernel_rfl))).is rfl rfl
      have e2 := (hw 2 (of_decide_eq_true (by kernel_rfl)))
      have e3 : x'.tmps[59]?.getD undef = .string D := (hw 4 (of_decide_eq_true (by kernel_rfl))).is rfl rfl
      have e4 : x'.tmps[60]?.getD undef = .int .i64 (k : Int) := (hw 5 (of_decide_eq_true (by kernel_rfl))).is rfl rfl
      have e5 : x'.tmps[62]?.getD undef = .int .i64 ((k : Int) + 1) := (hw 7 (of_decide_eq_true (by kernel_rfl))).is rfl rfl
      obtain ⟨p, c, ev, hr⟩ := e2.2.1.2.1 rfl
      have e2' : x'.tmps[57]?.getD undef = .slice p old.length c := (e2.2.2 57 rfl).trans ev
      clear e2
      have hag := HAG.out w2 p c hj hr
      clear hw hfr hcl hLo
      refine wpOp_enter (f := 25) (args := #[.iface 44 (.agg #[.int .i64 64]), .slice p old.length c, .string D, .int .i64 (k : Int), .int .i64 ((k : Int) + 1), .int .i64 0]) rfl (wanted_none rfl) (by go_simp) ((hag).mono ?_)
      rintro e wy ⟨p', c', rfl, hr', hb⟩
      exact ⟨_, rfl, _, rfl, hb, .loose rfl ⟨(fun e => absurd e (by decide)), (fun _ => ⟨p', c', rfl, hr'⟩), (fun e => absurd e (by decide)), (fun e => absurd e (by decide)), (fun e => absurd e (by decide))⟩⟩
    · have e1 := (hw 8 (of_decide_eq_true (by kernel_rfl)))
      obtain ⟨p, c, ev, hr⟩ := e1.2.1.2.2.1 rfl
      have e1' : x'.tmps[63]?.getD undef = .tuple #[.slice p new.length c, .int .i64 (N : Int)] := (e1.2.2 63 rfl).trans ev
      clear e1
      clear hw hfr hcl hLo
      refine wpOp_on (v := .tuple #[.slice p new.length c, .int .i64 (N : Int)]) (w' := w2) rfl (wanted_none rfl) ?_ ⟨_, rfl, (Below.refl _ _), .loose rfl ⟨(fun e => absurd e (by decide)), (fun e => absurd e (by decide)), (fun _ => ⟨p, c, rfl, hr⟩), (fun e => absurd e (by decide)), (fun e => absurd e (by decide))⟩⟩
      go_simp
    · have e1 := (hw 9 (of_decide_eq_true (by kernel_rfl)))
      obtain ⟨p, c, ev, hr⟩ := e1.2.1.2.2.2.1 rfl
      have e1' : x'.tmps[54]?.getD undef = .tuple #[.slice p new.length c, .int .i64 (N : Int)] := (e1.2.2 54 rfl).trans ev
      clear e1
      clear hw hfr hcl hLo
      refine wpOp_on (v := .slice p new.length c) (w' := w2) rfl (wanted_none rfl) ?_ ⟨_, rfl, (Below.refl _ _), .loose rfl ⟨(fun e => absurd e (by decide)), (fun e => absurd e (by decide)), (fun e => absurd e (by decide)), (fun _ => ⟨p, c, rfl, hr⟩), (fun e => absurd e (by decide))⟩⟩
      go_simp
    · have e1 := (hw 9 (of_decide_eq_true (by kernel_rfl)))
      obtain ⟨p, c, ev, hr⟩ := e1.2.1.2.2.2.1 rfl
      have e1' : x'.tmps[54]?.getD undef = .tuple #[.slice p new.length c, .int .i64 (N : Int)] := (e1.2.2 54 rfl).trans ev
      clear e1
      clear hw hfr hcl hLo
      refine wpOp_on (v := .int .i64 (N : Int)) (w' := w2) rfl (wanted_none rfl) ?_ ⟨_, rfl, (Below.refl _ _), .known rfl ⟨(fun e => absurd e (by decide)), (fun e => absurd e (by decide)), (fun e => absurd e (by decide)), (fun e => absurd e (by decide)), (fun e => absurd e (by decide))⟩⟩
      go_simp
    · have e1 := (hw 10 (of_decide_eq_true (by kernel_rfl)))
      obtain ⟨p, c, ev, hr⟩ := e1.2.1.2.2.2.2.1 rfl
      have e1' : x'.tmps[64]?.getD undef = .slice p new.length c := (e1.2.2 64 rfl).trans ev
      clear e1
      clear hw hfr hcl hLo
      refine wpOp_on (v := .slice p new.length c) (w' := w2) rfl (wanted_none rfl) ?_ ⟨_, rfl, (Below.refl _ _), .loose rfl ⟨(fun e => absurd e (by decide)), (fun e => absurd e (by decide)), (fun e => absurd e (by decide)), (fun e => absurd e (by decide)), (fun _ => ⟨p, c, rfl, hr⟩)⟩⟩
      go_simp
    · have e1 : x'.tmps[65]?.getD undef = .int .i64 (N : Int) := (hw 11 (of_decide_eq_true (by kernel_rfl))).is rfl rfl
      clear hw hfr hcl hLo
      refine wpOp_on (v := .int .i64 (N : Int)) (w' := w2) rfl (wanted_none rfl) ?_ ⟨_, rfl, (Below.refl _ _), .known rfl ⟨(fun e => absurd e (by decide)), (fun e => absurd e (by decide)), (fun e => absurd e (by decide)), (fun e => absurd e (by decide)), (fun e => absurd e (by decide))⟩⟩
      go_simp
  case hrest =>
    intro L f wz hL hj hF
    obtain ⟨p11, c11, e11, hr11⟩ : ∃ p c, f 12 = .slice p new.length c ∧ wz.ownsRow W6.heap.size 36 2 (.slice p new.length c) new.length (flatS new) := (hF 12 (by omega)).2.2.2.2.2 rfl
    have f13 : f 13 = .int .i64 (N : Int) := (hF 13 (by omega)).is rfl
    clear hF hL
    simp only [putSlots, slL, List.range, List.range.loop, List.foldl, List.getElem?_cons_zero, List.getElem?_cons_succ, Option.getD_some, List.setIfInBounds_toArray, List.set_cons_succ, List.set_cons_zero, e11, f13]
    clear e11 f13
    have HBZ := Lib.hid (HB6.out.trans (hj.mono HB6.out.size))
    have HJ := Lib.hid hj
    have HR11 := Lib.hid hr11
    have hcvz := HCV.out wz hj
    clear hj hr11
    go_wp2_with fail
    refine (HRD.out _).mono ?_
    rintro e w7 ⟨p7, c7, rfl, hr7, hb7⟩
    have HB7 := Lib.hid (HBZ.out.trans (hb7.mono HBZ.out.size))
    have HSS := Lib.hid (ssame_any p11 p7 new.length c11 c7 new w7 rfl (row_spans (row_below HR11.out hb7)) (row_spans hr7) (by omega))
    clear hr7 hb7 hcvz
    go_wp2_with fail
    refine HSS.out.mono ?_
    rintro e w8 ⟨rfl, nn, rfl⟩
    have hN2 : decide ((N : Int) ≤ 2) = true := decide_eq_true (by omega)
    go_wp2_with fail
    go_ret
    exact ⟨rfl, HB7.out.trans ((below_dn w7 nn).mono HB7.out.size)⟩
theorem sfew_any (s : ByteArray) (at_ by_ : Int) (w : World) (hs : s.size ≤ 140737488351232) (ha : -9223372036854775808 ≤ at_ ∧ at_ ≤ 9223372036854775807) (_hb : -9223372036854775808 ≤ by_ ∧ by_ ≤ 9223372036854775807) :
    Calls Try.prog 6 #[.string s, .int .i64 at_, .int .i64 by_] w fun e w' => e = .returned (.bool true) ∧ Below w.heap.size w w' := by
  by_cases h : 1200 < s.size ∨ s.size < 1 ∨ at_ < 0
  · exact sfew_out s at_ by_ hs w h
  · obtain ⟨a, rfl⟩ : ∃ a : Nat, at_ = (a : Int) := ⟨at_.toNat, by omega⟩
    exact sfew_in s a by_ w (by omega) (by omega) (by omega)
end Go.Proofs.Ytkcjiogackkecaa
