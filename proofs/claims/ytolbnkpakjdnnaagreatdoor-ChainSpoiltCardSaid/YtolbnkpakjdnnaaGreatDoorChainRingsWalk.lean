/-
  ChainRings: the law's walk. No statement is proved here.
-/
import Derived.Test.YtolbnkpakjdnnaaGreatDoorLinkMid
namespace Go.Proofs.YtolbnkpakjdnnaaGreatDoor
open Go.RowKit

section
variable {N : Nat} {K : KD} {gen tag refs : Int} {b : ByteArray} {ps : List Int}
theorem layK_same (K : KD) (t : Int) : layK K t (K.F t) = K := by
  have : updF K.F t (K.F t) = K.F := by
    funext u
    by_cases e : u = t
    · subst e; exact updF_same _ _ _
    · exact updF_other _ _ e
  show { K with F := updF K.F t (K.F t) } = K
  rw [this]
theorem getD_inj {ps : List Int} (hn : ps.Nodup) {i j : Nat} (hi : i < ps.length) (hj : j < ps.length) (h : ps.getD i 0 = ps.getD j 0) : i = j := by
  rw [List.getD_eq_getElem?_getD, List.getD_eq_getElem?_getD, List.getElem?_eq_getElem hi, List.getElem?_eq_getElem hj] at h
  have h : ps[i] = ps[j] := h
  rcases Nat.lt_trichotomy i j with hlt | hlt | hlt
  · exact absurd h (List.pairwise_iff_getElem.1 hn i j hi hj hlt)
  · exact hlt
  · exact absurd h.symm (List.pairwise_iff_getElem.1 hn j i hj hi hlt)
/-- A sector of a chain laid anew: one that is no such link breaks it. -/
theorem lay_broken (hc : ChainOn K.F gen tag refs b ps) (hn : ps.Nodup) {j : Nat} (hj : j < ps.length) {s : ByteArray} (hs : s ≠ .empty) (hb : (readL s).2 = false ∨ (readL s).1.num ≠ j) : chainR (layK K (ps.getD j 0) s) (ps.getD 0 0) = ([], 25) := by
  refine walk_broken hc hj (fun k hk => ?_) ?_ hb
  · have hne : ps.getD k 0 ≠ ps.getD j 0 := fun e => by have := getD_inj hn (by omega) hj e; omega
    have hF : (layK K (ps.getD j 0) s).F (ps.getD k 0) = K.F (ps.getD k 0) := updF_other _ _ hne
    unfold getR
    rw [hF, if_pos (by rw [hc.laid k (by omega)]; exact bs_text_ne (hc.ok (by omega)))]
  · have hF : (layK K (ps.getD j 0) s).F (ps.getD j 0) = s := updF_same _ _ _
    unfold getR
    rw [hF, if_pos hs]
theorem lay_ok (hc : ChainOn K.F gen tag refs b ps) (hH : ∀ p ∈ ps, p ∈ K.H) {j : Nat} (hj : j < ps.length) {s : ByteArray} (hs : s.size = 256) : setE K (ps.getD j 0) s = 0 ∧ setK K (ps.getD j 0) s = layK K (ps.getD j 0) s := by
  have hm := hc.mem hj
  have h2 := hc.range _ hm
  have hno : ¬ (ps.getD j 0 = 1 ∨ ps.getD j 0 ∉ K.H) := by
    rintro (h | h)
    · omega
    · exact h (hH _ hm)
  unfold setE setK
  rw [if_neg hno, if_neg hno, if_pos hs, if_pos hs]
  exact ⟨rfl, rfl⟩
theorem mod_nat {a q : Nat} : ((a : Int).tmod (q : Int) = ((a % q : Nat) : Int)) ∧ ((a : Int) % (q : Int) = ((a % q : Nat) : Int)) := ⟨by rw [Int.tmod_eq_emod_of_nonneg (by omega)]; rfl, rfl⟩
end
set_option maxRecDepth 100000 in
set_option maxHeartbeats 16000000 in
theorem crings_out (n from_ too : Int) (w : World) (ho : n < 300 ∨ 2000 < n ∨ from_ < 0 ∨ too < 0) :
    Calls Tryz.prog 6 #[.int .i64 n, .int .i64 from_, .int .i64 too] w fun e w' => e = .returned (.bool true) ∧ Below w.heap.size w w' := by
  have HA := Lib.hid (alive12_any w)
  by_cases h1 : n < 300
  · clear ho
    go_enter Tryz.func6, Tryz.ntmps6
    go_wp2_with (go_at_call 10; refine HA.out.mono ?_; rintro e w1 ⟨rfl, hb1⟩)
    go_ret
    exact ⟨rfl, hb1⟩
  by_cases h2 : 2000 < n
  · clear ho
    go_enter Tryz.func6, Tryz.ntmps6
    go_wp2_with (go_at_call 10; refine HA.out.mono ?_; rintro e w1 ⟨rfl, hb1⟩)
    go_ret
    exact ⟨rfl, hb1⟩
  by_cases h3 : from_ < 0
  · clear ho
    go_enter Tryz.func6, Tryz.ntmps6
    go_wp2_with (go_at_call 10; refine HA.out.mono ?_; rintro e w1 ⟨rfl, hb1⟩)
    go_ret
    exact ⟨rfl, hb1⟩
  have h4 : too < 0 := by omega
  clear ho
  go_enter Tryz.func6, Tryz.ntmps6
  go_wp2_with (go_at_call 10; refine HA.out.mono ?_; rintro e w1 ⟨rfl, hb1⟩)
  go_ret
  exact ⟨rfl, hb1⟩
set_option maxRecDepth 100000 in
set_option maxHeartbeats 16000000 in
theorem crings_in (n fr too : Nat) (w : World) (h1 : 300 ≤ n) (h2 : n ≤ 2000) :
    Calls Tryz.prog 6 #[.int .i64 (n : Int), .int .i64 (fr : Int), .int .i64 (too : Int)] w fun e w' => e = .returned (.bool true) ∧ Below w.heap.size w w' := by
  have HA := Lib.hid (alive12_any w)
  have HFR : Hid (∀ w1, Below w.heap.size w w1 → Calls Tryz.prog 11 #[.int .i64 250] w1 fun e w' => ∃ g gd K h, e = .returned (.pointer (some ⟨g, 0, none⟩)) ∧ DMk w w' g gd 1 250 K [] ∧ Fresh11 250 K h) := Lib.hid (fun w1 hb => fresh12_any (N := 250) (by omega) w w1 hb)
  obtain ⟨Z, hZ⟩ : ∃ Z, Z = zeroB n := ⟨_, rfl⟩
  have hmk : ∀ W : World, (Instr.makeSlice 57 (.int .i64 (n : Int)) (.int .i64 (n : Int))).run Tryz.prog W = .ok (.slice (some ⟨W.heap.size, 0, none⟩) n n) (W.alloc (.cells (Lib.byteCells Z.data.toList).toArray 5)) := fun W => by rw [hZ]; exact zeros_make W n (by omega)
  have hcv : ∀ W : World, (convert 57 9 (.slice (some ⟨W.heap.size, 0, none⟩) n n)).run Tryz.prog (W.alloc (.cells (Lib.byteCells Z.data.toList).toArray 5)) = .ok (.string Z) (W.alloc (.cells (Lib.byteCells Z.data.toList).toArray 5)) := fun W => by rw [hZ]; exact zeros_convert W n
  have HZS : Hid (Z.size = n) := Lib.hid (by rw [hZ]; exact zeroB_size n)
  have hzs : (Z.size : Int) = (n : Int) := by rw [HZS.out]
  have n1 : ¬ (n : Int) < 300 := by omega
  have n2 : ¬ 2000 < (n : Int) := by omega
  have n3 : ¬ (fr : Int) < 0 := by omega
  have n4 : ¬ (too : Int) < 0 := by omega
  have HNN := Lib.hid (And.intro h1 h2)
  clear hZ h1 h2
  go_enter Tryz.func6, Tryz.ntmps6
  go_wp2_with (go_at_call 10; refine HA.out.mono ?_; rintro e w1 ⟨rfl, hb1⟩; have HB1 := Lib.hid hb1; clear hb1)
  refine (HFR.out w1 HB1.out).mono ?_
  rintro e w2 ⟨g, gd, K, h, rfl, hs2, hf⟩
  have HS2 := Lib.hid (hs2.below ((Below.refl w2.heap.size w2).alloc (Nat.le_refl _) (.cells (Lib.byteCells Z.data.toList).toArray 5)))
  have hq9 : needN n ≤ 9 ∧ 2 ≤ needN n := by have := HNN.out; unfold needN; rw [if_neg (by omega)]; omega
  have HP := Lib.hid (kput_yes (gen := 1) (tag := 9) (b := Z) HS2.out hf.run (by omega) (by decide) (by rw [HZS.out]; have := HNN.out; omega) (by rw [fresh_len hf, HZS.out]; omega))
  clear hs2 hf HFR HA n1 n2 n3 n4
  go_wp2_with fail
  refine HP.out.mono ?_
  rintro e w3 ⟨K3, ps, rfl, hp⟩
  have hon := hp.on
  have hl : ps.length = needN n := by rw [hon.len, HZS.out]
  obtain ⟨q, hq⟩ : ∃ q, q = ps.length := ⟨_, rfl⟩
  have HQ := Lib.hid hq
  have hq2 : 2 ≤ q := by omega
  have hqI : (q : Int) ≤ 9 := by omega
  have hqI2 : ¬ (q : Int) < 2 := by omega
  have hqz : ¬ (q : Int) = 0 := by omega
  have HON := Lib.hid hon
  have HPY := Lib.hid hp
  have hp0 := hon.range _ (hon.mem (i := 0) (by omega))
  have HSE := Lib.hid (csectors_any (t0 := ps.getD 0 0) hp.st.st hp.run (by unfold I64; omega))
  rw [on_secs hon, on_chainR hon] at HSE
  simp only at HSE
  rw [← hq] at HSE
  obtain ⟨i, hi⟩ : ∃ i, i = fr % q := ⟨_, rfl⟩
  obtain ⟨j, hj⟩ : ∃ j, j = too % q := ⟨_, rfl⟩
  have hiq : i < q := by rw [hi]; exact Nat.mod_lt _ (by omega)
  have hjq : j < q := by rw [hj]; exact Nat.mod_lt _ (by omega)
  have m1 : (fr : Int).tmod (q : Int) = (i : Int) := by rw [hi]; exact mod_nat.1
  have m2 : (fr : Int) % (q : Int) = (i : Int) := by rw [hi]; exact mod_nat.2
  have m3 : (too : Int).tmod (q : Int) = (j : Int) := by rw [hj]; exact mod_nat.1
  have m4 : (too : Int) % (q : Int) = (j : Int) := by rw [hj]; exact mod_nat.2
  have m5 : IntKind.i64.wrap (i : Int) = (i : Int) := by rw [IntKind.wrap_i64]; omega
  have m6 : IntKind.i64.wrap (j : Int) = (j : Int) := by rw [IntKind.wrap_i64]; omega
  have hiqI : (i : Int) < (q : Int) := by omega
  have hjqI : (j : Int) < (q : Int) := by omega
  obtain ⟨p0, hp00⟩ : ∃ p0, p0 = ps.getD 0 0 := ⟨_, rfl⟩
  obtain ⟨pi, hpi⟩ : ∃ pi, pi = ps.getD i 0 := ⟨_, rfl⟩
  obtain ⟨pj, hpj⟩ : ∃ pj, pj = ps.getD j 0 := ⟨_, rfl⟩
  have HPI : Hid (ps[i]? = some pi) := Lib.hid (by rw [hpi, List.getD_eq_getElem?_getD, List.getElem?_eq_getElem (by omega)]; rfl)
  have HPJ : Hid (ps[j]? = some pj) := Lib.hid (by rw [hpj, List.getD_eq_getElem?_getD, List.getElem?_eq_getElem (by omega)]; rfl)
  obtain ⟨S, hS⟩ : ∃ S, S = K3.F pi := ⟨_, rfl⟩
  have hSt : S = bs (linkAt 1 9 1 Z ps i).text := by rw [hS, hpi]; exact hon.laid i (by omega)
  have HSS : Hid (S.size = 256) := Lib.hid (by rw [hSt, bs_size, (hon.ok (i := i) (by omega)).text_len])
  have hSS : (S.size : Int) = 256 := by rw [HSS.out]; rfl
  have HGI : Hid (∀ w1, Below w3.heap.size w3 w1 → Calls Tryz.prog 27 #[.pointer (some ⟨g, 0, none⟩), .int .i64 pi] w1 fun e w' => e = .returned (.tuple #[.string S, .int .i64 0]) ∧ Below w1.heap.size w1 w') := Lib.hid (fun w1 hb => by
    have := dst_getR (t := pi) (hp.st.st.below hb) hp.run (by rw [hpi]; have := hon.range _ (hon.mem (i := i) (by omega)); unfold I64; omega)
    rw [hpi, on_getR hon i (by omega), ← hpi, ← hS] at this
    exact this)
  have hin : ∀ p ∈ ps, p ∈ K3.H := fun p hm => (hp.left.mem p).2 (.inr hm)
  obtain ⟨t1, t2⟩ := lay_ok hon hin (j := j) (by omega) HSS.out
  obtain ⟨K4, hK4⟩ : ∃ K4, K4 = layK K3 pj S := ⟨_, rfl⟩
  have HSET : Hid (∀ w1 Ms, DMk w w1 g gd (1 + 40) 250 K3 Ms → Calls Tryz.prog 28 #[.pointer (some ⟨g, 0, none⟩), .int .i64 pj, .string S] w1 fun e w' => e = .returned (.int .i64 0) ∧ DMk w w' g gd (1 + 40 + 1) 250 K4 Ms) := Lib.hid (fun w1 Ms hs => by
    have := dmk_set hs hp.run (by omega) pj (x := S) (by rw [HSS.out]; omega)
    rw [hpj, t1, t2, ← hpj, ← hK4] at this
    exact this)
  have HR4 : Hid (Run11 250 K4 h 2) := Lib.hid (by
    have := hp.run.set pj S
    rw [hpj, t2, ← hpj, ← hK4] at this
    exact this)
  have HG4 : Hid (∀ w1 Ms, DMk w w1 g gd (1 + 40 + 1) 250 K4 Ms → Calls Tryz.prog 19 #[.pointer (some ⟨g, 0, none⟩), .int .i64 p0] w1 fun e w' => e = .returned (.tuple #[chV (getC (chainR K4 p0)), .int .i64 (chainR K4 p0).2]) ∧ Below w1.heap.size w1 w') := Lib.hid (fun w1 Ms hs => cget_any hs.st HR4.out (by rw [hp00]; unfold I64; omega))
  have HSAME : Hid (i = j → chainR K4 p0 = (linksC 1 9 1 Z ps ps.length, 0) ∧ getC (chainR K4 p0) = (1, 9, 1, Z)) := Lib.hid (fun e => by
    have : K4 = K3 := by rw [hK4, hS, hpi, hpj, e]; exact layK_same _ _
    rw [this, hp00]
    exact ⟨on_chainR hon, on_getC hon⟩)
  have HDIFF : Hid (i ≠ j → chainR K4 p0 = ([], 25)) := Lib.hid (fun e => by
    rw [hK4, hp00, hpj]
    refine lay_broken hon hp.left.once (by omega) (by rw [hSt]; exact bs_text_ne (hon.ok (by omega))) (.inr ?_)
    rw [hSt, (hon.ok (i := i) (by omega)).reads]
    show (i : Int) ≠ (j : Int)
    omega)
  rw [← hp00] at HSE ⊢
  clear hp hon hl hq hp0 hp00 HP hmk hcv hi hj hpi hpj hS hSt hin t1 t2 hK4 hq9
  go_wp2_with fail
  refine HSE.out.mono ?_
  rintro e w4 ⟨A, c, rfl, hrow, -, hb4⟩
  obtain ⟨gr, cap, e1, _, hlt⟩ := hrow.form (by omega)
  injection e1 with e1 _ e3
  subst e1 e3
  have HB4 : Hid (Below w3.heap.size w3 w4) := Lib.hid hb4
  have HS4 := Lib.hid (HPY.out.st.below hb4)
  have HROW := Lib.hid hrow
  have ci := row_cell hrow (i := i) (u := .int .i64 pi) (by rw [List.getElem?_map, HPI.out]; rfl)
  clear hrow hb4 hlt HSE
  go_wp2_with fail
  go_quiet (fail)
  go_wp2_with fail
  refine (HGI.out _ (below_drewN HB4.out nq)).mono ?_
  rintro e w5 ⟨rfl, hb5⟩
  have HS5 := Lib.hid ((show DMk w (w4.drewN nq) g gd (1 + 40) 250 K3 [] from HS4.out.below ⟨rfl, rfl, rfl, Nat.le_refl _, fun _ _ => rfl⟩).below hb5)
  have cj := row_cell (row_below (show (w4.drewN nq).ownsRow _ _ _ _ _ _ from HROW.out) hb5) (i := j) (u := .int .i64 pj) (by rw [List.getElem?_map, HPJ.out]; rfl)
  clear hb5 ci HS4
  go_wp2_with fail
  refine (HSET.out _ _ HS5.out).mono ?_
  rintro e w6 ⟨rfl, hs6⟩
  have HS6 := Lib.hid hs6
  clear hs6 cj HS5
  have HG6 := Lib.hid (HG4.out _ _ HS6.out)
  by_cases hij : i = j
  · obtain ⟨y1, y2⟩ := HSAME.out hij
    rw [y2, y1] at HG6
    subst hij
    clear y1 y2 HSAME HDIFF HG4 m3 m4 m6 hjqI
    go_wp2_with fail
    refine HG6.out.mono ?_
    rintro e w7 ⟨rfl, hb7⟩
    have HB7 : Hid (Below w.heap.size w w7) := Lib.hid (HS6.out.st.at0.trans (hb7.mono HS6.out.st.at0.size))
    clear hb7
    unfold chV
    go_wp2_with fail
    go_ret
    exact ⟨rfl, HB7.out.alloc HB7.out.size _⟩
  · have y1 := HDIFF.out hij
    rw [y1] at HG6
    have hijI : ((i : Int) == (j : Int)) = false := by simp; omega
    clear y1 hij HSAME HDIFF HG4
    go_wp2_with fail
    refine HG6.out.mono ?_
    rintro e w7 ⟨rfl, hb7⟩
    have HB7 : Hid (Below w.heap.size w w7) := Lib.hid (HS6.out.st.at0.trans (hb7.mono HS6.out.st.at0.size))
    clear hb7
    unfold chV getC
    simp only
    go_wp2_with fail
    go_ret
    exact ⟨rfl, HB7.out.alloc HB7.out.size _⟩
theorem crings_any (n from_ too : Int) (w : World) (_ : -9223372036854775808 ≤ n ∧ n ≤ 9223372036854775807) (_ : -9223372036854775808 ≤ from_ ∧ from_ ≤ 9223372036854775807) (_ : -9223372036854775808 ≤ too ∧ too ≤ 9223372036854775807) :
    Calls Tryz.prog 6 #[.int .i64 n, .int .i64 from_, .int .i64 too] w fun e w' => e = .returned (.bool true) ∧ Below w.heap.size w w' := by
  by_cases ho : n < 300 ∨ 2000 < n ∨ from_ < 0 ∨ too < 0
  · exact crings_out n from_ too w ho
  · obtain ⟨n', rfl⟩ : ∃ m : Nat, n = (m : Int) := ⟨n.toNat, by omega⟩
    obtain ⟨f', rfl⟩ : ∃ m : Nat, from_ = (m : Int) := ⟨from_.toNat, by omega⟩
    obtain ⟨t', rfl⟩ : ∃ m : Nat, too = (m : Int) := ⟨too.toNat, by omega⟩
    exact crings_in n' f' t' w (by omega) (by omega)
end Go.Proofs.YtolbnkpakjdnnaaGreatDoor
