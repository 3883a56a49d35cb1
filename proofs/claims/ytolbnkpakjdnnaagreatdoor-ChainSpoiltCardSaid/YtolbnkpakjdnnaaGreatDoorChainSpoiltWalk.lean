/-
  ChainSpoilt: the law's walk. No statement is proved here.
-/
import Derived.Test.YtolbnkpakjdnnaaGreatDoorChainRingsWalk
import Derived.Lib.ConvBytes
namespace Go.Proofs.YtolbnkpakjdnnaaGreatDoor
open Go.RowKit

theorem byte_turn12 (x : UInt8) (by_ : Int) : ∃ c : UInt8, bits .xor .u8 (x.toNat : Int) (by_ % 256) = (c.toNat : Int) ∧ (x = c ↔ by_ % 256 = 0) := by
  obtain ⟨v, hv⟩ : ∃ v : Nat, (v : Int) = by_ % 256 := ⟨(by_ % 256).toNat, by omega⟩
  have hx := x.toNat_lt
  have hlt : x.toNat ^^^ v < 256 := Nat.xor_lt_two_pow (n := 8) hx (by omega)
  have h8 : ∀ n : Nat, n < 256 → (n.toUInt8).toNat = n := fun n hn => by
    have : (n.toUInt8).toNat = n % 256 := by simp [Nat.toUInt8]
    rw [this, Nat.mod_eq_of_lt hn]
  refine ⟨(x.toNat ^^^ v).toUInt8, ?_, fun e => ?_, fun e => ?_⟩
  · rw [← hv, u8_xor_nat x.toNat v hx (by omega), h8 _ hlt]
  · have e2 : x.toNat = x.toNat ^^^ v := (congrArg UInt8.toNat e).trans (h8 _ hlt)
    have e3 : x.toNat ^^^ 0 = x.toNat ^^^ v := by rw [Nat.xor_zero]; exact e2
    have := xor_left e3
    omega
  · obtain rfl : v = 0 := by omega
    rw [Nat.xor_zero]
    apply UInt8.toNat_inj.1
    rw [h8 _ hx]
theorem bytes_frozen12 (w : World) (e : TypeId) (s : ByteArray) (j : Nat) (hj : j < s.size) : (Lib.bytesWorld w e s).frozen? ⟨w.heap.size, j, none⟩ = false := by
  have h := Lib.bytesWorld_at_new w e s
  have hs : s.size ≤ (Lib.bytesCells w e s).size := by
    have : s.data.size = s.size := rfl
    simp [Lib.bytesCells]
  simp [World.frozen?, h]
  intro _
  omega
theorem bytes_below12 (w : World) (e : TypeId) (s : ByteArray) : Below w.heap.size w (Lib.bytesWorld w e s) :=
  ⟨rfl, rfl, rfl, by rw [Lib.bytesWorld_size]; omega, fun i hi => Lib.bytesWorld_at_old w e s i hi⟩
/-- A text whose byte at v is another one. -/
def turnB (s : ByteArray) (v : Nat) (c : UInt8) : ByteArray := ⟨(s.data.toList.set v c).toArray⟩
theorem turnB_size (s : ByteArray) (v : Nat) (c : UInt8) : (turnB s v c).size = s.size := by
  rw [Lib.size_eq, Lib.size_eq]
  show (s.data.toList.set v c).length = _
  rw [List.length_set]
theorem turnB_same {s : ByteArray} {v : Nat} (hv : v < s.size) : turnB s v (s.data.toList.getD v 0) = s := by
  have hl : v < s.data.toList.length := by rw [← Lib.size_eq]; exact hv
  apply ByteArray.ext
  apply Array.toList_inj.1
  show s.data.toList.set v (s.data.toList.getD v 0) = _
  rw [List.getD_eq_getElem?_getD, List.getElem?_eq_getElem hl]
  exact List.set_getElem_self hl
theorem turned_bad {x : LK} {v : Nat} {c : UInt8} (hv : v < (bs x.text).size) (hc : (bs x.text).data.toList.getD v 0 ≠ c) : (readL (turnB (bs x.text) v c)).2 = false := by
  have hl : v < (body 256 x.bytes ++ lowBytes 4 (crc (body 256 x.bytes))).length := by rw [bs_size] at hv; exact hv
  have e : (turnB (bs x.text) v c).data.toList = (body 256 x.bytes ++ lowBytes 4 (crc (body 256 x.bytes))).set v c := rfl
  unfold readL
  rw [e, openB_set (body 256 x.bytes) hl ?_]
  · rfl
  · intro h
    apply hc
    rw [bs_list, List.getD_eq_getElem?_getD]
    show (body 256 x.bytes ++ lowBytes 4 (crc (body 256 x.bytes)))[v]?.getD 0 = c
    rw [List.getElem?_eq_getElem hl]
    exact h
section
variable {F F' : Int → ByteArray} {gen tag refs : Int} {b : ByteArray} {ps : List Int}
theorem ChainOn.kept (h : ChainOn F gen tag refs b ps) (hF : ∀ p ∈ ps, F' p = F p) : ChainOn F' gen tag refs b ps :=
  ⟨h.fit, h.used, h.few, h.len, h.range, fun i hi => (hF _ (h.mem hi)).trans (h.laid i hi)⟩
/-- The first sector of a chain, laid elsewhere: the chain begins there, too. -/
theorem ChainOn.head (h : ChainOn F gen tag refs b ps) {x : Int} (hx : 2 ≤ x ∧ x < 65536) (h0 : F' x = F (ps.getD 0 0)) (hF : ∀ p ∈ ps, F' p = F p) : ChainOn F' gen tag refs b (x :: ps.tail) := by
  have hc := h.count
  have hl : (x :: ps.tail).length = ps.length := by rw [List.length_cons, List.length_tail]; omega
  have hg : ∀ i, (x :: ps.tail).getD (i + 1) 0 = ps.getD (i + 1) 0 := fun i => by
    rw [List.getD_eq_getElem?_getD, List.getD_eq_getElem?_getD, List.getElem?_cons_succ, List.getElem?_tail]
  refine ⟨h.fit, h.used, h.few, by rw [hl, h.len], fun p hp => ?_, fun i hi => ?_⟩
  · rcases List.mem_cons.1 hp with rfl | hp
    · exact hx
    · exact h.range p (List.mem_of_mem_tail hp)
  · have e : linkAt gen tag refs b (x :: ps.tail) i = linkAt gen tag refs b ps i := by
      unfold linkAt
      rw [hg]
    rw [e]
    cases i with
    | zero =>
      show F' x = _
      rw [h0]
      exact h.laid 0 (by omega)
    | succ i =>
      rw [hg, hF _ (h.mem (by omega))]
      exact h.laid (i + 1) (by omega)
end

set_option maxRecDepth 100000 in
set_option maxHeartbeats 16000000 in
theorem cspoilt_out (a b : ByteArray) (more at_ by_ : Int) (sw : Bool) (w : World) (ho : 400 < a.size ∨ 400 < b.size ∨ more < 0 ∨ 900 < more ∨ at_ < 0) :
    Calls Tryz.prog 4 #[.string a, .string b, .int .i64 more, .int .i64 at_, .int .i64 by_, .bool sw] w fun e w' => e = .returned (.bool true) ∧ Below w.heap.size w w' := by
  have HA := Lib.hid (alive12_any w)
  obtain ⟨sa, hsa⟩ : ∃ sa, sa = a.size := ⟨_, rfl⟩
  obtain ⟨sb, hsb⟩ : ∃ sb, sb = b.size := ⟨_, rfl⟩
  have ea : (a.size : Int) = (sa : Int) := by rw [hsa]
  have eb : (b.size : Int) = (sb : Int) := by rw [hsb]
  rw [← hsa, ← hsb] at ho
  clear hsa hsb
  by_cases g0 : 400 < sa
  · clear ho
    have q0 : (400 : Int) < (sa : Int) := by omega
    go_enter Tryz.func4, Tryz.ntmps4
    go_wp2_with (go_at_call 10; refine HA.out.mono ?_; rintro e w1 ⟨rfl, hb1⟩)
    go_ret
    exact ⟨rfl, hb1⟩
  have q0 : ¬ (400 : Int) < (sa : Int) := by omega
  by_cases g1 : 400 < sb
  · clear ho
    have q1 : (400 : Int) < (sb : Int) := by omega
    go_enter Tryz.func4, Tryz.ntmps4
    go_wp2_with (go_at_call 10; refine HA.out.mono ?_; rintro e w1 ⟨rfl, hb1⟩)
    go_ret
    exact ⟨rfl, hb1⟩
  have q1 : ¬ (400 : Int) < (sb : Int) := by omega
  by_cases g2 : more < 0
  · clear ho
    go_enter Tryz.func4, Tryz.ntmps4
    go_wp2_with (go_at_call 10; refine HA.out.mono ?_; rintro e w1 ⟨rfl, hb1⟩)
    go_ret
    exact ⟨rfl, hb1⟩
  by_cases g3 : 900 < more
  · clear ho
    go_enter Tryz.func4, Tryz.ntmps4
    go_wp2_with (go_at_call 10; refine HA.out.mono ?_; rintro e w1 ⟨rfl, hb1⟩)
    go_ret
    exact ⟨rfl, hb1⟩
  have g4 : at_ < 0 := by omega
  clear ho
  go_enter Tryz.func4, Tryz.ntmps4
  go_wp2_with (go_at_call 10; refine HA.out.mono ?_; rintro e w1 ⟨rfl, hb1⟩)
  go_ret
  exact ⟨rfl, hb1⟩
set_option maxRecDepth 100000 in
set_option maxHeartbeats 16000000 in
theorem cspoilt_in (a b : ByteArray) (m at_ : Nat) (by_ : Int) (sw : Bool) (w : World) (ha : a.size ≤ 400) (hb : b.size ≤ 400) (hm : m ≤ 900) (hat : (at_ : Int) ≤ 9223372036854775807) :
    Calls Tryz.prog 4 #[.string a, .string b, .int .i64 (m : Int), .int .i64 (at_ : Int), .int .i64 by_, .bool sw] w fun e w' => e = .returned (.bool true) ∧ Below w.heap.size w w' := by
  have HA := Lib.hid (alive12_any w)
  have HFR : Hid (∀ w1, Below w.heap.size w w1 → Calls Tryz.prog 11 #[.int .i64 250] w1 fun e w' => ∃ g gd K h, e = .returned (.pointer (some ⟨g, 0, none⟩)) ∧ DMk w w' g gd 1 250 K [] ∧ Fresh11 250 K h) := Lib.hid (fun w1 hb => fresh12_any (N := 250) (by omega) w w1 hb)
  obtain ⟨Z, hZ⟩ : ∃ Z, Z = zeroB m := ⟨_, rfl⟩
  have HZ : Hid (∀ w1, Calls Tryz.prog 13 #[.int .i64 (m : Int)] w1 fun e w' => e = .returned (.string Z) ∧ Below w1.heap.size w1 w') := Lib.hid (fun w1 => by rw [hZ]; exact ref_zeros m w1 (by omega))
  have hzsz : Z.size = m := by rw [hZ]; exact zeroB_size m
  obtain ⟨a2, ha2⟩ : ∃ a2, a2 = a ++ Z := ⟨_, rfl⟩
  have HA2 : Hid (a2.size ≤ 1300) := Lib.hid (by rw [ha2, ByteArray.size_append]; omega)
  have hcat : a.size + Z.size ≤ 9223372036854775807 := by omega
  have HBS : Hid (b.size ≤ 400) := Lib.hid hb
  have q0 : ¬ (400 : Int) < (a.size : Int) := by omega
  have q1 : ¬ (400 : Int) < (b.size : Int) := by omega
  have q2 : ¬ (m : Int) < 0 := by omega
  have q3 : ¬ 900 < (m : Int) := by omega
  have q4 : ¬ (at_ : Int) < 0 := by omega
  have HCE := Lib.hid ha2
  have hbb : (b.toList == b.toList) = true := by rw [same_text]; exact decide_eq_true rfl
  have haa : (a2.toList == a2.toList) = true := by rw [same_text]; exact decide_eq_true rfl
  clear hZ hzsz ha hb hm ha2
  go_enter Tryz.func4, Tryz.ntmps4
  go_wp2_with (go_at_call 10; refine HA.out.mono ?_; rintro e w1 ⟨rfl, hb1⟩; have HB1 := Lib.hid hb1; clear hb1)
  refine (HFR.out w1 HB1.out).mono ?_
  rintro e w2 ⟨g, gd, K, h, rfl, hs2, hf⟩
  have HS2 := Lib.hid hs2
  have HF2 := Lib.hid hf
  clear hs2 hf HFR HA HB1
  go_wp2_with fail
  refine (HZ.out _).mono ?_
  rintro e w2z ⟨rfl, hbz⟩
  have HS2z := Lib.hid (HS2.out.below hbz)
  clear hbz HS2 HZ
  have HP := Lib.hid (kput_yes (gen := 2) (tag := 7) (b := a2) HS2z.out HF2.out.run (by omega) (by decide) (by have := HA2.out; omega) (by rw [fresh_len HF2.out]; have := HA2.out; unfold needN; split <;> omega))
  rw [HCE.out] at HP
  clear q0 q1 q2 q3 q4
  go_wp2_with fail
  refine HP.out.mono ?_
  rintro e w3 ⟨K2, px, rfl, hp⟩
  rw [← HCE.out] at hp
  have HPX := Lib.hid hp
  have HNX : Hid (needN a2.size ≤ 6) := Lib.hid (by have := HA2.out; unfold needN; split <;> omega)
  have HNB : Hid (needN b.size ≤ 2) := Lib.hid (by have := HBS.out; unfold needN; split <;> omega)
  have HPB := Lib.hid (kput_yes (gen := 2) (tag := 8) (b := b) hp.st hp.run (by omega) (by decide) (by have := HBS.out; omega) (by rw [hp.left.cnt, fresh_len HF2.out]; have h1 := HNX.out; have h2 : needN b.size ≤ 2 := HNB.out; omega))
  clear hp HP HS2z
  obtain ⟨x0, hx0⟩ : ∃ x0, x0 = px.getD 0 0 := ⟨_, rfl⟩
  rw [← hx0]
  have HX0 := Lib.hid hx0
  clear hx0
  go_wp2_with fail
  refine HPB.out.mono ?_
  rintro e w4 ⟨K3, py, rfl, hq⟩
  have hp := HPX.out
  have HPY := Lib.hid hq
  obtain ⟨y0, hy0⟩ : ∃ y0, y0 = py.getD 0 0 := ⟨_, rfl⟩
  rw [← hy0]
  have HY0 := Lib.hid hy0
  -- both chains, and that they are apart
  have hxy : ∀ p ∈ px, p ∉ py := fun p hpx hpy => (hq.left.fresh p hpy).1 ((hp.left.mem p).2 (.inr hpx))
  have honx : ChainOn K3.F 2 7 1 a2 px := hp.on.kept (fun p hpx => hq.left.rest p (hxy p hpx))
  have hony := hq.on
  have hinx : ∀ p ∈ px, p ∈ K3.H := fun p hm => (hq.left.mem p).2 (.inl ((hp.left.mem p).2 (.inr hm)))
  have HXY := Lib.hid hxy
  have HONX := Lib.hid honx
  have HONY := Lib.hid hony
  have HINX := Lib.hid hinx
  have hcx := honx.count
  have hcy := hony.count
  obtain ⟨q, hq'⟩ : ∃ q, q = px.length := ⟨_, rfl⟩
  have HQ := Lib.hid hq'
  have hq1 : 1 ≤ q := by omega
  have hqI : (q : Int) ≤ 40 := by omega
  have hqz : ¬ (q : Int) = 0 := by omega
  have hqz2 : ((q : Int) == 0) = false := by simp; omega
  have hx0r := honx.range _ (honx.mem (i := 0) (by omega))
  have hy0r := hony.range _ (hony.mem (i := 0) (by omega))
  have HX0R : Hid (I64 x0) := Lib.hid (by rw [HX0.out]; unfold I64; omega)
  have HY0R : Hid (I64 y0) := Lib.hid (by rw [hy0]; unfold I64; omega)
  have HSE := Lib.hid (csectors_any hq.st.st hq.run HX0R.out)
  rw [HX0.out, on_secs honx, on_chainR honx, ← HX0.out] at HSE
  simp only at HSE
  rw [← hq'] at HSE
  obtain ⟨j, hj⟩ : ∃ j, j = at_ % q := ⟨_, rfl⟩
  have hjq : j < q := by rw [hj]; exact Nat.mod_lt _ (by omega)
  have m1 : (at_ : Int).tmod (q : Int) = (j : Int) := by rw [hj]; exact mod_nat.1
  have m2 : (at_ : Int) % (q : Int) = (j : Int) := by rw [hj]; exact mod_nat.2
  have m5 : IntKind.i64.wrap (j : Int) = (j : Int) := by rw [IntKind.wrap_i64]; omega
  have hjqI : (j : Int) < (q : Int) := by omega
  obtain ⟨pw, hpw⟩ : ∃ pw, pw = px.getD j 0 := ⟨_, rfl⟩
  have HPW := Lib.hid hpw
  have HPWE : Hid (px[j]? = some pw) := Lib.hid (by rw [hpw, List.getD_eq_getElem?_getD, List.getElem?_eq_getElem (by omega)]; rfl)
  have hpwr := honx.range _ (honx.mem (i := j) (by omega))
  have HPWR : Hid (I64 pw) := Lib.hid (by rw [hpw]; unfold I64; omega)
  obtain ⟨S, hS⟩ : ∃ S, S = K3.F pw := ⟨_, rfl⟩
  have HS := Lib.hid hS
  have HSX : Hid (S = bs (linkAt 2 7 1 a2 px j).text) := Lib.hid (by rw [hS, hpw]; exact honx.laid j (by omega))
  have HSS : Hid (S.size = 256) := Lib.hid (by rw [HSX.out, bs_size, (honx.ok (i := j) (by omega)).text_len])
  have hSS : (S.size : Int) = 256 := by rw [HSS.out]; rfl
  have HGW : Hid (∀ w1, Below w4.heap.size w4 w1 → Calls Tryz.prog 27 #[.pointer (some ⟨g, 0, none⟩), .int .i64 pw] w1 fun e w' => e = .returned (.tuple #[.string S, .int .i64 0]) ∧ Below w1.heap.size w1 w') := Lib.hid (fun w1 hb => by
    have := dst_getR (t := pw) (hq.st.st.below hb) hq.run HPWR.out
    rw [hpw, on_getR honx j (by omega), ← hpw, ← hS] at this
    exact this)
  have HJQ : Hid (j < px.length) := Lib.hid (by omega)
  have HSETK : Hid (∀ X : ByteArray, X.size = 256 → (∀ w1 Ms, DMk w w1 g gd (1 + 40 + 40) 250 K3 Ms → Calls Tryz.prog 28 #[.pointer (some ⟨g, 0, none⟩), .int .i64 pw, .string X] w1 fun e w' => e = .returned (.int .i64 0) ∧ DMk w w' g gd (1 + 40 + 40 + 1) 250 (layK K3 pw X) Ms) ∧ Run11 250 (layK K3 pw X) h 2) := Lib.hid (fun X hX => by
    obtain ⟨t1, t2⟩ := lay_ok (s := X) HONX.out HINX.out HJQ.out hX
    refine ⟨fun w1 Ms hs => ?_, ?_⟩
    · have := dmk_set hs HPY.out.run (by omega) pw (x := X) (by omega)
      rw [HPW.out, t1, t2, ← HPW.out] at this
      exact this
    · have := HPY.out.run.set pw X
      rw [HPW.out, t2, ← HPW.out] at this
      exact this)
  -- y's chain stays, whatever is laid at a sector of x's
  have HONY4 : Hid (∀ X, ChainOn (layK K3 pw X).F 2 8 1 b py) := Lib.hid (fun X => HONY.out.kept (fun p hp => updF_other _ _ (fun e => HXY.out pw (by rw [HPW.out]; exact HONX.out.mem HJQ.out) (e ▸ hp))))
  clear hp hq hy0 hxy honx hony hinx hcx hcy hq' hx0r hy0r hj hpw hpwr hS HPB
  go_wp2_with fail
  refine HSE.out.mono ?_
  rintro e w5 ⟨A, c, rfl, hrow, -, hb5⟩
  obtain ⟨gr, cap, e1, _, hlt⟩ := hrow.form (by omega)
  injection e1 with e1 _ e3
  subst e1 e3
  have HB5 : Hid (Below w4.heap.size w4 w5) := Lib.hid hb5
  have HS5 := Lib.hid (HPY.out.st.below hb5)
  have cj := row_cell hrow (i := j) (u := .int .i64 pw) (by rw [List.getElem?_map, HPWE.out]; rfl)
  clear hrow hb5 hlt HSE
  go_wp2_with fail
  refine (HGW.out _ HB5.out).mono ?_
  rintro e w6 ⟨rfl, hb6⟩
  have HS6 := Lib.hid (HS5.out.below hb6)
  clear hb6 cj HS5 HGW HB5
  cases sw with
  | true =>
    obtain ⟨T, hT⟩ : ∃ T, T = K3.F y0 := ⟨_, rfl⟩
    have HT := Lib.hid hT
    have HTX : Hid (T = bs (linkAt 2 8 1 b py 0).text) := Lib.hid (by rw [hT, HY0.out]; exact HONY.out.laid 0 (by have := HONY.out.count; omega))
    have HTS : Hid (T.size = 256) := Lib.hid (by rw [HTX.out, bs_size, (HONY.out.ok (i := 0) (by have := HONY.out.count; omega)).text_len])
    have HGY : Hid (∀ w1 Ms, DMk w w1 g gd (1 + 40 + 40) 250 K3 Ms → Calls Tryz.prog 27 #[.pointer (some ⟨g, 0, none⟩), .int .i64 y0] w1 fun e w' => e = .returned (.tuple #[.string T, .int .i64 0]) ∧ Below w1.heap.size w1 w') := Lib.hid (fun w1 Ms hs => by
      have := dst_getR (t := y0) hs.st HPY.out.run HY0R.out
      rw [HY0.out, on_getR HONY.out 0 (by have := HONY.out.count; omega), ← HY0.out, ← hT] at this
      exact this)
    obtain ⟨K4, hK4⟩ : ∃ K4, K4 = layK K3 pw T := ⟨_, rfl⟩
    obtain ⟨hset, hrun4⟩ := HSETK.out T HTS.out
    rw [← hK4] at hset hrun4
    have HSET := Lib.hid hset
    have HR4 := Lib.hid hrun4
    have hony4 := HONY4.out T
    rw [← hK4] at hony4
    have HGX4 : Hid (∀ w1 Ms, DMk w w1 g gd (1 + 40 + 40 + 1) 250 K4 Ms → Calls Tryz.prog 19 #[.pointer (some ⟨g, 0, none⟩), .int .i64 x0] w1 fun e w' => e = .returned (.tuple #[chV (getC (chainR K4 x0)), .int .i64 (chainR K4 x0).2]) ∧ Below w1.heap.size w1 w') := Lib.hid (fun w1 Ms hs => cget_any hs.st HR4.out HX0R.out)
    have HGY4 : Hid (∀ w1 Ms, DMk w w1 g gd (1 + 40 + 40 + 1) 250 K4 Ms → Calls Tryz.prog 19 #[.pointer (some ⟨g, 0, none⟩), .int .i64 y0] w1 fun e w' => e = .returned (.tuple #[.agg #[.int .i64 2, .int .i64 8, .int .i64 1, .string b], .int .i64 0]) ∧ Below w1.heap.size w1 w') := Lib.hid (fun w1 Ms hs => by
      have := cget_any hs.st HR4.out HY0R.out
      rw [HY0.out, on_getC hony4, on_chainR hony4, ← HY0.out] at this
      exact this)
    have HFIRST : Hid (j = 0 → chV (getC (chainR K4 x0)) = .agg #[.int .i64 2, .int .i64 8, .int .i64 1, .string b] ∧ (chainR K4 x0).2 = 0) := Lib.hid (fun e => by
      subst e
      have hpx : pw = x0 := by rw [HPW.out, HX0.out]
      have hh : ChainOn K4.F 2 8 1 b (x0 :: py.tail) := HONY.out.head (by rw [← hpx, HPW.out]; exact HONX.out.range _ (HONX.out.mem HJQ.out)) (by rw [hK4, hpx, ← HY0.out, ← hT]; exact updF_same _ _ _) (fun p hp => by rw [hK4]; exact updF_other _ _ (fun e => HXY.out pw (by rw [HPW.out]; exact HONX.out.mem HJQ.out) (e ▸ hp)))
      have h1 := on_getC hh
      have h2 := on_chainR hh
      have e0 : (x0 :: py.tail).getD 0 0 = x0 := rfl
      rw [e0] at h1 h2
      rw [h1, h2]
      exact ⟨rfl, rfl⟩)
    have HELSE : Hid (j ≠ 0 → chainR K4 x0 = ([], 25)) := Lib.hid (fun e => by
      rw [hK4, HX0.out, HPW.out]
      refine lay_broken HONX.out HPX.out.left.once HJQ.out (by rw [HTX.out]; exact bs_text_ne (HONY.out.ok (by have := HONY.out.count; omega))) (.inr ?_)
      rw [HTX.out, (HONY.out.ok (i := 0) (by have := HONY.out.count; omega)).reads]
      show ((0 : Nat) : Int) ≠ (j : Int)
      omega)
    clear hT hK4 hset hrun4 hony4
    go_wp2_with fail
    refine (HGY.out _ _ HS6.out).mono ?_
    rintro e w7 ⟨rfl, hb7⟩
    have HS7 := Lib.hid (HS6.out.below hb7)
    clear hb7 HS6
    go_wp2_with fail
    refine (HSET.out _ _ HS7.out).mono ?_
    rintro e w8 ⟨rfl, hs8⟩
    have HS8 := Lib.hid hs8
    clear hs8 HS7
    have HG8 := Lib.hid (HGX4.out _ _ HS8.out)
    by_cases hj0 : j = 0
    · subst hj0
      obtain ⟨z1, z2⟩ := HFIRST.out rfl
      rw [z1, z2] at HG8
      clear z1 z2 HFIRST HELSE
      go_wp2_with fail
      refine HG8.out.mono ?_
      rintro e w9 ⟨rfl, hb9⟩
      have HS9 := Lib.hid ((HS8.out.below hb9).hold (w' := w9.alloc (.cells #[.int .i64 2, .int .i64 8, .int .i64 1, .string b] 43)) ((Below.refl _ _).alloc (Nat.le_refl _) _) (Nat.le_refl _) (Blk.new w9 43 #[.int .i64 2, .int .i64 8, .int .i64 1, .string b]))
      clear hb9 HS8
      go_wp2_with fail
      refine (HGY4.out _ _ HS9.out).mono ?_
      rintro e w10 ⟨rfl, hb10⟩
      have HS10 := Lib.hid (HS9.out.below hb10)
      have hk := Blk.alloc (show Blk w10 w9.heap.size 43 #[.int .i64 2, .int .i64 8, .int .i64 1, .string b] from HS10.out.held (by simp)) (.cells #[.int .i64 2, .int .i64 8, .int .i64 1, .string b] 43)
      have k0 := hk.cell 0
      have k1 := hk.cell 1
      have k2 := hk.cell 2
      have k3 := hk.cell 3
      simp at k0 k1 k2 k3
      clear hb10 HS9 hk
      go_wp2_with fail
      go_ret
      exact ⟨rfl, HS10.out.st.at0.alloc HS10.out.st.at0.size _⟩
    · rw [HELSE.out hj0] at HG8
      have hj0I : ((j : Int) == 0) = false := by simp; omega
      clear hj0 HFIRST HELSE
      go_wp2_with fail
      refine HG8.out.mono ?_
      rintro e w9 ⟨rfl, hb9⟩
      have HB9 : Hid (Below w.heap.size w w9) := Lib.hid (HS8.out.st.at0.trans (hb9.mono HS8.out.st.at0.size))
      clear hb9
      unfold chV getC
      simp only
      go_wp2_with fail
      go_ret
      exact ⟨rfl, HB9.out.alloc HB9.out.size _⟩
  | false =>
    obtain ⟨u, hu⟩ : ∃ u, u = at_ / q := ⟨_, rfl⟩
    obtain ⟨v, hv⟩ : ∃ v, v = u % 256 := ⟨_, rfl⟩
    have hv256 : v < 256 := by omega
    have huI : (u : Int) ≤ 9223372036854775807 := by have : u ≤ at_ := by rw [hu]; exact Nat.div_le_self _ _
                                                     omega
    have d1 : (at_ : Int).tdiv (q : Int) = (u : Int) := by rw [Int.tdiv_eq_ediv_of_nonneg (by omega), hu]; rfl
    have d2 : (at_ : Int) / (q : Int) = (u : Int) := by rw [hu]; rfl
    have d3 : IntKind.i64.wrap (u : Int) = (u : Int) := by rw [IntKind.wrap_i64]; omega
    have d4 : (u : Int).tmod 256 = (v : Int) := by rw [Int.tmod_eq_emod_of_nonneg (by omega), hv]; rfl
    have d5 : (u : Int) % 256 = (v : Int) := by rw [hv]; rfl
    have d6 : IntKind.i64.wrap (v : Int) = (v : Int) := by rw [IntKind.wrap_i64]; omega
    have hv256I : (v : Int) < 256 := by omega
    have hvS : v < S.size := by rw [HSS.out]; exact hv256
    have hcv := Lib.run_convert_string_bytes (P := Tryz.prog) w6 9 57 5 S (u := .string) Tryz.underlying9 Tryz.underlying57 Tryz.underlying5
    have hcell : ∀ i, i < S.size → (Lib.bytesWorld w6 5 S).cell? ⟨w6.heap.size, i, none⟩ = some (.int .u8 (S.data.toList.getD i 0).toNat) := fun i hi => Lib.bytesWorld_cell w6 5 S i hi
    have hfr := bytes_frozen12 w6 5 S v hvS
    have hbb6 := bytes_below12 w6 5 S
    have hcj := hcell v hvS
    obtain ⟨gb, hgE⟩ : ∃ gb, gb = w6.heap.size := ⟨_, rfl⟩
    obtain ⟨W, hW⟩ : ∃ W, W = Lib.bytesWorld w6 5 S := ⟨_, rfl⟩
    obtain ⟨cp, hcap⟩ : ∃ cp, cp = grownCap w6 S.size 0 5 := ⟨_, rfl⟩
    rw [← hgE, ← hW] at hcell hfr hcj
    rw [← hgE, ← hW, ← hcap] at hcv
    rw [← hW] at hbb6
    obtain ⟨x, hx⟩ : ∃ x, x = S.data.toList.getD v 0 := ⟨_, rfl⟩
    rw [← hx] at hcj
    obtain ⟨cc, hxc, hxe⟩ := byte_turn12 x by_
    obtain ⟨D, hD⟩ : ∃ D, D = turnB S v cc := ⟨_, rfl⟩
    have hDs : D.size = 256 := by rw [hD, turnB_size, HSS.out]
    have hDl : D.data.toList = S.data.toList.set v cc := by rw [hD]; rfl
    have hDs' : D.data.toList.length = 256 := by rw [← Lib.size_eq]; exact hDs
    have hcv2 := run_convert_bytes_back (P := Tryz.prog) (W.setCell ⟨gb, v, none⟩ (.int .u8 cc.toNat)) 57 9 5 ⟨gb, 0, none⟩ cp D.data.toList Tryz.underlying57 Tryz.underlying5 Tryz.underlying9
      (fun i hi => by
        have hi2 : i < S.size := by rw [HSS.out]; omega
        rw [Go.WideShapes.add_plain, Nat.zero_add]
        have hw := hcell i hi2
        by_cases hij : v = i
        · have h1 := World.cell?_setCell_same W ⟨gb, v, none⟩ (.int .u8 cc.toNat) hcj
          rw [hij] at h1 ⊢
          rw [h1]
          simp [hDl, hij]
        · rw [World.cell?_setCell_other W _ _ _ (fun e => hij (by injection e)), hw]
          have hi3 : i < S.data.size := hi2
          simp [hDl, hij, List.getD]
          rw [Array.getElem?_eq_getElem hi3]
          rfl)
    rw [hDs'] at hcv2
    have hDmk : (⟨D.data.toList.toArray⟩ : ByteArray) = D := rfl
    rw [hDmk] at hcv2
    have hSz : S.size = 256 := HSS.out
    rw [hSz] at hcv
    have HBW : Hid (Below w6.heap.size w6 (W.setCell ⟨gb, v, none⟩ (.int .u8 cc.toNat))) := Lib.hid (hbb6.setCell (by show w6.heap.size ≤ gb; omega) _)
    have HDS := Lib.hid hDs
    have HDV : Hid (by_ % 256 = 0 → D = S) := Lib.hid (fun e => by
      rw [hD, ← hxe.2 e, hx]
      exact turnB_same hvS)
    have HDB : Hid (by_ % 256 ≠ 0 → (readL D).2 = false) := Lib.hid (fun e => by
      rw [hD]
      have h1 := turned_bad (x := linkAt 2 7 1 a2 px j) (v := v) (c := cc) (by rw [← HSX.out]; exact hvS) (by rw [← HSX.out, ← hx]; exact fun h => e (hxe.1 h))
      rw [← HSX.out] at h1
      exact h1)
    obtain ⟨K4, hK4⟩ : ∃ K4, K4 = layK K3 pw D := ⟨_, rfl⟩
    obtain ⟨hset, hrun4⟩ := HSETK.out D hDs
    rw [← hK4] at hset hrun4
    have HSET := Lib.hid hset
    have HR4 := Lib.hid hrun4
    have hony4 := HONY4.out D
    rw [← hK4] at hony4
    have HGX4 : Hid (∀ w1 Ms, DMk w w1 g gd (1 + 40 + 40 + 1) 250 K4 Ms → Calls Tryz.prog 19 #[.pointer (some ⟨g, 0, none⟩), .int .i64 x0] w1 fun e w' => e = .returned (.tuple #[chV (getC (chainR K4 x0)), .int .i64 (chainR K4 x0).2]) ∧ Below w1.heap.size w1 w') := Lib.hid (fun w1 Ms hs => cget_any hs.st HR4.out HX0R.out)
    have HGY4 : Hid (∀ w1 Ms, DMk w w1 g gd (1 + 40 + 40 + 1) 250 K4 Ms → Calls Tryz.prog 19 #[.pointer (some ⟨g, 0, none⟩), .int .i64 y0] w1 fun e w' => e = .returned (.tuple #[.agg #[.int .i64 2, .int .i64 8, .int .i64 1, .string b], .int .i64 0]) ∧ Below w1.heap.size w1 w') := Lib.hid (fun w1 Ms hs => by
      have := cget_any hs.st HR4.out HY0R.out
      rw [HY0.out, on_getC hony4, on_chainR hony4, ← HY0.out] at this
      exact this)
    have HSAME : Hid (by_ % 256 = 0 → chV (getC (chainR K4 x0)) = .agg #[.int .i64 2, .int .i64 7, .int .i64 1, .string a2] ∧ (chainR K4 x0).2 = 0) := Lib.hid (fun e => by
      have : K4 = K3 := by rw [hK4, HDV.out e, HS.out]; exact layK_same _ _
      rw [this, HX0.out, on_getC HONX.out, on_chainR HONX.out]
      exact ⟨rfl, rfl⟩)
    have HBAD : Hid (by_ % 256 ≠ 0 → chainR K4 x0 = ([], 25)) := Lib.hid (fun e => by
      rw [hK4, HX0.out, HPW.out]
      refine lay_broken HONX.out HPX.out.left.once HJQ.out (fun h => ?_) (.inl (HDB.out e))
      have := HDS.out
      rw [h] at this
      exact absurd this (by decide))
    have HREF : Hid (by_ % 256 ≠ 0 → ∀ w1 Ms, DMk w w1 g gd (1 + 40 + 40 + 1) 250 K4 Ms → Calls Tryz.prog 18 #[.pointer (some ⟨g, 0, none⟩), .int .i64 x0, .int .i64 1] w1 fun e w' => e = .returned (.tuple #[.int .i64 0, .int .i64 25]) ∧ DMk w w' g gd (1 + 40 + 40 + 2) 250 K4 Ms) := Lib.hid (fun e w1 Ms hs => by
      have hb := HBAD.out e
      have := crefs_any hs HR4.out (by omega) HX0R.out (by_ := 1) (by unfold I64; omega)
      have e1 : refsE K4 x0 1 = (0, 25) := by unfold refsE; rw [hb]; rfl
      have e2 : refsK K4 x0 1 = K4 := by unfold refsK; rw [hb]; rfl
      rw [e1, e2] at this
      exact this)
    have HSEC : Hid (by_ % 256 ≠ 0 → ∀ w1 m Ms, DMk w w1 g gd m 250 K4 Ms → Calls Tryz.prog 20 #[.pointer (some ⟨g, 0, none⟩), .int .i64 x0] w1 fun e w' => ∃ A c, e = .returned (.tuple #[.slice A 0 c, .int .i64 25]) ∧ Below w1.heap.size w1 w') := Lib.hid (fun e w1 m Ms hs => by
      have hb := HBAD.out e
      have := csectors_any hs.st HR4.out HX0R.out
      rw [hb] at this
      exact this.mono (fun e w' ⟨A, c, he, _, _, hbb⟩ => ⟨A, c, he, hbb⟩))
    have HDRP : Hid (by_ % 256 ≠ 0 → ∀ w1 m Ms, DMk w w1 g gd m 250 K4 Ms → Calls Tryz.prog 17 #[.pointer (some ⟨g, 0, none⟩), .int .i64 x0] w1 fun e w' => e = .returned (.int .i64 25) ∧ DMk w w' g gd m 250 K4 Ms) := Lib.hid (fun e w1 m Ms hs => by
      have hb := HBAD.out e
      have := cdrop_any hs HR4.out HX0R.out
      have e1 : cdropE K4 x0 = 25 := by unfold cdropE; rw [hb]; rfl
      have e2 : cdropK K4 x0 = K4 := by unfold cdropK; rw [hb]; rfl
      rw [e1, e2] at this
      exact this)
    clear hD hDs hDl hDs' hDmk hSz hgE hW hcap hcell hbb6 hx hxe hK4 hset hrun4 hony4 hu hv
    go_wp2_with fail
    have HS7 := Lib.hid (HS6.out.below HBW.out)
    refine (HSET.out _ _ HS7.out).mono ?_
    rintro e w8 ⟨rfl, hs8⟩
    have HS8 := Lib.hid hs8
    clear hs8 HS7 HS6 hcv hcv2 hfr hcj HBW
    have HG8 := Lib.hid (HGX4.out _ _ HS8.out)
    by_cases hby : by_ % 256 = 0
    · obtain ⟨z1, z2⟩ := HSAME.out hby
      rw [z1, z2] at HG8
      have hbyI : (by_ % 256 == 0) = true := by simp; exact hby
      clear z1 z2 hby HSAME HBAD HREF HSEC HDRP HDV HDB
      go_wp2_with fail
      refine HG8.out.mono ?_
      rintro e w9 ⟨rfl, hb9⟩
      have HS9 := Lib.hid ((HS8.out.below hb9).hold (w' := w9.alloc (.cells #[.int .i64 2, .int .i64 7, .int .i64 1, .string a2] 43)) ((Below.refl _ _).alloc (Nat.le_refl _) _) (Nat.le_refl _) (Blk.new w9 43 #[.int .i64 2, .int .i64 7, .int .i64 1, .string a2]))
      clear hb9 HS8
      go_wp2_with fail
      refine (HGY4.out _ _ HS9.out).mono ?_
      rintro e w10 ⟨rfl, hb10⟩
      have HS10 := Lib.hid (HS9.out.below hb10)
      have hk := Blk.alloc (show Blk w10 w9.heap.size 43 #[.int .i64 2, .int .i64 7, .int .i64 1, .string a2] from HS10.out.held (by simp)) (.cells #[.int .i64 2, .int .i64 8, .int .i64 1, .string b] 43)
      have k3 := hk.cell 3
      simp at k3
      clear hb10 HS9 hk
      rw [HCE.out] at k3 haa
      go_wp2_with fail
      go_ret
      exact ⟨rfl, HS10.out.st.at0.alloc HS10.out.st.at0.size _⟩
    · rw [HBAD.out hby] at HG8
      have HBY := Lib.hid hby
      have hbyI : (by_ % 256 == 0) = false := by simp; exact hby
      clear hby HSAME HBAD HDV HDB
      have HG8' : Hid (Calls Tryz.prog 19 #[.pointer (some ⟨g, 0, none⟩), .int .i64 x0] w8 fun e w' => e = .returned (.tuple #[.agg #[.int .i64 0, .int .i64 0, .int .i64 0, .string ⟨#[]⟩], .int .i64 25]) ∧ Below w8.heap.size w8 w') := HG8
      clear HG8
      go_wp2_with fail
      refine HG8'.out.mono ?_
      rintro e w9 ⟨rfl, hb9⟩
      have HS9 := Lib.hid ((HS8.out.below hb9).hold (w' := w9.alloc (.cells #[.int .i64 0, .int .i64 0, .int .i64 0, .string ⟨#[]⟩] 43)) ((Below.refl _ _).alloc (Nat.le_refl _) _) (Nat.le_refl _) (Blk.new w9 43 #[.int .i64 0, .int .i64 0, .int .i64 0, .string ⟨#[]⟩]))
      clear hb9 HS8 HG8'
      go_wp2_with fail
      refine (HGY4.out _ _ HS9.out).mono ?_
      rintro e w10 ⟨rfl, hb10⟩
      have HS10 := Lib.hid ((HS9.out.below hb10).below ((Below.refl _ _).alloc (Nat.le_refl _) (.cells #[.int .i64 2, .int .i64 8, .int .i64 1, .string b] 43)))
      clear hb10 HS9
      go_wp2_with fail
      refine (HREF.out HBY.out _ _ HS10.out).mono ?_
      rintro e w11 ⟨rfl, hs11⟩
      have HS11 := Lib.hid hs11
      clear hs11 HS10
      go_wp2_with fail
      refine (HSEC.out HBY.out _ _ _ HS11.out).mono ?_
      rintro e w12 ⟨A2, c2, rfl, hb12⟩
      have HS12 := Lib.hid (HS11.out.below hb12)
      have hk := (show Blk w12 w9.heap.size 43 #[.int .i64 0, .int .i64 0, .int .i64 0, .string ⟨#[]⟩] from HS12.out.held (by simp))
      have k0 := hk.cell 0
      have k1 := hk.cell 1
      have k2 := hk.cell 2
      have k3 := hk.cell 3
      simp at k0 k1 k2 k3
      clear hb12 HS11 hk
      go_wp2_with fail
      refine (HDRP.out HBY.out _ _ _ HS12.out).mono ?_
      rintro e w13 ⟨rfl, hs13⟩
      go_wp2_with fail
      go_ret
      exact ⟨rfl, hs13.st.at0⟩
theorem cspoilt_any (a b : ByteArray) (more at_ by_ : Int) (sw : Bool) (w : World) (_ : a.size ≤ 140737488351232) (_ : b.size ≤ 140737488351232) (_ : -9223372036854775808 ≤ more ∧ more ≤ 9223372036854775807) (_ : -9223372036854775808 ≤ at_ ∧ at_ ≤ 9223372036854775807) (_ : -9223372036854775808 ≤ by_ ∧ by_ ≤ 9223372036854775807) :
    Calls Tryz.prog 4 #[.string a, .string b, .int .i64 more, .int .i64 at_, .int .i64 by_, .bool sw] w fun e w' => e = .returned (.bool true) ∧ Below w.heap.size w w' := by
  by_cases ho : 400 < a.size ∨ 400 < b.size ∨ more < 0 ∨ 900 < more ∨ at_ < 0
  · exact cspoilt_out a b more at_ by_ sw w ho
  · obtain ⟨m, rfl⟩ : ∃ m : Nat, more = (m : Int) := ⟨more.toNat, by omega⟩
    obtain ⟨t, rfl⟩ : ∃ m : Nat, at_ = (m : Int) := ⟨at_.toNat, by omega⟩
    exact cspoilt_in a b m t by_ sw w (by omega) (by omega) (by omega) (by omega)
end Go.Proofs.YtolbnkpakjdnnaaGreatDoor
