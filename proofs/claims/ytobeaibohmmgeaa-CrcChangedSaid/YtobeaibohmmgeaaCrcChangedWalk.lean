/-
  CrcChanged, walked at every input. No statement is proved here.
-/
import Derived.Test.YtobeaibohmmgeaaRefSeal
import Derived.Test.YtobeaibohmmgeaaCrcAlive
import Derived.Lib.ConvBytes
namespace Go.Proofs.Ytobeaibohmmgeaa
open Go.RowKit

set_option maxRecDepth 100000 in
set_option maxHeartbeats 2000000 in
theorem changed_out (s : ByteArray) (more at_ by_ : Int) (w : World) (h : 1500 < s.size ∨ more < 0 ∨ 500 < more ∨ at_ < 0 ∨ by_ % 256 = 0) (hs : s.size ≤ 140737488351232)
    (hm : -9223372036854775808 ≤ more ∧ more ≤ 9223372036854775807) (ha : -9223372036854775808 ≤ at_ ∧ at_ ≤ 9223372036854775807) (hb : -9223372036854775808 ≤ by_ ∧ by_ ≤ 9223372036854775807) :
    Calls Try.prog 4 #[.string s, .int .i64 more, .int .i64 at_, .int .i64 by_] w fun e w' => e = .returned (.bool true) ∧ Below w.heap.size w w' := by
  obtain ⟨m0, m1⟩ := hm
  obtain ⟨a0, a1⟩ := ha
  obtain ⟨b0, b1⟩ := hb
  by_cases h1 : 1500 < s.size
  · clear h
    go_enter Try.func4, Try.ntmps4
    go_wp2_with fail
    refine (alive2_any _).mono ?_
    rintro e w1 ⟨rfl, hb1⟩
    go_wp2_with fail
    go_ret
    exact ⟨rfl, hb1⟩
  · have h1' : s.size ≤ 1500 := by omega
    by_cases h2 : more < 0
    · clear h h1
      go_enter Try.func4, Try.ntmps4
      go_wp2_with fail
      refine (alive2_any _).mono ?_
      rintro e w1 ⟨rfl, hb1⟩
      go_wp2_with fail
      go_ret
      exact ⟨rfl, hb1⟩
    · have h2' : 0 ≤ more := by omega
      by_cases h3 : 500 < more
      · clear h h1 h2
        go_enter Try.func4, Try.ntmps4
        go_wp2_with fail
        refine (alive2_any _).mono ?_
        rintro e w1 ⟨rfl, hb1⟩
        go_wp2_with fail
        go_ret
        exact ⟨rfl, hb1⟩
      · have h3' : more ≤ 500 := by omega
        by_cases h4 : at_ < 0
        · clear h h1 h2 h3
          go_enter Try.func4, Try.ntmps4
          go_wp2_with fail
          refine (alive2_any _).mono ?_
          rintro e w1 ⟨rfl, hb1⟩
          go_wp2_with fail
          go_ret
          exact ⟨rfl, hb1⟩
        · have h4' : 0 ≤ at_ := by omega
          have h5 : (by_ % 256 == 0) = true := by rw [beq_iff_eq]; omega
          clear h h1 h2 h3 h4
          go_enter Try.func4, Try.ntmps4
          go_wp2_with fail
          refine (alive2_any _).mono ?_
          rintro e w1 ⟨rfl, hb1⟩
          go_wp2_with fail
          go_ret
          exact ⟨rfl, hb1⟩

theorem body_more (s : ByteArray) (m : Nat) : body ((s.size : Int) + 4 + m) s.data.toList = (s ++ zeroB m).data.toList := by
  rw [append_zeros]
  unfold body
  rw [← Lib.size_eq, show ((s.size : Int) + 4 + m - 4).toNat - s.size = m by omega]
/-- What was sealed: as a text, and its bytes. -/
theorem sealed_is (s : ByteArray) (m : Nat) (h : s.size ≤ 1500) (hm : m ≤ 500) :
    ∃ S : ByteArray, S.data.toList = (s ++ zeroB m).data.toList ++ lowBytes 4 (crc (s ++ zeroB m).data.toList) ∧ S.size = s.size + 4 + m ∧
      sealV ((s.size : Int) + 4 + m) (cats [s]) = .tuple #[.string S, .int .i64 0] ∧ openV S.data.toList = .tuple #[.string (s ++ zeroB m), .int .i64 0] := by
  refine ⟨⟨((s ++ zeroB m).data.toList ++ lowBytes 4 (crc (s ++ zeroB m).data.toList)).toArray⟩, rfl, ?_, ?_, ?_⟩
  · rw [Lib.size_eq]
    show ((s ++ zeroB m).data.toList ++ lowBytes 4 (crc (s ++ zeroB m).data.toList)).length = _
    rw [List.length_append, lowBytes_length, ← Lib.size_eq, ByteArray.size_append, zeroB_size]
    omega
  · have e : cats [s] = s.data.toList := by simp [cats]
    unfold sealV
    rw [e, sealB_ok (by omega) (by omega) (by rw [← Lib.size_eq]; omega), body_more]
  · unfold openV
    rw [show (⟨((s ++ zeroB m).data.toList ++ lowBytes 4 (crc (s ++ zeroB m).data.toList)).toArray⟩ : ByteArray).data.toList = (s ++ zeroB m).data.toList ++ lowBytes 4 (crc (s ++ zeroB m).data.toList) from rfl, openB_back]

/-- A byte changed by another one that is not zero is another byte. -/
theorem byte_turned (x : UInt8) (by_ : Int) (h : ¬ by_ % 256 = 0) : ∃ c : UInt8, bits .xor .u8 (x.toNat : Int) (by_ % 256) = (c.toNat : Int) ∧ x ≠ c := by
  obtain ⟨v, hv⟩ : ∃ v : Nat, (v : Int) = by_ % 256 := ⟨(by_ % 256).toNat, by omega⟩
  have hx := x.toNat_lt
  have hlt : x.toNat ^^^ v < 256 := Nat.xor_lt_two_pow (n := 8) hx (by omega)
  have h8 : ∀ n : Nat, n < 256 → (n.toUInt8).toNat = n := fun n hn => by
    have : (n.toUInt8).toNat = n % 256 := by simp [Nat.toUInt8]
    rw [this, Nat.mod_eq_of_lt hn]
  refine ⟨(x.toNat ^^^ v).toUInt8, ?_, fun e => ?_⟩
  · rw [← hv, u8_xor_nat x.toNat v hx (by omega), h8 _ hlt]
  · have e2 : x.toNat = x.toNat ^^^ v := (congrArg UInt8.toNat e).trans (h8 _ hlt)
    have e3 : x.toNat ^^^ 0 = x.toNat ^^^ v := by rw [Nat.xor_zero]; exact e2
    have := xor_left e3
    omega
theorem bytes_frozen (w : World) (e : TypeId) (s : ByteArray) (j : Nat) (hj : j < s.size) : (Lib.bytesWorld w e s).frozen? ⟨w.heap.size, j, none⟩ = false := by
  have h := Lib.bytesWorld_at_new w e s
  have hs : s.size ≤ (Lib.bytesCells w e s).size := by
    have : s.data.size = s.size := rfl
    simp [Lib.bytesCells]
  simp [World.frozen?, h]
  intro _
  omega
theorem bytes_below (w : World) (e : TypeId) (s : ByteArray) : Below w.heap.size w (Lib.bytesWorld w e s) :=
  ⟨rfl, rfl, rfl, by rw [Lib.bytesWorld_size]; omega, fun i hi => Lib.bytesWorld_at_old w e s i hi⟩

set_option maxRecDepth 100000 in
set_option maxHeartbeats 4000000 in
theorem changed_in (s : ByteArray) (m a : Nat) (by_ : Int) (w : World) (hs : s.size ≤ 1500) (hm : m ≤ 500) (ha : a ≤ 9223372036854775807) (_hb0 : -9223372036854775808 ≤ by_) (_hb1 : by_ ≤ 9223372036854775807) (hby : ¬ by_ % 256 = 0) :
    Calls Try.prog 4 #[.string s, .int .i64 m, .int .i64 a, .int .i64 by_] w fun e w' => e = .returned (.bool true) ∧ Below w.heap.size w w' := by
  obtain ⟨S, hS, hSs, hse, hop⟩ := sealed_is s m hs hm
  have h5 : (by_ % 256 == 0) = false := by rw [beq_eq_false_iff_ne]; exact hby
  have HS := Lib.hid hS
  have HSS := Lib.hid hSs
  have HSE := Lib.hid hse
  have HOP := Lib.hid hop
  have HBY := Lib.hid hby
  have hsz1 : S.size ≤ s.size + 4 + m := by omega
  have hsz2 : s.size + 4 + m ≤ S.size := by omega
  have hcat : s.size + (zeroB m).size ≤ 9223372036854775807 := by rw [zeroB_size]; omega
  have HZ := Lib.hid (fun w => ref_zeros m w (by omega))
  have HF : Hid (TextsFit [s]) := Lib.hid ⟨by simp, fun x hx => by rw [List.mem_singleton.1 hx]; omega⟩
  obtain ⟨Z, hZ⟩ : ∃ Z, Z = zeroB m := ⟨_, rfl⟩
  rw [← hZ] at hcat
  have HZZ := Lib.hid hZ
  clear hS hSs hse hop hby hZ
  go_enter Try.func4, Try.ntmps4
  go_wp2_with fail
  refine (alive2_any _).mono ?_
  rintro e w1 ⟨rfl, hb1⟩
  go_wp2_with fail
  with_reducible refine (seal_any ((s.size : Int) + 4 + m) (some ⟨w1.heap.size, 0, none⟩) 1 1 [s] _ rfl ?_ HF.out).mono ?_
  · exact txts_at _ _ _ _ rfl rfl
  rintro e w2 ⟨rfl, hb2⟩
  rw [HSE.out]
  have hb2' : Below w.heap.size w w2 := (hb1.alloc hb1.size _).trans (hb2.mono (by have := hb1.size; simp; omega))
  clear hb2 hb1
  go_wp2_with fail
  refine (open_any S _ (by omega)).mono ?_
  rintro e w3 ⟨rfl, hb3⟩
  rw [HOP.out, ← HZZ.out]
  have hb3' : Below w.heap.size w w3 := hb2'.trans (hb3.mono hb2'.size)
  clear hb3 hb2'
  have hlen : ((S.size : Int) != (s.size : Int) + 4 + m) = false := by rw [bne_eq_false_iff_eq]; omega
  go_wp2_with fail
  refine (HZ.out _).mono ?_
  rintro e w4 ⟨rfl, hb4⟩
  rw [← HZZ.out]
  have hb4' : Below w.heap.size w w4 := hb3'.trans (hb4.mono hb3'.size)
  clear hb4 hb3' hlen
  have hcv := Lib.run_convert_string_bytes (P := Try.prog) w4 9 38 5 S (u := .string) Try.underlying9 Try.underlying38 Try.underlying5
  have hpos : 0 < S.size := by omega
  have hjl : a % S.size < S.size := Nat.mod_lt _ hpos
  have hcell : ∀ j, j < S.size → (Lib.bytesWorld w4 5 S).cell? ⟨w4.heap.size, j, none⟩ = some (.int .u8 (S.data.toList.getD j 0).toNat) := fun j hj => Lib.bytesWorld_cell w4 5 S j hj
  have hfr := bytes_frozen w4 5 S (a % S.size) hjl
  have hbb := hb4'.trans ((bytes_below w4 5 S).mono hb4'.size)
  have hcj := hcell (a % S.size) hjl
  have hg : w.heap.size ≤ w4.heap.size := hb4'.size
  obtain ⟨g, hgE⟩ : ∃ g, g = w4.heap.size := ⟨_, rfl⟩
  obtain ⟨W, hW⟩ : ∃ W, W = Lib.bytesWorld w4 5 S := ⟨_, rfl⟩
  obtain ⟨cap, hcap⟩ : ∃ cap, cap = grownCap w4 S.size 0 5 := ⟨_, rfl⟩
  rw [← hgE, ← hW] at hcell hfr hcj
  rw [← hgE, ← hW, ← hcap] at hcv
  rw [← hW] at hbb
  rw [← hgE] at hg
  have HCELL := Lib.hid hcell
  have HBB := Lib.hid hbb
  obtain ⟨x, hx⟩ : ∃ x, x = S.data.toList.getD (a % S.size) 0 := ⟨_, rfl⟩
  rw [← hx] at hcj
  obtain ⟨c, hxc, hne⟩ := byte_turned x by_ HBY.out
  have HX := Lib.hid hx
  have HNE := Lib.hid hne
  obtain ⟨D, hD⟩ : ∃ D : ByteArray, D = ⟨(S.data.toList.set (a % S.size) c).toArray⟩ := ⟨_, rfl⟩
  have hDl : D.data.toList = S.data.toList.set (a % S.size) c := by rw [hD]
  have hDs : D.data.toList.length = S.size := by rw [hDl, List.length_set, Lib.size_eq]
  have hcv2 := run_convert_bytes_back (P := Try.prog) (W.setCell ⟨g, a % S.size, none⟩ (.int .u8 c.toNat)) 38 9 5 ⟨g, 0, none⟩ cap D.data.toList Try.underlying38 Try.underlying5 Try.underlying9
    (fun i hi => by
      have hi2 : i < S.size := by omega
      rw [Go.WideShapes.add_plain, Nat.zero_add]
      have hw := HCELL.out i hi2
      by_cases hij : a % S.size = i
      · have h1 := World.cell?_setCell_same W ⟨g, a % S.size, none⟩ (.int .u8 c.toNat) hcj
        rw [hij] at h1 ⊢
        rw [h1]
        simp [hDl, hij]
      · rw [World.cell?_setCell_other W _ _ _ (fun e => hij (by injection e)), hw]
        have hi3 : i < S.data.size := hi2
        simp [hDl, hij, List.getD]
        rw [Array.getElem?_eq_getElem hi3]
        rfl)
  rw [hDs] at hcv2
  have hop2 : openV D.data.toList = .tuple #[.string .empty, .int .i64 7] := by
    have hjl2 : a % S.size < ((s ++ zeroB m).data.toList ++ lowBytes 4 (crc (s ++ zeroB m).data.toList)).length := by rw [← HS.out, ← Lib.size_eq]; exact hjl
    unfold openV
    rw [hDl, HS.out, openB_set (s ++ zeroB m).data.toList hjl2 ?_]
    · rfl
    · intro e
      apply HNE.out
      rw [HX.out, HS.out, List.getD_eq_getElem?_getD, List.getElem?_eq_getElem hjl2]
      exact e
  have hDz : D.size ≤ 140737488351232 := by rw [Lib.size_eq, hDs]; omega
  have hbs : Below w.heap.size w (W.setCell ⟨g, a % S.size, none⟩ (.int .u8 c.toNat)) := HBB.out.setCell hg _
  have HOP2 := Lib.hid hop2
  have HDZ := Lib.hid hDz
  have HBS := Lib.hid hbs
  have hDmk : (⟨D.data.toList.toArray⟩ : ByteArray) = D := rfl
  rw [hDmk] at hcv2
  clear hD hDl hDs hop2 hDz hbs hDmk hgE hW hcap hcell hbb hb4' hx hne
  go_wp2_with fail
  refine (open_any D _ HDZ.out).mono ?_
  rintro e w5 ⟨rfl, hb5⟩
  rw [HOP2.out]
  have hb5' := HBS.out.trans (hb5.mono HBS.out.size)
  clear hb5
  go_wp2_with fail
  go_ret
  exact ⟨by first | rfl | simp, hb5'⟩

theorem changed_any (s : ByteArray) (more at_ by_ : Int) (w : World) (hs : s.size ≤ 140737488351232)
    (hm : -9223372036854775808 ≤ more ∧ more ≤ 9223372036854775807) (ha : -9223372036854775808 ≤ at_ ∧ at_ ≤ 9223372036854775807) (hb : -9223372036854775808 ≤ by_ ∧ by_ ≤ 9223372036854775807) :
    Calls Try.prog 4 #[.string s, .int .i64 more, .int .i64 at_, .int .i64 by_] w fun e w' => e = .returned (.bool true) ∧ Below w.heap.size w w' := by
  by_cases h : 1500 < s.size ∨ more < 0 ∨ 500 < more ∨ at_ < 0 ∨ by_ % 256 = 0
  · exact changed_out s more at_ by_ w h hs hm ha hb
  · obtain ⟨m, rfl⟩ := Int.eq_ofNat_of_zero_le (show 0 ≤ more by omega)
    obtain ⟨a, rfl⟩ := Int.eq_ofNat_of_zero_le (show 0 ≤ at_ by omega)
    exact changed_in s m a by_ w (by omega) (by omega) (by omega) hb.1 hb.2 (by omega)
end Go.Proofs.Ytobeaibohmmgeaa
