/-
  DiskLasts, walked.
-/
import Derived.Test.YtokddfbjjghpkaaDiskLastsPure
namespace Go.Proofs.Ytokddfbjjghpkaa
open Go.RowKit

/-- A disk and a map, side by side, all in memory that was made since w. -/
structure LsA (w wr : World) (g bm : Nat) (S : DS) (n : Nat) (M : Nat → Option ByteArray) (O : List Nat) : Prop where
  below : Below w.heap.size w wr
  disk : DiskAt wr O g S
  own : ∀ b ∈ O, w.heap.size ≤ b
  map : MapIs wr bm n M
  far : bm ∉ O
  low : w.heap.size ≤ bm
theorem LsA.step {w wr w' : World} {g bm n : Nat} {S : DS} {M : Nat → Option ByteArray} {O : List Nat} (h : LsA w wr g bm S n M O) (hb : Below wr.heap.size wr w') : LsA w w' g bm S n M O :=
  ⟨h.below.trans (hb.mono h.below.size), h.disk.below hb, h.own, h.map.kept (hb.block bm h.map.lt), h.far, h.low⟩
theorem LsA.turn {w wr w' : World} {g bm n : Nat} {S S' : DS} {M : Nat → Option ByteArray} {O : List Nat} (h : LsA w wr g bm S n M O) (hT : Turns O g S' wr w') : ∃ O', LsA w w' g bm S' n M O' := by
  obtain ⟨O', t1, t2, t3⟩ := hT
  refine ⟨O', h.below.trans (t3.below h.own h.below.size), t1, fun b hb => ?_, h.map.kept (t3.block bm h.map.lt h.far), fun hm => ?_, h.low⟩
  · rcases t2 b hb with h1 | h1
    · exact h.own b h1
    · exact Nat.le_trans h.below.size h1
  · rcases t2 bm hm with h1 | h1
    · exact h.far h1
    · have := h.map.lt; omega
theorem LsA.put {w wr w' : World} {g bm n n' : Nat} {S : DS} {M M' : Nat → Option ByteArray} {O : List Nat} (h : LsA w wr g bm S n M O) (hg : wr.grownBy w' (some bm)) (hm : MapIs w' bm n' M') : LsA w w' g bm S n' M' O :=
  ⟨below_by_new h.below hg h.low, h.disk.kept (fun b hb => hg.block b (h.disk.lt hb) (fun e => h.far (by injection e with e; rw [← e]; exact hb))), h.own, hm, h.far, h.low⟩
theorem LsA.fresh_far {w wr : World} {g bm n : Nat} {S : DS} {M : Nat → Option ByteArray} {O : List Nat} (h : LsA w wr g bm S n M O) : wr.heap.size ∉ O := fun hm => absurd (h.disk.lt hm) (Nat.lt_irrefl _)

set_option maxRecDepth 100000 in
set_option maxHeartbeats 16000000 in
theorem dlasts_in (A1 : Option Addr) (m1 c1 : Nat) (l1 : List Int) (A2 : Option Addr) (m2 c2 : Nat) (l2 : List Int) (A3 : Option Addr) (m3 c3 : Nat) (l3 : List Int) (w : World) (hm1 : m1 ≤ 40) (hm2 : m2 ≤ 40) (hm3 : m3 ≤ 60) (h1 : IntsIn w A1 m1 c1 l1) (h2 : IntsIn w A2 m2 c2 l2) (h3 : IntsIn w A3 m3 c3 l3) :
    Calls Try.prog 4 #[.slice A1 m1 c1, .slice A2 m2 c2, .slice A3 m3 c3] w fun e w' => e = .returned (.bool true) ∧ Below w.heap.size w w' := by
  obtain ⟨z, hz⟩ : ∃ z, z = zeroB 256 := ⟨_, rfl⟩
  have HN := Lib.hid (fun w => dnew_yes 140 140 w rfl (by omega) (by omega))
  rw [← hz] at HN
  have HZS : Hid (z.size = 256) := Lib.hid (by rw [hz]; exact zeroB_size 256)
  have HZ : Hid (∀ w, Calls Try.prog 23 #[.int .i64 256] w fun e w' => e = .returned (.string z) ∧ Below w.heap.size w w') := Lib.hid (fun w => by rw [hz]; exact ref_zeros 256 w (by omega))
  have H1 := Lib.hid h1
  have H2 := Lib.hid h2
  have H3 := Lib.hid h3
  have HM := Lib.hid (And.intro hm1 (And.intro hm2 hm3))
  have n1 : ¬ (40 : Int) < (m1 : Int) := by omega
  have n2 : ¬ (40 : Int) < (m2 : Int) := by omega
  have n3 : ¬ (60 : Int) < (m3 : Int) := by omega
  have hmm := @run_makeMap Try.prog
  clear hz h1 h2 h3 hm1 hm2 hm3
  go_enter Try.func4, Try.ntmps4
  go_wp2_with fail
  refine (alive7_any _).mono ?_
  rintro e w1 ⟨rfl, hb1⟩
  go_wp2_with fail
  refine (HN.out w1).mono ?_
  rintro e w2 ⟨g, O, rfl, hD, hO, hb⟩
  have HA0 : Hid (LsA w (w2.alloc (.map #[] 0)) g w2.heap.size (gS (z140 z) [] 0) 0 (fun _ => none) O) := Lib.hid (by
    have hb2 : Below w.heap.size w w2 := hb1.trans (hb.mono hb1.size)
    refine ⟨hb2.alloc hb2.size _, hD.kept (fun b hb => Below.heap_alloc _ _ _ (hD.lt hb)), fun b hb => Nat.le_trans hb1.size (hO b hb), MapIs.made w2, fun hm => absurd (hD.lt hm) (Nat.lt_irrefl _), hb2.size⟩)
  clear hD hO hb hb1
  go_wp2_with fail
  clear hmm
  obtain ⟨bm, hbm⟩ : ∃ bm, bm = w2.heap.size := ⟨_, rfl⟩
  obtain ⟨W0, hW0⟩ : ∃ W0, W0 = w2.alloc (.map #[] 0) := ⟨_, rfl⟩
  rw [← hbm, ← hW0] at HA0
  rw [← hbm, ← hW0]
  clear hbm hW0
  go_loopw [10] (fun i wr => ∃ (j : Nat) (d : List (Nat × ByteArray)) (M : Nat → Option ByteArray) (O : List Nat), j ≤ m1 ∧ i = .int .i64 j ∧ LsA w wr g bm (gS (z140 z) d j) j M O ∧ InR d ∧ Inv z (setAll (z140 z) d) M ∧ d.length = j) (fun i _ => m1 - (intOf i).toNat)
  case atStart => exact ⟨0, [], _, O, Nat.zero_le _, rfl, HA0.out, (fun x hx => by cases hx), Inv.start z, rfl⟩
  case round =>
    obtain ⟨j, d, M, O1, hj, rfl, hA, hR, hI, hdl⟩ := hrel
    have HDL := Lib.hid hdl
    have HA := Lib.hid hA
    have HR := Lib.hid hR
    have HI := Lib.hid hI
    clear hA hR hI HA0 hdl
    by_cases hlt : j < m1
    · have hml : j < l1.length := by rw [H1.out.len]; exact hlt
      obtain ⟨b1, off1, rfl, hbB, hcA⟩ := H1.out.lie (by omega)
      obtain ⟨y, hy⟩ : ∃ y, y = l1[j] := ⟨_, rfl⟩
      have hyj : l1[j]? = some y := by rw [hy]; exact List.getElem?_eq_getElem hml
      have a0 : wr.cell? ⟨b1, off1 + j, none⟩ = some (.int .i64 y) := (HA.out.below.cell (p := ⟨b1, off1 + j, none⟩) hbB).trans (hcA j y hyj)
      obtain ⟨t, t1, t2, t3, t4, t5⟩ := atN_steps y
      obtain ⟨a, ha⟩ : ∃ a, a = atN y := ⟨_, rfl⟩
      have HAT : Hid (a < 20) := Lib.hid (by rw [ha]; exact atN_lt y)
      rw [← ha] at t4 t5
      obtain ⟨x, hx⟩ : ∃ x : Nat, x = j + 1 := ⟨_, rfl⟩
      have hx256 : x < 256 := by have := HM.out; omega
      have hkx : IntKind.u8.wrap ((j : Int) + 1) = (x : Int) := by rw [IntKind.wrap_u8']; omega
      have hcv := one_byte7 wr x hx256
      obtain ⟨F, hF⟩ : ∃ F, F = fillB ⟨#[x.toUInt8]⟩ := ⟨_, rfl⟩
      have HFS : Hid (F.size = 256) := Lib.hid (by rw [hF]; exact fillB_size _)
      have HF : Hid (∀ w, Calls Try.prog 16 #[.string ⟨#[x.toUInt8]⟩] w fun e w' => e = .returned (.string F) ∧ Below w.heap.size w w') := Lib.hid (fun w => by rw [hF]; exact fill_any _ w (show (1 : Nat) ≤ 140737488351232 by decide))
      have HBa : Hid (Below wr.heap.size wr (wr.alloc (.cells #[.int .u8 (x : Int)] 5))) := Lib.hid ((Below.refl _ _).alloc (Nat.le_refl _) _)
      clear hy hyj ha hx hx256 hF hml hcA
      go_wp2_with fail
      refine (HF.out _).mono ?_
      rintro e w3 ⟨rfl, hb3⟩
      have HA3 := Lib.hid ((HA.out.step HBa.out).step hb3)
      clear hb3 a0 t1 t2 t3 t4 t5 hkx hcv HBa HA
      go_wp2_with fail
      obtain ⟨W, hW⟩ : ∃ W, W = w3.alloc (.cells #[.int .i64 (a : Int), .string F] 45) := ⟨_, rfl⟩
      have bW : Blk W w3.heap.size 45 #[.int .i64 (a : Int), .string F] := by rw [hW]; exact Blk.new _ _ _
      have hWb : Below w3.heap.size w3 W := by rw [hW]; exact (Below.refl _ _).alloc (Nat.le_refl _) _
      rw [← hW]
      clear hW
      have hAW := HA3.out.step hWb
      obtain ⟨e1, e2⟩ := gS_write (s := z140 z) d j (z140_len z) (show a < 140 by have := HAT.out; omega) HFS.out
      have hRS := HI.out.1
      refine (dwrite_any (some ⟨w3.heap.size, 0, none⟩) 1 1 [((a : Int), F)] hAW.disk (gS_ok j (z140_len z) HR.out) rfl (wrts_one bW HA3.out.fresh_far) (show (0 : Nat) ≤ 9223372036854775807 by decide) (show j + 1 < 1000000000000 by have := HM.out; omega) ?hdl).mono ?_
      case hdl => show d.length + 1 < _; have := HDL.out; have := HM.out; omega
      rintro e w4 ⟨rfl, hT⟩
      rw [e1]
      rw [e2] at hT
      obtain ⟨O4, hA4⟩ := hAW.turn hT
      obtain ⟨w5, hr5, hm5, hg5⟩ := hA4.map.update (by have := HM.out; omega) HAT.out F (by have := HFS.out; omega)
      have HA5 := Lib.hid (hA4.put hg5 hm5)
      clear e1 e2 hRS hT hAW hWb bW HA3 hA4 hm5 hg5
      go_wp2_with fail
      clear hr5
      go_roundw
      case rel => exact ⟨j + 1, d ++ [(a, F)], _, O4, hlt, by go_num, HA5.out, HR.out.snoc (by have := HAT.out; omega) F, by rw [setAll_snoc]; exact HI.out.set (by have := HAT.out; omega) HFS.out, by rw [List.length_append, HDL.out]; rfl⟩
      case measure => simp [intOf]; omega
    · obtain rfl : j = m1 := by omega
      clear hlt hj
      go_wp2_with fail
      refine (dflush_any HA.out.disk (gS_ok j (z140_len z) HR.out) (show (0 : Nat) ≤ 9223372036854775807 by decide)).mono ?_
      rintro e w3 ⟨rfl, hT⟩
      rw [(gS_flush (z140 z) d j).1]
      rw [(gS_flush (z140 z) d j).2] at hT
      obtain ⟨O3, hA3⟩ := HA.out.turn hT
      have HA3 := Lib.hid hA3
      obtain ⟨s1, hs1⟩ : ∃ s1, s1 = setAll (z140 z) d := ⟨_, rfl⟩
      rw [← hs1] at HA3 HI
      have HS1 : Hid (s1.length = 140) := Lib.hid HI.out.1
      clear hT hA3 hs1 HA HR HDL
      go_wp2_with fail
      go_loopw [13, 14] (fun v i wr => ∃ (k nn : Nat) (d : List (Nat × ByteArray)) (M : Nat → Option ByteArray) (O : List Nat), k ≤ m2 ∧ i = .int .i64 k ∧ v = .int .i64 (lostN l3 0 d : Int) ∧ LsA w wr g bm (gS s1 d (j + k)) nn M O ∧ InR d ∧ Inv z (keptL l3 0 d s1) M ∧ d.length = k ∧ nn ≤ j + k) (fun _ i _ => m2 - (intOf i).toNat)
      case atStart => exact ⟨0, j, [], M, O3, Nat.zero_le _, rfl, rfl, HA3.out, (fun x hx => by cases hx), HI.out, rfl, Nat.le_refl _⟩
      case round =>
        clear HI HA3
        obtain ⟨k, nn, d2, M2, O5, hk, rfl, rfl, hA, hR, hI, hdl, hnn⟩ := hrel
        have HDL := Lib.hid hdl
        have HA := Lib.hid hA
        have HR := Lib.hid hR
        have HI := Lib.hid hI
        have HNN := Lib.hid hnn
        clear hA hR hI hdl hnn
        obtain ⟨L, hL⟩ : ∃ L, L = lostN l3 0 d2 := ⟨_, rfl⟩
        have HLL : Hid (L = lostN l3 0 d2) := Lib.hid hL
        have hLk : (L : Int) ≤ 40 := by have h1 := lostN_le l3 0 d2; rw [← hL, HDL.out] at h1; have := HM.out; omega
        rw [← hL]
        clear hL
        by_cases hlt : k < m2
        · have hml : k < l2.length := by rw [H2.out.len]; exact hlt
          obtain ⟨b1, off1, rfl, hbB, hcA⟩ := H2.out.lie (by omega)
          obtain ⟨y, hy⟩ : ∃ y, y = l2[k] := ⟨_, rfl⟩
          have hyj : l2[k]? = some y := by rw [hy]; exact List.getElem?_eq_getElem hml
          have a0 : wr.cell? ⟨b1, off1 + k, none⟩ = some (.int .i64 y) := (HA.out.below.cell (p := ⟨b1, off1 + k, none⟩) hbB).trans (hcA k y hyj)
          obtain ⟨t, t1, t2, t3, t4, t5⟩ := atN_steps y
          obtain ⟨a, ha⟩ : ∃ a, a = atN y := ⟨_, rfl⟩
          have HAT : Hid (a < 20) := Lib.hid (by rw [ha]; exact atN_lt y)
          rw [← ha] at t4 t5
          obtain ⟨x, hx⟩ : ∃ x : Nat, x = k + 100 := ⟨_, rfl⟩
          have hx256 : x < 256 := by have := HM.out; omega
          have hkx : IntKind.u8.wrap ((k : Int) + 100) = (x : Int) := by rw [IntKind.wrap_u8']; omega
          have hcv := one_byte7 wr x hx256
          obtain ⟨F, hF⟩ : ∃ F, F = fillB ⟨#[x.toUInt8]⟩ := ⟨_, rfl⟩
          have HFS : Hid (F.size = 256) := Lib.hid (by rw [hF]; exact fillB_size _)
          have HF : Hid (∀ w, Calls Try.prog 16 #[.string ⟨#[x.toUInt8]⟩] w fun e w' => e = .returned (.string F) ∧ Below w.heap.size w w') := Lib.hid (fun w => by rw [hF]; exact fill_any _ w (show (1 : Nat) ≤ 140737488351232 by decide))
          have HBa : Hid (Below wr.heap.size wr (wr.alloc (.cells #[.int .u8 (x : Int)] 5))) := Lib.hid ((Below.refl _ _).alloc (Nat.le_refl _) _)
          have HKS := Lib.hid (keptL_snoc l3 0 d2 (a, F) s1)
          have HLS := Lib.hid (lostN_snoc l3 0 d2 (a, F))
          rw [Nat.zero_add, HDL.out] at HKS HLS
          clear hy hyj ha hx hx256 hF hml hcA
          go_wp2_with fail
          refine (HF.out _).mono ?_
          rintro e w3 ⟨rfl, hb3⟩
          have HA3 := Lib.hid ((HA.out.step HBa.out).step hb3)
          clear hb3 a0 t1 t2 t3 t4 t5 hkx hcv HBa HA
          go_wp2_with fail
          obtain ⟨W, hW⟩ : ∃ W, W = w3.alloc (.cells #[.int .i64 (a : Int), .string F] 45) := ⟨_, rfl⟩
          have bW : Blk W w3.heap.size 45 #[.int .i64 (a : Int), .string F] := by rw [hW]; exact Blk.new _ _ _
          have hWb : Below w3.heap.size w3 W := by rw [hW]; exact (Below.refl _ _).alloc (Nat.le_refl _) _
          rw [← hW]
          clear hW
          have hAW := HA3.out.step hWb
          obtain ⟨e1, e2⟩ := gS_write (s := s1) d2 (j + k) HS1.out (show a < 140 by have := HAT.out; omega) HFS.out
          refine (dwrite_any (some ⟨w3.heap.size, 0, none⟩) 1 1 [((a : Int), F)] hAW.disk (gS_ok (j + k) HS1.out HR.out) rfl (wrts_one bW HA3.out.fresh_far) (show (0 : Nat) ≤ 9223372036854775807 by decide) (show j + k + 1 < 1000000000000 by have := HM.out; omega) ?hdl).mono ?_
          case hdl => show d2.length + 1 < _; have := HDL.out; have := HM.out; omega
          rintro e w4 ⟨rfl, hT⟩
          rw [e1]
          rw [e2] at hT
          obtain ⟨O4, hA4⟩ := hAW.turn hT
          have HA4 := Lib.hid hA4
          have HDN : Hid ((d2 ++ [(a, F)]).length = k + 1) := Lib.hid (by rw [List.length_append, HDL.out]; rfl)
          have HRN : Hid (InR (d2 ++ [(a, F)])) := Lib.hid (HR.out.snoc (by have := HAT.out; omega) F)
          clear e1 e2 hT hAW hWb bW HA3 hA4
          by_cases hkm : k < m3
          · have hml : k < l3.length := by rw [H3.out.len]; exact hkm
            obtain ⟨b3, off3, rfl, hbB3, hcA3⟩ := H3.out.lie (by omega)
            obtain ⟨q, hq⟩ : ∃ q, q = l3[k] := ⟨_, rfl⟩
            have hqk : l3[k]? = some q := by rw [hq]; exact List.getElem?_eq_getElem hml
            have hqD : l3.getD k 0 = q := by rw [List.getD_eq_getElem?_getD, hqk]; rfl
            have a3 : w4.cell? ⟨b3, off3 + k, none⟩ = some (.int .i64 q) := (HA4.out.below.cell (p := ⟨b3, off3 + k, none⟩) hbB3).trans (hcA3 k q hqk)
            rw [hqD] at HKS HLS
            clear hq hqk hqD hcA3
            by_cases hodd : oddI q = true
            · have ht := odd_and hodd
              rw [hodd, if_pos rfl] at HKS HLS
              obtain ⟨w5, hr5, hm5, hg5⟩ := HA4.out.map.update (by have := HM.out; have := HNN.out; omega) HAT.out F (by have := HFS.out; omega)
              have HA5 := Lib.hid (HA4.out.put hg5 hm5)
              clear hodd hm5 hg5
              go_wp2_with fail
              clear hr5
              go_roundw
              case rel => exact ⟨k + 1, nn + 1, d2 ++ [(a, F)], _, O4, hlt, by go_num, by rw [HLS.out, ← HLL.out]; rfl, HA5.out, HRN.out, by rw [HKS.out]; exact HI.out.set (by have := HAT.out; omega) HFS.out, HDN.out, by have := HNN.out; omega⟩
              case measure => simp [intOf]; omega
            · have ho : oddI q = false := by simpa using hodd
              have ht := even_and ho
              rw [ho, if_neg (by decide)] at HKS HLS
              clear hodd ho
              go_wp2_with fail
              go_roundw
              case rel => exact ⟨k + 1, nn, d2 ++ [(a, F)], M2, O4, hlt, by go_num, by rw [HLS.out, ← HLL.out]; rfl, HA4.out, HRN.out, by rw [HKS.out]; exact HI.out, HDN.out, by have := HNN.out; omega⟩
              case measure => simp [intOf]; omega
          · have hD0 : oddI (l3.getD k 0) = false := by
              rw [List.getD_eq_getElem?_getD, List.getElem?_eq_none (by rw [H3.out.len]; omega)]
              rfl
            rw [hD0, if_neg (by decide)] at HKS HLS
            clear hD0
            go_wp2_with fail
            go_roundw
            case rel => exact ⟨k + 1, nn, d2 ++ [(a, F)], M2, O4, hlt, by go_num, by rw [HLS.out, ← HLL.out]; rfl, HA4.out, HRN.out, by rw [HKS.out]; exact HI.out, HDN.out, by have := HNN.out; omega⟩
            case measure => simp [intOf]; omega
        · obtain rfl : k = m2 := by omega
          clear hlt hk hLk
          have HCR := Lib.hid (gS_crash s1 d2 (j + k) l3)
          go_wp2_with fail
          refine (dcrash_any A3 m3 c3 l3 HA.out.disk (gS_ok (j + k) HS1.out HR.out) H3.out.len (H3.out.lie.below HA.out.below) (fun hp a e hm => by
            obtain ⟨b, off, e2, hlt, _⟩ := H3.out.lie hp
            rw [e2] at e
            injection e with e
            have := HA.out.own _ hm
            rw [← e] at this
            have : w.heap.size ≤ b := this
            omega)).mono ?_
          rintro e w3 ⟨rfl, hT⟩
          rw [HCR.out.1, ← HLL.out]
          obtain ⟨O6, hA6⟩ := HA.out.turn hT
          have HA6 := Lib.hid hA6
          clear hT hA6 HA
          go_wp2_with fail
          refine (ddirty_any HA6.out.disk).mono ?_
          rintro e w4 ⟨rfl, rfl⟩
          rw [HCR.out.2.1]
          go_wp2_with fail
          refine (drestore_any HA6.out.disk).mono ?_
          rintro e w5 ⟨rfl, hT⟩
          obtain ⟨O7, hA7⟩ := HA6.out.turn hT
          have HA7 := Lib.hid hA7
          have HSM : Hid (∀ x ∈ ((gS s1 d2 (j + k)).crash l3).restore.now, x.size ≤ 100000) := Lib.hid (by rw [HCR.out.2.2]; exact HI.out.small HZS.out)
          clear hT hA7 HA6
          go_wp2_with fail
          go_loopw [17] (fun i wr => ∃ (q : Nat) (O : List Nat), q ≤ 20 ∧ i = .int .i64 q ∧ LsA w wr g bm (((gS s1 d2 (j + k)).crash l3).restore) nn M2 O) (fun i _ => 20 - (intOf i).toNat)
          case atStart => exact ⟨0, O7, Nat.zero_le _, rfl, HA7.out⟩
          case round =>
            clear HA7
            obtain ⟨q, O8, hq, rfl, hA⟩ := hrel
            have HA := Lib.hid hA
            clear hA
            by_cases hlt : q < 20
            · have HRD := Lib.hid (dread_any (q : Int) HA.out.disk HSM.out)
              obtain ⟨r1, r2⟩ := gS_read d2 (j + k) l3 HI.out (show q < 140 by omega)
              rw [r1, r2] at HRD
              clear r1 r2
              have HLK : Hid (∀ W : World, Below wr.heap.size wr W → (Instr.lookup 40 (.map (some bm)) (.int .i64 (q : Int)) true).run Try.prog W = .ok (.tuple #[.string ((M2 q).getD .empty), .bool (M2 q).isSome]) W) := Lib.hid (fun W hW => (HA.out.step hW).map.look hlt)
              cases hMq : M2 q with
              | none =>
                rw [hMq] at HRD HLK
                clear hMq
                go_wp2_with fail
                refine HRD.out.mono ?_
                rintro e w6 ⟨rfl, hb6⟩
                have hlk := HLK.out w6 hb6
                have hlk : (Instr.lookup 40 (.map (some bm)) (.int .i64 (q : Int)) true).run Try.prog w6 = .ok (.tuple #[.string .empty, .bool false]) w6 := hlk
                have HA6 := Lib.hid (HA.out.step hb6)
                clear hb6
                go_wp2_with fail
                refine (HZ.out _).mono ?_
                rintro e w7 ⟨rfl, hb7⟩
                have HA9 := Lib.hid (HA6.out.step hb7)
                clear hb7 hlk
                go_wp2_with fail
                go_roundw
                case rel => exact ⟨q + 1, O8, hlt, by go_num, HA9.out⟩
                case measure => simp [intOf]; omega
              | some u =>
                rw [hMq] at HRD HLK
                clear hMq
                go_wp2_with fail
                refine HRD.out.mono ?_
                rintro e w6 ⟨rfl, hb6⟩
                have hlk := HLK.out w6 hb6
                have hlk : (Instr.lookup 40 (.map (some bm)) (.int .i64 (q : Int)) true).run Try.prog w6 = .ok (.tuple #[.string u, .bool true]) w6 := hlk
                have HA6 := Lib.hid (HA.out.step hb6)
                clear hb6
                go_wp2_with fail
                clear hlk
                go_roundw
                case rel => exact ⟨q + 1, O8, hlt, by go_num, HA6.out⟩
                case measure => simp [intOf]; omega
            · obtain rfl : q = 20 := by omega
              go_wp2_with fail
              go_ret
              exact ⟨rfl, HA.out.below⟩

set_option maxRecDepth 100000 in
set_option maxHeartbeats 1000000 in
theorem dlasts_out (A1 : Option Addr) (m1 c1 : Nat) (A2 : Option Addr) (m2 c2 : Nat) (A3 : Option Addr) (m3 c3 : Nat) (w : World) (h : 40 < m1 ∨ 40 < m2 ∨ 60 < m3) :
    Calls Try.prog 4 #[.slice A1 m1 c1, .slice A2 m2 c2, .slice A3 m3 c3] w fun e w' => e = .returned (.bool true) ∧ Below w.heap.size w w' := by
  by_cases h1 : 40 < (m1 : Int)
  · go_enter Try.func4, Try.ntmps4
    go_wp2_with fail
    refine (alive7_any _).mono ?_
    rintro e w1 ⟨rfl, hb1⟩
    go_wp2_with fail
    go_ret
    exact ⟨rfl, hb1⟩
  · by_cases h2 : 40 < (m2 : Int)
    · go_enter Try.func4, Try.ntmps4
      go_wp2_with fail
      refine (alive7_any _).mono ?_
      rintro e w1 ⟨rfl, hb1⟩
      go_wp2_with fail
      go_ret
      exact ⟨rfl, hb1⟩
    · have h3 : 60 < (m3 : Int) := by omega
      clear h
      go_enter Try.func4, Try.ntmps4
      go_wp2_with fail
      refine (alive7_any _).mono ?_
      rintro e w1 ⟨rfl, hb1⟩
      go_wp2_with fail
      go_ret
      exact ⟨rfl, hb1⟩
theorem dlasts_any (A1 : Option Addr) (m1 c1 : Nat) (l1 : List Int) (A2 : Option Addr) (m2 c2 : Nat) (l2 : List Int) (A3 : Option Addr) (m3 c3 : Nat) (l3 : List Int) (w : World) (h1 : IntsIn w A1 m1 c1 l1) (h2 : IntsIn w A2 m2 c2 l2) (h3 : IntsIn w A3 m3 c3 l3) :
    Calls Try.prog 4 #[.slice A1 m1 c1, .slice A2 m2 c2, .slice A3 m3 c3] w fun e w' => e = .returned (.bool true) ∧ Below w.heap.size w w' := by
  by_cases h : m1 ≤ 40 ∧ m2 ≤ 40 ∧ m3 ≤ 60
  · exact dlasts_in A1 m1 c1 l1 A2 m2 c2 l2 A3 m3 c3 l3 w h.1 h.2.1 h.2.2 h1 h2 h3
  · exact dlasts_out A1 m1 c1 A2 m2 c2 A3 m3 c3 w (by omega)
end Go.Proofs.Ytokddfbjjghpkaa
