/-
  DiskWhole, walked.
-/
import Derived.Test.YtokddfbjjghpkaaDiskViews
namespace Go.Proofs.Ytokddfbjjghpkaa
open Go.RowKit

/-- The disk behind writes of one sector. -/
def whS (z : ByteArray) (i : Nat) (l : List ByteArray) : DS :=
  { now := setAll (List.replicate 140 z) (l.map fun x => (i, fillB x)), safe := List.replicate 140 z, dirty := l.map fun x => (i, fillB x), on := true, writes := l.length, armed := false, left := 0, keep := [] }
theorem whS_len (z : ByteArray) (i : Nat) (l : List ByteArray) : (whS z i l).now.length = 140 := by
  show (setAll _ _).length = 140
  rw [setAll_length, List.length_replicate]
theorem whS_ok (z : ByteArray) {i : Nat} (hi : i < 140) (l : List ByteArray) : (whS z i l).Ok := by
  refine ⟨rfl, fun w hw => ?_⟩
  have hw : w ∈ l.map fun x => (i, fillB x) := hw
  obtain ⟨x, _, rfl⟩ := List.mem_map.1 hw
  show i < (List.replicate 140 z).length
  rw [List.length_replicate]
  exact hi
theorem whS_put (z : ByteArray) (i : Nat) (l : List ByteArray) (x : ByteArray) : (whS z i l).put i (fillB x) = whS z i (l ++ [x]) := by
  unfold DS.put whS
  simp only [List.map_append, List.map_cons, List.map_nil, setAll_snoc, List.length_append, List.length_singleton]
theorem whS_write (z : ByteArray) {i : Nat} (hi : i < 140) (l : List ByteArray) (x : ByteArray) : (whS z i l).errW [((i : Int), fillB x)] = 0 ∧ (whS z i l).write [((i : Int), fillB x)] = whS z i (l ++ [x]) := by
  have h1 := err1_plain (S := whS z i l) (i := i) (by rw [whS_len]; exact hi) (fillB_size x) rfl
  have h2 := write1_plain (S := whS z i l) (i := i) (by rw [whS_len]; exact hi) (fillB_size x) rfl
  constructor
  · unfold DS.errW
    rw [if_pos (show (whS z i l).on = true from rfl)]
    simp only [DS.errL, h1, if_true]
  · unfold DS.write
    rw [if_pos (show (whS z i l).on = true from rfl)]
    simp only [DS.writeL, h1, if_true, h2]
    exact whS_put z i l x
/-- What the statement's function wants of the sector. -/
def whW (keep : List Int) (z : ByteArray) (i : Nat) (l : List ByteArray) : ByteArray := (keptL keep 0 (l.map fun x => (i, fillB x)) (List.replicate 140 z)).getD i .empty
theorem whW_nil (keep : List Int) (z : ByteArray) {i : Nat} (hi : i < 140) : whW keep z i [] = z := by
  show (List.replicate 140 z).getD i .empty = z
  rw [List.getD_eq_getElem?_getD, List.getElem?_replicate, if_pos hi]
  rfl
theorem whW_snoc (keep : List Int) (z : ByteArray) {i : Nat} (hi : i < 140) (l : List ByteArray) (x : ByteArray) : whW keep z i (l ++ [x]) = if oddI (keep.getD l.length 0) then fillB x else whW keep z i l := by
  unfold whW
  rw [List.map_append, List.map_singleton, keptL_snoc, List.length_map, Nat.zero_add]
  split
  · rw [List.getD_eq_getElem?_getD, List.getElem?_set_self (by rw [keptL_length, List.length_replicate]; exact hi)]
    rfl
  · rfl
theorem whS_read (keep : List Int) (z : ByteArray) {i : Nat} (hi : i < 140) (l : List ByteArray) : (((whS z i l).crash keep).restore).read (i : Int) = whW keep z i l ∧ (((whS z i l).crash keep).restore).errR (i : Int) = 0 := by
  have hl : (((whS z i l).crash keep).restore).now.length = 140 := by
    have := DS.crash_len (whS_ok z hi l) keep
    rw [whS_len] at this
    exact this
  constructor
  · unfold DS.read
    rw [if_pos ⟨rfl, by omega, by rw [hl]; omega⟩, Int.toNat_natCast]
    rfl
  · unfold DS.errR
    rw [if_pos (show (((whS z i l).crash keep).restore).on = true from rfl), if_pos ⟨by omega, by rw [hl]; omega⟩]
theorem kept_small (keep : List Int) (B : Nat) : ∀ (d : List (Nat × ByteArray)) (i : Nat) (s : List ByteArray), (∀ x ∈ s, x.size ≤ B) → (∀ x ∈ d, x.2.size ≤ B) → ∀ x ∈ keptL keep i d s, x.size ≤ B
  | [], _, s, hs, _ => hs
  | w :: r, i, s, hs, hd => by
    refine kept_small keep B r (i + 1) _ ?_ (fun x hx => hd x (by simp [hx]))
    intro x hx
    split at hx
    · rcases List.mem_or_eq_of_mem_set hx with h | h
      · exact hs x h
      · rw [h]; exact hd w (by simp)
    · exact hs x hx

set_option maxRecDepth 100000 in
set_option maxHeartbeats 4000000 in
theorem dwhole_in (i : Nat) (at_ : Int) (hat : at_ = (i : Int)) (A : Option Addr) (m c : Nat) (xs : List ByteArray) (A2 : Option Addr) (m2 c2 : Nat) (l : List Int) (w : World) (hi : i < 140) (hm : m ≤ 40) (hm2 : m2 ≤ 60) (hx : TextsIn w A m c xs) (hl : IntsIn w A2 m2 c2 l) :
    Calls Try.prog 7 #[.int .i64 at_, .slice A m c, .slice A2 m2 c2] w fun e w' => e = .returned (.bool true) ∧ Below w.heap.size w w' := by
  obtain ⟨z, hz⟩ : ∃ z, z = zeroB 256 := ⟨_, rfl⟩
  have HN := Lib.hid (fun w => dnew_yes 140 140 w rfl (by omega) (by omega))
  rw [← hz] at HN
  have HZS : Hid (z.size = 256) := Lib.hid (by rw [hz]; exact zeroB_size 256)
  have HX := Lib.hid hx
  have HL := Lib.hid hl
  have HAT := Lib.hid hat
  have a0 : ¬ at_ < 0 := by omega
  have a1 : at_ < 140 := by omega
  have HI := Lib.hid hi
  have HM := Lib.hid hm
  have hmI : (m : Int) ≤ 40 := by omega
  have hm2I : (m2 : Int) ≤ 60 := by omega
  have HZ := Lib.hid hz
  clear hat hi hm hm2 hx hl hz
  go_enter Try.func7, Try.ntmps7
  go_wp2_with fail
  refine (alive7_any _).mono ?_
  rintro e w1 ⟨rfl, hb1⟩
  go_wp2_with fail
  refine (HN.out w1).mono ?_
  rintro e w2 ⟨g, O, rfl, hD, hO, hb⟩
  have hO' : ∀ b ∈ O, w.heap.size ≤ b := fun b hb => Nat.le_trans hb1.size (hO b hb)
  have hb2 : Below w.heap.size w w2 := hb1.trans (hb.mono hb1.size)
  have HD := Lib.hid hD
  have HO := Lib.hid hO'
  have HB := Lib.hid hb2
  clear hD hO hO' hb hb1 hb2
  have hmk := zeros_make w2 256 (by omega)
  have hcv := zeros_convert w2 256
  rw [← HZ.out] at hmk hcv
  have hmk : (Instr.makeSlice 42 (.int .i64 256) (.int .i64 256)).run Try.prog w2 = .ok (.slice (some ⟨w2.heap.size, 0, none⟩) 256 256) (w2.alloc (.cells (Lib.byteCells z.data.toList).toArray 5)) := hmk
  go_wp2_with fail
  clear hmk hcv
  obtain ⟨W, hW⟩ : ∃ W, W = w2.alloc (.cells (Lib.byteCells z.data.toList).toArray 5) := ⟨_, rfl⟩
  have hWb : Below w2.heap.size w2 W := by rw [hW]; exact (Below.refl _ _).alloc (Nat.le_refl _) _
  have HD0 := Lib.hid (HD.out.below hWb)
  have HB0 := Lib.hid (HB.out.trans (hWb.mono HB.out.size))
  rw [← hW]
  clear hW hWb HD HB
  go_loopw [9, 10] (fun v i' wr => ∃ j : Nat, j ≤ m ∧ i' = .int .i64 j ∧ v = .string (whW l z i (xs.take j)) ∧ Below w.heap.size w wr ∧ ∃ O, DiskAt wr O g (whS z i (xs.take j)) ∧ ∀ b ∈ O, w.heap.size ≤ b) (fun _ i' _ => m - (intOf i').toNat)
  case atStart => exact ⟨0, Nat.zero_le _, rfl, by rw [List.take_zero, whW_nil l z HI.out], HB0.out, O, HD0.out, HO.out⟩
  case round =>
    obtain ⟨j, hj, rfl, rfl, hbr, O1, hD1, hO1⟩ := hrel
    have HBR := Lib.hid hbr
    have HD1 := Lib.hid hD1
    have HO1 := Lib.hid hO1
    clear hbr hD1 hO1 HD0 HB0 HO
    by_cases hlt : j < m
    · have hjl : j < xs.length := by rw [HX.out.len]; exact hlt
      obtain ⟨b, off, rfl, hbw, hc⟩ := HX.out.lie (by omega)
      obtain ⟨x, hx⟩ : ∃ x, x = xs[j] := ⟨_, rfl⟩
      have hxj : xs[j]? = some x := by rw [hx]; exact List.getElem?_eq_getElem hjl
      have hcx : wr.cell? ⟨b, off + j, none⟩ = some (.string x) := (HBR.out.cell (p := ⟨b, off + j, none⟩) hbw).trans (hc j x hxj)
      have htk : xs.take (j + 1) = xs.take j ++ [x] := take_snoc hxj
      have htl : (xs.take j).length = j := by rw [List.length_take]; omega
      by_cases h60 : 60 < x.size
      · clear hx hxj hc htk htl
        have h60I : (60 : Int) < (x.size : Int) := by omega
        go_wp2_with fail
        go_ret
        exact ⟨rfl, HBR.out⟩
      · have hxs : (x.size : Int) ≤ 60 := by omega
        obtain ⟨q1, q2⟩ := whS_write z HI.out (xs.take j) x
        have q3 := whW_snoc l z HI.out (xs.take j) x
        rw [htl] at q3
        rw [← htk] at q2 q3
        have HQ := Lib.hid (And.intro q1 (And.intro q2 q3))
        have HXF : Hid (∀ w, Calls Try.prog 16 #[.string x] w fun e w' => e = .returned (.string (fillB x)) ∧ Below w.heap.size w w') := Lib.hid (fun w => fill_any x w (by omega))
        have hbk : Hid (∀ W, Below w.heap.size w W → W.cell? ⟨b, off + j, none⟩ = some (.string x)) := Lib.hid (fun W hW => (hW.cell (p := ⟨b, off + j, none⟩) hbw).trans (hc j x hxj))
        have HWD : Hid ((whS z i (xs.take j)).writes + 1 < 1000000000000 ∧ (whS z i (xs.take j)).dirty.length + 1 < 1000000000000) := Lib.hid (by
          have hmm := HM.out
          constructor
          · show (xs.take j).length + 1 < _; omega
          · show ((xs.take j).map _).length + 1 < _; rw [List.length_map]; omega)
        clear q1 q2 q3 htk htl hx hxj hc h60
        go_wp2_with fail
        refine (HXF.out _).mono ?_
        rintro e w3 ⟨rfl, hb3⟩
        have HB3 := Lib.hid (HBR.out.trans (hb3.mono HBR.out.size))
        have HD3 := Lib.hid (HD1.out.below hb3)
        clear hb3 hcx
        go_wp2_with fail
        obtain ⟨W, hW⟩ : ∃ W, W = w3.alloc (.cells #[.int .i64 at_, .string (fillB x)] 45) := ⟨_, rfl⟩
        have bW : Blk W w3.heap.size 45 #[.int .i64 at_, .string (fillB x)] := by rw [hW]; exact Blk.new _ _ _
        have hWb : Below w3.heap.size w3 W := by rw [hW]; exact (Below.refl _ _).alloc (Nat.le_refl _) _
        rw [← hW]
        clear hW
        have hn : w3.heap.size ∉ O1 := fun hm => absurd (HD3.out.lt hm) (Nat.lt_irrefl _)
        refine (dwrite_any (some ⟨w3.heap.size, 0, none⟩) 1 1 [(at_, fillB x)] (HD3.out.below hWb) (whS_ok z HI.out _) rfl (wrts_one bW hn) (show (0 : Nat) ≤ 9223372036854775807 by decide) HWD.out.1 HWD.out.2).mono ?_
        rintro e w4 ⟨rfl, hT⟩
        rw [HAT.out] at hT
        rw [show (whS z i (xs.take j)).errW [(at_, fillB x)] = 0 by rw [HAT.out]; exact HQ.out.1]
        rw [HQ.out.2.1] at hT
        obtain ⟨O4, t1, t2, t3⟩ := hT
        have hsz := Nat.le_trans HB3.out.size hWb.size
        have HB4 := Lib.hid ((HB3.out.trans (hWb.mono HB3.out.size)).trans (t3.below HO1.out hsz))
        have HO4 : Hid (∀ b ∈ O4, w.heap.size ≤ b) := Lib.hid (fun b hb => by
          rcases t2 b hb with h | h
          · exact HO1.out b h
          · exact Nat.le_trans hsz h)
        have HD4 := Lib.hid t1
        have hc4 := hbk.out _ HB4.out
        clear t1 t2 t3 hsz bW hWb hn HB3 HD3 HD1 HO1 HBR
        by_cases hm : j < m2
        · have hml : j < l.length := by rw [HL.out.len]; exact hm
          obtain ⟨b2, off2, rfl, hbB, hcA⟩ := HL.out.lie (by omega)
          obtain ⟨y, hy⟩ : ∃ y, y = l[j] := ⟨_, rfl⟩
          have hyj : l[j]? = some y := by rw [hy]; exact List.getElem?_eq_getElem hml
          have hyD : l.getD j 0 = y := by rw [List.getD_eq_getElem?_getD, hyj]; rfl
          have a0 : w4.cell? ⟨b2, off2 + j, none⟩ = some (.int .i64 y) := (HB4.out.cell (p := ⟨b2, off2 + j, none⟩) hbB).trans (hcA j y hyj)
          have hq := HQ.out.2.2
          rw [hyD] at hq
          clear hy hyj hyD hcA
          by_cases hodd : oddI y = true
          · have ht := odd_and hodd
            rw [hodd, if_pos rfl] at hq
            have HQ2 := Lib.hid hq
            clear hodd hq
            go_wp2_with fail
            refine (HXF.out _).mono ?_
            rintro e w5 ⟨rfl, hb5⟩
            go_wp2_with fail
            go_roundw
            case rel => exact ⟨j + 1, hlt, by go_num, by rw [HQ2.out], HB4.out.trans (hb5.mono HB4.out.size), O4, HD4.out.below hb5, HO4.out⟩
            case measure => simp [intOf]; omega
          · have ho : oddI y = false := by simpa using hodd
            have ht := even_and ho
            rw [ho, if_neg (by decide)] at hq
            have HQ2 := Lib.hid hq
            clear hodd ho hq
            go_wp2_with fail
            go_roundw
            case rel => exact ⟨j + 1, hlt, by go_num, by rw [HQ2.out], HB4.out, O4, HD4.out, HO4.out⟩
            case measure => simp [intOf]; omega
        · have hq := HQ.out.2.2
          have hD : oddI (l.getD j 0) = false := by
            rw [List.getD_eq_getElem?_getD, List.getElem?_eq_none (by rw [HL.out.len]; omega)]
            rfl
          rw [hD, if_neg (by decide)] at hq
          have HQ2 := Lib.hid hq
          clear hq hD
          go_wp2_with fail
          go_roundw
          case rel => exact ⟨j + 1, hlt, by go_num, by rw [HQ2.out], HB4.out, O4, HD4.out, HO4.out⟩
          case measure => simp [intOf]; omega
    · obtain rfl : j = m := by omega
      have htk : xs.take j = xs := List.take_of_length_le (by rw [HX.out.len]; exact Nat.le_refl _)
      rw [htk] at HD1 ⊢
      clear htk
      obtain ⟨q1, q2⟩ := whS_read l z HI.out xs
      obtain ⟨v, hv⟩ : ∃ v, v = whW l z i xs := ⟨_, rfl⟩
      rw [← hv] at q1 ⊢
      have HQ := Lib.hid (And.intro q1 q2)
      clear q1 q2 hv
      go_wp2_with fail
      refine (dcrash_any A2 m2 c2 l HD1.out (whS_ok z HI.out _) HL.out.len (HL.out.lie.below HBR.out) (fun hp a e hm => by
        obtain ⟨b, off, e2, hlt, _⟩ := HL.out.lie hp
        rw [e2] at e
        injection e with e
        have := HO1.out _ hm
        rw [← e] at this
        have : w.heap.size ≤ b := this
        omega)).mono ?_
      rintro e w3 ⟨rfl, hT⟩
      obtain ⟨O3, t1, t2, t3⟩ := hT
      have HB3 := Lib.hid (HBR.out.trans (t3.below HO1.out HBR.out.size))
      have HO3 : Hid (∀ b ∈ O3, w.heap.size ≤ b) := Lib.hid (fun b hb => by
        rcases t2 b hb with h | h
        · exact HO1.out b h
        · exact Nat.le_trans HBR.out.size h)
      have HD3 := Lib.hid t1
      clear t1 t2 t3 HD1 HO1 HBR
      go_wp2_with fail
      refine (drestore_any HD3.out).mono ?_
      rintro e w4 ⟨rfl, hT⟩
      obtain ⟨O4, t1, t2, t3⟩ := hT
      have HB4 := Lib.hid (HB3.out.trans (t3.below HO3.out HB3.out.size))
      have HD4 := Lib.hid t1
      clear t1 t2 t3 HD3 HO3 HB3
      go_wp2_with fail
      have HSM : Hid (∀ x ∈ ((whS z i xs).crash l).restore.now, x.size ≤ 100000) := Lib.hid (by
        refine kept_small l 100000 _ 0 _ (fun x hx => by rw [List.eq_of_mem_replicate hx]; have := HZS.out; omega) (fun x hx => ?_)
        obtain ⟨y, _, rfl⟩ := List.mem_map.1 hx
        rw [fillB_size]
        omega)
      have HR := Lib.hid (dread_any at_ HD4.out HSM.out)
      rw [HAT.out, HQ.out.1, HQ.out.2, ← HAT.out] at HR
      refine HR.out.mono ?_
      rintro e w5 ⟨rfl, hb5⟩
      go_wp2_with fail
      go_ret
      exact ⟨rfl, HB4.out.trans (hb5.mono HB4.out.size)⟩

set_option maxRecDepth 100000 in
set_option maxHeartbeats 1000000 in
theorem dwhole_out (at_ : Int) (A : Option Addr) (m c : Nat) (A2 : Option Addr) (m2 c2 : Nat) (w : World) (h : at_ < 0 ∨ 140 ≤ at_ ∨ 40 < m ∨ 60 < m2) :
    Calls Try.prog 7 #[.int .i64 at_, .slice A m c, .slice A2 m2 c2] w fun e w' => e = .returned (.bool true) ∧ Below w.heap.size w w' := by
  by_cases h1 : at_ < 0
  · go_enter Try.func7, Try.ntmps7
    go_wp2_with fail
    refine (alive7_any _).mono ?_
    rintro e w1 ⟨rfl, hb1⟩
    go_wp2_with fail
    go_ret
    exact ⟨rfl, hb1⟩
  · by_cases h2 : 140 ≤ at_
    · go_enter Try.func7, Try.ntmps7
      go_wp2_with fail
      refine (alive7_any _).mono ?_
      rintro e w1 ⟨rfl, hb1⟩
      go_wp2_with fail
      go_ret
      exact ⟨rfl, hb1⟩
    · by_cases h3 : 40 < (m : Int)
      · go_enter Try.func7, Try.ntmps7
        go_wp2_with fail
        refine (alive7_any _).mono ?_
        rintro e w1 ⟨rfl, hb1⟩
        go_wp2_with fail
        go_ret
        exact ⟨rfl, hb1⟩
      · have h4 : 60 < (m2 : Int) := by omega
        clear h
        go_enter Try.func7, Try.ntmps7
        go_wp2_with fail
        refine (alive7_any _).mono ?_
        rintro e w1 ⟨rfl, hb1⟩
        go_wp2_with fail
        go_ret
        exact ⟨rfl, hb1⟩
theorem dwhole_any (at_ : Int) (A : Option Addr) (m c : Nat) (xs : List ByteArray) (A2 : Option Addr) (m2 c2 : Nat) (l : List Int) (w : World) (_hb : -9223372036854775808 ≤ at_ ∧ at_ ≤ 9223372036854775807) (hx : TextsIn w A m c xs) (hl : IntsIn w A2 m2 c2 l) :
    Calls Try.prog 7 #[.int .i64 at_, .slice A m c, .slice A2 m2 c2] w fun e w' => e = .returned (.bool true) ∧ Below w.heap.size w w' := by
  by_cases h : 0 ≤ at_ ∧ at_ < 140 ∧ m ≤ 40 ∧ m2 ≤ 60
  · exact dwhole_in at_.toNat at_ (by omega) A m c xs A2 m2 c2 l w (by omega) h.2.2.1 h.2.2.2 hx hl
  · exact dwhole_out at_ A m c A2 m2 c2 w (by omega)
end Go.Proofs.Ytokddfbjjghpkaa
