/-
  The statements' first call of package disk. No statement is proved here.
-/
import Derived.Test.YtpepabggpappgaaDiskMade
namespace Go.Proofs.Ytpepabggpappgaa
open Go.RowKit

theorem err1_plain {S : DS} {i : Nat} {x : ByteArray} (hi : i < S.now.length) (hx : x.size = 256) (ha : S.armed = false) : S.err1 (i : Int) x = 0 := by
  unfold DS.err1 DS.fails
  rw [if_pos (by omega), if_pos hx]
  simp [DS.put, ha]
theorem write1_plain {S : DS} {i : Nat} {x : ByteArray} (hi : i < S.now.length) (hx : x.size = 256) (ha : S.armed = false) : S.write1 (i : Int) x = S.put i x := by
  unfold DS.write1 DS.failed
  rw [if_pos ⟨by omega, by omega, hx⟩]
  simp [DS.put, ha]
theorem wrts_one {w : World} {O : List Nat} {b : Nat} {a : Int} {s : ByteArray} (h : Blk w b 42 #[.int .i64 a, .string s]) (hO : b ∉ O) : Wrts w O (some ⟨b, 0, none⟩) [(a, s)] := by
  intro _
  refine ⟨b, 0, rfl, h.lt, hO, fun j x hx => ?_⟩
  match j, hx with
  | 0, hx => simp at hx; subst hx; exact ⟨h.cell 0, h.cell 1⟩
  | j + 1, hx => simp at hx
theorem wrts_two {w : World} {O : List Nat} {b : Nat} {a a' : Int} {s s' : ByteArray} (h : Blk w b 42 #[.int .i64 a, .string s, .int .i64 a', .string s']) (hO : b ∉ O) : Wrts w O (some ⟨b, 0, none⟩) [(a, s), (a', s')] := by
  intro _
  refine ⟨b, 0, rfl, h.lt, hO, fun j x hx => ?_⟩
  match j, hx with
  | 0, hx => simp at hx; subst hx; exact ⟨h.cell 0, h.cell 1⟩
  | 1, hx => simp at hx; subst hx; exact ⟨h.cell 2, h.cell 3⟩
  | j + 2, hx => simp at hx
theorem ints_one {w : World} {b : Nat} {a : Int} (h : Blk w b 3 #[.int .i64 a]) : Ints w (some ⟨b, 0, none⟩) [a] := by
  intro _
  refine ⟨b, 0, rfl, h.lt, fun j x hx => ?_⟩
  match j, hx with
  | 0, hx => simp at hx; subst hx; exact h.cell 0
  | j + 1, hx => simp at hx

theorem alive_one (z X : ByteArray) (hX : X.size = 256) : (DS.fresh 150 z).errW [(3, X), (4, X)] = 0 ∧
    (DS.fresh 150 z).write [(3, X), (4, X)] = { now := ((List.replicate 150 z).set 3 X).set 4 X, safe := List.replicate 150 z, dirty := [(3, X), (4, X)], on := true, writes := 2, armed := false, left := 0, keep := [] } := by
  have h1 : (DS.fresh 150 z).now.length = 150 := by unfold DS.fresh; simp
  have e1 := err1_plain (S := DS.fresh 150 z) (i := 3) (by omega) hX rfl
  have w1 := write1_plain (S := DS.fresh 150 z) (i := 3) (by omega) hX rfl
  have h2 : ((DS.fresh 150 z).put 3 X).now.length = 150 := by unfold DS.fresh DS.put; simp
  have e2 := err1_plain (S := (DS.fresh 150 z).put 3 X) (i := 4) (by omega) hX rfl
  have w2 := write1_plain (S := (DS.fresh 150 z).put 3 X) (i := 4) (by omega) hX rfl
  have e1 : (DS.fresh 150 z).err1 3 X = 0 := e1
  have w1 : (DS.fresh 150 z).write1 3 X = (DS.fresh 150 z).put 3 X := w1
  have e2 : ((DS.fresh 150 z).put 3 X).err1 4 X = 0 := e2
  have w2 : ((DS.fresh 150 z).put 3 X).write1 4 X = ((DS.fresh 150 z).put 3 X).put 4 X := w2
  constructor
  · unfold DS.errW
    rw [if_pos (show (DS.fresh 150 z).on = true from rfl)]
    simp only [DS.errL, e1, w1, e2, if_true]
  · unfold DS.write
    rw [if_pos (show (DS.fresh 150 z).on = true from rfl)]
    simp only [DS.writeL, e1, w1, e2, w2, if_true]
    rfl

/-- The disk at hand behind the first writes; behind the crash. -/
def liveS (z X : ByteArray) : DS := { now := ((List.replicate 150 z).set 3 X).set 4 X, safe := List.replicate 150 z, dirty := [(3, X), (4, X)], on := true, writes := 2, armed := false, left := 0, keep := [] }
def liveT (z X : ByteArray) (on : Bool) : DS := { now := (List.replicate 150 z).set 3 X, safe := (List.replicate 150 z).set 3 X, dirty := [], on := on, writes := 2, armed := false, left := 0, keep := [] }
theorem liveS_ok (z X : ByteArray) : (liveS z X).Ok := by
  refine ⟨rfl, fun w hw => ?_⟩
  unfold liveS at hw ⊢
  simp at hw ⊢
  rcases hw with rfl | rfl
  · show 3 < 150; omega
  · show 4 < 150; omega
theorem live_crash (z X : ByteArray) : (liveS z X).crash [1] = liveT z X false ∧ (liveS z X).lost [1] = 1 := by
  constructor
  · rfl
  · rfl
theorem live_read (z X : ByteArray) : (liveT z X true).read 3 = X ∧ (liveT z X true).errR 3 = 0 ∧ (liveT z X true).read 4 = z ∧ (liveT z X true).errR 4 = 0 ∧ (liveT z X true).now.length = 150 := by
  have hl : (liveT z X true).now.length = 150 := by unfold liveT; simp
  refine ⟨?_, ?_, ?_, ?_, hl⟩
  · unfold DS.read; rw [if_pos ⟨rfl, by decide, by rw [hl]; decide⟩]; rfl
  · unfold DS.errR; rw [if_pos (show (liveT z X true).on = true from rfl), if_pos ⟨by decide, by rw [hl]; decide⟩]
  · unfold DS.read; rw [if_pos ⟨rfl, by decide, by rw [hl]; decide⟩]; rfl
  · unfold DS.errR; rw [if_pos (show (liveT z X true).on = true from rfl), if_pos ⟨by decide, by rw [hl]; decide⟩]
theorem live_small (z X : ByteArray) (hz : z.size = 256) (hX : X.size = 256) : ∀ x ∈ (liveT z X true).now, x.size ≤ 100000 := by
  intro x hx
  have hx : x ∈ (List.replicate 150 z).set 3 X := hx
  rcases List.mem_or_eq_of_mem_set hx with h | h
  · rw [List.eq_of_mem_replicate h]; omega
  · rw [h]; omega

set_option maxRecDepth 100000 in
set_option maxHeartbeats 4000000 in
theorem alive7_any (w : World) : Calls Try.prog 5 #[] w fun e w' => e = .returned (.bool true) ∧ Below w.heap.size w w' := by
  obtain ⟨z, hz⟩ : ∃ z, z = zeroB 256 := ⟨_, rfl⟩
  have hzs : z.size = 256 := by rw [hz]; exact zeroB_size 256
  obtain ⟨X, hX⟩ : ∃ X, X = fillB ⟨#[120]⟩ := ⟨_, rfl⟩
  have hXs : X.size = 256 := by rw [hX]; exact fillB_size _
  have HN := Lib.hid (dnew_yes 150 150 w rfl (by omega) (by omega))
  rw [← hz] at HN
  have HF : Hid (∀ w, Calls Try.prog 13 #[.string ⟨#[120]⟩] w fun e w' => e = .returned (.string X) ∧ Below w.heap.size w w') := Lib.hid (fun w => by rw [hX]; exact fill_any _ w (by decide))
  have HZ : Hid (∀ w, Calls Try.prog 18 #[.int .i64 256] w fun e w' => e = .returned (.string z) ∧ Below w.heap.size w w') := Lib.hid (fun w => by rw [hz]; exact ref_zeros 256 w (by omega))
  obtain ⟨p1, p2⟩ := alive_one z X hXs
  have HP := Lib.hid (And.intro p1 p2)
  have HXS := Lib.hid hXs
  have HZS := Lib.hid hzs
  clear hz hX hzs hXs p1 p2
  go_enter Try.func5, Try.ntmps5
  go_wp2_with fail
  refine HN.out.mono ?_
  rintro e w1 ⟨g, O, rfl, hD, hO, hb⟩
  have HD := Lib.hid hD
  have HO := Lib.hid hO
  have HB := Lib.hid hb
  clear hD hO hb
  go_wp2_with fail
  refine (HF.out _).mono ?_
  rintro e w2 ⟨rfl, hb2⟩
  have HD2 := Lib.hid (HD.out.below hb2)
  have HB2 := Lib.hid (HB.out.trans (hb2.mono HB.out.size))
  clear hb2 HD HB
  go_wp2_with fail
  obtain ⟨W, hW⟩ : ∃ W, W = w2.alloc (.cells #[.int .i64 3, .string X, .int .i64 4, .string X] 42) := ⟨_, rfl⟩
  have bW : Blk W w2.heap.size 42 #[.int .i64 3, .string X, .int .i64 4, .string X] := by rw [hW]; exact Blk.new _ _ _
  have hWb : Below w2.heap.size w2 W := by rw [hW]; exact (Below.refl _ _).alloc (Nat.le_refl _) _
  rw [← hW]
  clear hW
  have hn : w2.heap.size ∉ O := fun hm => absurd (HD2.out.lt hm) (Nat.lt_irrefl _)
  refine (dwrite_any (some ⟨w2.heap.size, 0, none⟩) 2 2 [(3, X), (4, X)] (HD2.out.below hWb) (DS.Ok.fresh _ _) rfl (wrts_two bW hn) (show (0 : Nat) ≤ 9223372036854775807 by decide) (show (0 : Nat) + 2 < 1000000000000 by decide) (show (0 : Nat) + 2 < 1000000000000 by decide)).mono ?_
  rintro e w3 ⟨rfl, hT⟩
  rw [HP.out.1]
  rw [HP.out.2] at hT
  have hT1 : Turns O g (liveS z X) W w3 := hT
  obtain ⟨O3, t1, t2, t3⟩ := hT1
  have hb3 : Below w.heap.size w w3 := (HB2.out.trans (hWb.mono HB2.out.size)).trans (t3.below HO.out (Nat.le_trans HB2.out.size hWb.size))
  have hO3 : ∀ b ∈ O3, w.heap.size ≤ b := fun b hb => by
    rcases t2 b hb with h | h
    · exact HO.out b h
    · exact Nat.le_trans (Nat.le_trans HB2.out.size hWb.size) h
  have HD3 := Lib.hid t1
  have HB3 := Lib.hid hb3
  have HO3 := Lib.hid hO3
  clear hT t1 t2 t3 hb3 hO3 bW hWb hn HD2 HB2 HO HP
  go_wp2_with fail
  obtain ⟨W2, hW2⟩ : ∃ W2, W2 = w3.alloc (.cells #[.int .i64 1] 3) := ⟨_, rfl⟩
  have bW : Blk W2 w3.heap.size 3 #[.int .i64 1] := by rw [hW2]; exact Blk.new _ _ _
  have hWb : Below w3.heap.size w3 W2 := by rw [hW2]; exact (Below.refl _ _).alloc (Nat.le_refl _) _
  rw [← hW2]
  clear hW2
  have hn : w3.heap.size ∉ O3 := fun hm => absurd (HD3.out.lt hm) (Nat.lt_irrefl _)
  refine (dcrash_any (some ⟨w3.heap.size, 0, none⟩) 1 1 [1] (HD3.out.below hWb) (liveS_ok z X) rfl (ints_one bW) (fun _ a e => by cases e; exact hn)).mono ?_
  rintro e w4 ⟨rfl, hT⟩
  rw [(live_crash z X).2]
  rw [(live_crash z X).1] at hT
  obtain ⟨O4, t1, t2, t3⟩ := hT
  have hb4 : Below w.heap.size w w4 := (HB3.out.trans (hWb.mono HB3.out.size)).trans (t3.below HO3.out (Nat.le_trans HB3.out.size hWb.size))
  have hO4 : ∀ b ∈ O4, w.heap.size ≤ b := fun b hb => by
    rcases t2 b hb with h | h
    · exact HO3.out b h
    · exact Nat.le_trans (Nat.le_trans HB3.out.size hWb.size) h
  have HD4 := Lib.hid t1
  have HB4 := Lib.hid hb4
  have HO4 := Lib.hid hO4
  clear t1 t2 t3 hb4 hO4 bW hWb hn HD3 HB3 HO3
  go_wp2_with fail
  refine (drestore_any HD4.out).mono ?_
  rintro e w5 ⟨rfl, hT⟩
  have hT5 : Turns O4 g (liveT z X true) w4 w5 := hT
  obtain ⟨O5, t1, t2, t3⟩ := hT5
  have hb5 : Below w.heap.size w w5 := HB4.out.trans (t3.below HO4.out HB4.out.size)
  have HD5 := Lib.hid t1
  have HB5 := Lib.hid hb5
  clear hT t1 t2 t3 hb5 HD4 HB4 HO4
  obtain ⟨r1, r2, r3, r4, r5⟩ := live_read z X
  have HR := Lib.hid (And.intro r1 (And.intro r2 (And.intro r3 (And.intro r4 r5))))
  clear r1 r2 r3 r4 r5
  go_wp2_with fail
  refine (dread_any 3 HD5.out (live_small z X HZS.out HXS.out)).mono ?_
  rintro e w6 ⟨rfl, hb6⟩
  rw [HR.out.1, HR.out.2.1]
  have HD6 := Lib.hid (HD5.out.below hb6)
  have HB6 := Lib.hid (HB5.out.trans (hb6.mono HB5.out.size))
  clear hb6 HD5 HB5
  go_wp2_with fail
  refine (dread_any 4 HD6.out (live_small z X HZS.out HXS.out)).mono ?_
  rintro e w7 ⟨rfl, hb7⟩
  rw [HR.out.2.2.1, HR.out.2.2.2.1]
  have HD7 := Lib.hid (HD6.out.below hb7)
  have HB7 := Lib.hid (HB6.out.trans (hb7.mono HB6.out.size))
  clear hb7 HD6 HB6
  go_wp2_with fail
  refine (HZ.out _).mono ?_
  rintro e w8 ⟨rfl, hb8⟩
  have HD8 := Lib.hid (HD7.out.below hb8)
  have HB8 := Lib.hid (HB7.out.trans (hb8.mono HB7.out.size))
  clear hb8 HD7 HB7
  go_wp2_with fail
  refine (don_any HD8.out).mono ?_
  rintro e w9 ⟨rfl, rfl⟩
  rw [show (liveT z X true).on = true from rfl]
  go_wp2_with fail
  refine (dsize_any HD8.out).mono ?_
  rintro e w9 ⟨rfl, rfl⟩
  rw [HR.out.2.2.2.2]
  go_wp2_with fail
  go_ret
  exact ⟨rfl, HB8.out⟩
end Go.Proofs.Ytpepabggpappgaa
