/-
  crc.Seal, whatever is handed over.
-/
import Derived.Test.YtnpmeolibdjgpaaGreatDoorCrcOf
namespace Go.Proofs.YtnpmeolibdjgpaaGreatDoor
open Go.RowKit

/-- What Seal answers, as values. -/
def sealV (n : Int) (l : List UInt8) : Value := .tuple #[.string ⟨(sealB n l).1.toArray⟩, .int .i64 (sealB n l).2]
theorem raws_new (xs : List ByteArray) : (Wr.mk [] 0).raws xs = ⟨cats xs, 0⟩ := by unfold Wr.raws Wr.lay; rw [if_pos rfl]; rfl
theorem pad_new {n : Int} {l : List UInt8} (h1 : n ≤ 65536) (h : (l.length : Int) ≤ n - 4) : (Wr.mk l 0).pad (n - 4) = ⟨body n l, 0⟩ := by
  unfold Wr.pad
  rw [if_neg (by omega), if_neg (by simp only []; omega)]
  unfold Wr.lay
  rw [if_pos rfl]
  rfl
theorem word_new (l : List UInt8) {k : Nat} (h : k < 4294967296) : (Wr.mk l 0).nums 4 [(k : Int)] = ⟨l ++ lowBytes 4 k, 0⟩ := by
  have hf : allFit 4 [(k : Int)] = true := by
    unfold allFit
    rw [List.all_cons, List.all_nil, Bool.and_true, fits_iff]
    omega
  unfold Wr.nums
  rw [if_pos hf]
  unfold Wr.lay
  rw [if_pos rfl]
  have e : allBytes 4 [(k : Int)] = lowBytes 4 k := by unfold allBytes; rw [List.flatMap_cons, List.flatMap_nil, List.append_nil]; rfl
  rw [e]
theorem roomB_yes {n : Int} {l : List UInt8} (h : (l.length : Int) ≤ n) : roomB n l = true := decide_eq_true h
theorem roomB_no {n : Int} {l : List UInt8} (h : ¬ (l.length : Int) ≤ n) : roomB n l = false := decide_eq_false h

set_option maxRecDepth 100000 in
set_option maxHeartbeats 1000000 in
theorem seal_arg (n : Int) (A : Option Addr) (m c : Nat) (l : List UInt8) (w : World) (h : n < 4 ∨ 65536 < n) :
    Calls Tryz.prog 55 #[.int .i64 n, .slice A m c] w fun e w' => e = .returned (sealV n l) ∧ w = w' := by
  have E : sealV n l = .tuple #[.string .empty, .int .i64 1] := by unfold sealV; rw [sealB_arg h]; rfl
  rw [E]
  clear E
  by_cases h1 : n < 4
  · go_enter Tryz.func55, Tryz.ntmps55
    go_wp2_with fail
    go_ret2
    exact ⟨rfl, rfl⟩
  · have h2 : 65536 < n := by omega
    clear h
    go_enter Tryz.func55, Tryz.ntmps55
    go_wp2_with fail
    go_ret2
    exact ⟨rfl, rfl⟩

set_option maxRecDepth 100000 in
set_option maxHeartbeats 1000000 in
theorem seal_in (n : Int) (A : Option Addr) (m c : Nat) (xs : List ByteArray) (w : World) (hm : xs.length = m) (hx : Txts w w.heap.size A xs) (hf : TextsFit xs) (h0 : 4 ≤ n) (h1 : n ≤ 65536) :
    Calls Tryz.prog 55 #[.int .i64 n, .slice A m c] w fun e w' => e = .returned (sealV n (cats xs)) ∧ Below w.heap.size w w' := by
  have hl : xs.length ≤ 140737488351232 := by have := hf.1; omega
  have hz : ∀ x ∈ xs, x.size ≤ 140737488351232 := fun x hx => by have := hf.2 x hx; omega
  have hs : (cats xs).length ≤ 140737488351232 := by
    have := cats_bound xs 100000 hf.2
    have := Nat.mul_le_mul_right 100000 hf.1
    omega
  have HFit := Lib.hid (fit_any (n - 4) A m c xs w hm hx hl hz (by omega) (by omega))
  have HX := Lib.hid hx
  have HM := Lib.hid hm
  have HS := Lib.hid hs
  have HL := Lib.hid hl
  clear hx hf hm hz hs hl
  by_cases hbig : (↑(cats xs).length : Int) ≤ n - 4
  · have E : sealV n (cats xs) = .tuple #[.string ⟨(body n (cats xs) ++ lowBytes 4 (crc (body n (cats xs)))).toArray⟩, .int .i64 0] := by unfold sealV; rw [sealB_ok h0 h1 hbig]
    rw [E]
    have HR := Lib.hid (roomB_yes hbig)
    have hbl := body_length hbig
    have HP := Lib.hid (pad_new h1 hbig)
    obtain ⟨B, hB⟩ : ∃ B, B = body n (cats xs) := ⟨_, rfl⟩
    rw [← hB] at hbl ⊢
    have hbl2 : B.length ≤ 65532 := by omega
    have HB := Lib.hid hB
    clear E hB hbl hbig
    go_enter Tryz.func55, Tryz.ntmps55
    go_wp2_with fail
    refine HFit.out.mono ?_
    rintro e w1 ⟨rfl, rfl⟩
    rw [HR.out]
    go_wp2_with fail
    with_reducible refine (out_raw w.heap.size ⟨[], 0⟩ A m c xs _ HM.out ?_ HL.out HS.out ?_ (by simp)).mono ?_
    · exact (HX.out.below ((Below.refl _ _).alloc (Nat.le_refl _) _)).more (by simp)
    · exact OutAt.new w
    rintro e w1 ⟨rfl, h2, hg2⟩
    have hb2 : Below w.heap.size w w1 := below_by_new ((Below.refl _ w).alloc (Nat.le_refl _) _) hg2 (Nat.le_refl _)
    rw [raws_new] at h2
    clear hg2
    go_wp2_with fail
    with_reducible refine (pad_any w.heap.size ⟨cats xs, 0⟩ (n - 4) _ h2 HS.out).mono ?_
    rintro e w2 ⟨rfl, h3, hg3⟩
    have hb3 : Below w.heap.size w w2 := below_by_new hb2 hg3 (Nat.le_refl _)
    rw [HP.out, ← HB.out] at h3
    clear hg3 hb2 h2
    go_wp2_with fail
    with_reducible refine (fin_any w.heap.size ⟨B, 0⟩ _ h3 (Wr.ok_zero _) (by simp only []; omega)).mono ?_
    rintro e w3 ⟨rfl, h4, hb4⟩
    have hb5 : Below w.heap.size w w3 := hb3.trans (hb4.mono hb3.size)
    clear hb4 hb3 h3
    go_wp2_with fail
    with_reducible refine (of_any (some ⟨w3.heap.size, 0, none⟩) 1 1 [⟨B.toArray⟩] _ rfl ?_ (by simp) ?_).mono ?_
    · exact txts_at w3 _ [⟨B.toArray⟩] _ rfl rfl
    · intro x hx
      rw [List.mem_singleton.1 hx, Lib.size_eq]
      show B.length ≤ _
      omega
    rintro e w4 ⟨rfl, rfl⟩
    have e1 : crc (cats [⟨B.toArray⟩]) = crc B := by rw [cats_one]
    have hcl := crc_lt B
    rw [e1]
    have HW := Lib.hid (word_new B hcl)
    obtain ⟨K, hK⟩ : ∃ K, K = crc B := ⟨_, rfl⟩
    rw [← hK] at hcl ⊢
    have HK := Lib.hid hK
    clear e1 hK
    go_wp2_with fail
    with_reducible refine (out_word w.heap.size ⟨B, 0⟩ (some ⟨w3.heap.size + 1, 0, none⟩) 1 1 [(K : Int)] _ rfl ?_ (by simp) ?_ ?_ (by simp only []; omega)).mono ?_
    · exact ints_at _ _ [(K : Int)] _ (by simp) rfl
    · exact inRange_one (by omega) (by omega)
    · exact h4.below (((Below.refl _ w3).alloc (Nat.le_refl _) _).alloc (by simp) _)
    rintro e w5 ⟨rfl, h6, hg6⟩
    have hb6 : Below w.heap.size w w5 := below_by_new ((hb5.alloc hb5.size _).alloc (by have := hb5.size; simp; omega) _) hg6 (Nat.le_refl _)
    rw [HK.out, HW.out] at h6
    clear hg6 h4 hb5
    go_wp2_with fail
    with_reducible refine (fin_any w.heap.size ⟨B ++ lowBytes 4 (crc B), 0⟩ _ h6 (Wr.ok_zero _) (by simp only [List.length_append, lowBytes_length]; omega)).mono ?_
    rintro e w6 ⟨rfl, h7, hb7⟩
    have hb8 : Below w.heap.size w w6 := hb6.trans (hb7.mono hb6.size)
    clear hb7 h7 h6 hb6
    go_wp2_with fail
    go_ret2
    exact ⟨rfl, hb8⟩
  · have E : sealV n (cats xs) = .tuple #[.string .empty, .int .i64 2] := by unfold sealV; rw [sealB_long h0 h1 (by omega)]; rfl
    rw [E]
    have HR := Lib.hid (roomB_no hbig)
    clear E hbig
    go_enter Tryz.func55, Tryz.ntmps55
    go_wp2_with fail
    refine HFit.out.mono ?_
    rintro e w1 ⟨rfl, rfl⟩
    rw [HR.out]
    go_wp2_with fail
    go_ret2
    exact ⟨rfl, Below.refl _ _⟩

theorem seal_any (n : Int) (A : Option Addr) (m c : Nat) (xs : List ByteArray) (w : World) (hm : xs.length = m) (hx : Txts w w.heap.size A xs) (hf : TextsFit xs) :
    Calls Tryz.prog 55 #[.int .i64 n, .slice A m c] w fun e w' => e = .returned (sealV n (cats xs)) ∧ Below w.heap.size w w' := by
  by_cases h : n < 4 ∨ 65536 < n
  · exact (seal_arg n A m c (cats xs) w h).mono fun e w' ⟨he, hw⟩ => ⟨he, hw ▸ Below.refl _ _⟩
  · exact seal_in n A m c xs w hm hx hf (by omega) (by omega)
end Go.Proofs.YtnpmeolibdjgpaaGreatDoor
