/-
  Package head's parse. No statement is proved here.
-/
import Derived.Test.YtiagofgcinlnhaaGreatDoorRoomTake
import Derived.Test.YtiagofgcinlnhaaGreatDoorDiskPure
import Derived.Test.YtiagofgcinlnhaaGreatDoorWalPure
import Derived.Test.YtiagofgcinlnhaaGreatDoorWalSmall
import Derived.Test.YtiagofgcinlnhaaGreatDoorDiskClone
namespace Go.Proofs.YtiagofgcinlnhaaGreatDoor
open Go.RowKit
def bytesC (P : Nat → Bool) : Array Value := ((List.range 238).map fun k => Value.int .u8 (byteP P k : Int)).toArray
theorem bytesC_get (P : Nat → Bool) {k : Nat} (hk : k < 238) : (bytesC P)[k]? = some (.int .u8 (byteP P k : Int)) := by
  unfold bytesC
  rw [List.getElem?_toArray, List.getElem?_map, List.getElem?_range hk]
  rfl
theorem bytesC_size (P : Nat → Bool) : (bytesC P).size = 238 := by simp [bytesC]
theorem bytes_agg (w : World) : (isAgg 116).run Tryz.prog w = .ok true w := by kernel_rfl
theorem bytes_size (w : World) : (sizeOf 116).run Tryz.prog w = .ok 238 w := by kernel_rfl
theorem RoomAt.load {w : World} {g n : Nat} {H : List Int} (h : RoomAt w g n H) : (Instr.loadAt 116 (.pointer (some ⟨g, 1, none⟩))).run Tryz.prog w = .ok (.agg (bytesC (inP H))) w :=
  run_load_part h.blk (fun j v hv => by
    have hj : j < 238 := by
      rcases Nat.lt_or_ge j 238 with h' | h'
      · exact h'
      · rw [Array.getElem?_eq_none (by rw [bytesC_size]; exact h')] at hv; cases hv
    rw [bytesC_get _ hj] at hv
    rw [roomC_byte _ _ hj]
    exact hv) bytes_agg (fun w => by rw [bytesC_size]; exact bytes_size w)
theorem least_ex {n : Nat} {H : List Int} (ho : HOk n H) : ∃ k, Least H k := by
  have : ∀ m : Nat, (∀ i : Nat, i < m → (i : Int) ∈ H) ∨ ∃ k, Least H k := by
    intro m
    induction m with
    | zero => exact .inl fun i hi => by omega
    | succ m ih =>
      rcases ih with h | h
      · by_cases hm : (m : Int) ∈ H
        · refine .inl fun i hi => ?_
          rcases Nat.lt_or_ge i m with h' | h'
          · exact h i h'
          · obtain rfl : i = m := by omega
            exact hm
        · exact .inr ⟨m, h, hm⟩
      · exact .inr h
  rcases this (n + 1) with h | h
  · have := ho.range _ (h n (by omega))
    omega
  · exact h
theorem least_at {n : Nat} {H : List Int} {k j : Nat} (hk : Least H k) (hlt : freeAt (inP H) j < 8) (hin : j * 8 + freeAt (inP H) j < n) (hf : ∀ i, i < j → freeAt (inP H) i = 8 ∨ n ≤ i * 8 + freeAt (inP H) i) : k = j * 8 + freeAt (inP H) j := by
  refine hk.one (Least.byte (fun i hi => ?_) hlt)
  rcases hf i hi with h | h
  · exact h
  · have := freeAt_le (inP H) i
    omega
theorem least_end {n : Nat} {H : List Int} {k : Nat} (ho : HOk n H) (hk : Least H k) (hn : n ≤ 1900) (hf : ∀ i, i < 238 → freeAt (inP H) i = 8 ∨ n ≤ i * 8 + freeAt (inP H) i) : k = n := by
  have h1 := hk.le ho
  rcases Nat.lt_or_ge k n with h | h
  · have h2 : ¬ (k % 8 < freeAt (inP H) (k / 8)) := fun h2 => by
      have := (freeAt_spec (inP H) (k / 8)).1 (k % 8) h2
      rw [i8] at this
      exact hk.not ((inP_iff _ _).1 this)
    rcases hf (k / 8) (by omega) with h3 | h3 <;> omega
  · omega
set_option maxRecDepth 100000 in
set_option maxHeartbeats 4000000 in
theorem rtake_any {w : World} {g n : Nat} {H : List Int} (h : RoomAt w g n H) {k : Nat} (hk : Least H k) : Calls Tryz.prog 44 #[.pointer (some ⟨g, 0, none⟩)] w fun e w' =>
    (k < n ∧ e = .returned (.tuple #[.int .i64 (k : Int), .int .i64 0]) ∧ RoomTurns w w' g n (putL (k : Int) H)) ∨ (k = n ∧ e = .returned (.tuple #[.int .i64 0, .int .i64 20]) ∧ w' = w) := by
  have hs := h.size
  have HR := Lib.hid h
  have HK := Lib.hid hk
  obtain ⟨P, hP⟩ : ∃ P, P = inP H := ⟨_, rfl⟩
  have HL := Lib.hid h.load
  rw [← hP] at HL
  obtain ⟨C, hC⟩ : ∃ C, C = bytesC P := ⟨_, rfl⟩
  rw [← hC] at HL
  have HIX : Hid (∀ (w : World) (j : Nat), j < 238 → (Instr.index 116 (.agg C) (.int .i64 (j : Int))).run Tryz.prog w = .ok (.int .u8 (byteP P j : Int)) w) := Lib.hid (fun w j hj => index_bytes w C j _ hj (by rw [hC]; exact bytesC_get P hj))
  have HC : Hid (∀ (j : Nat) (w : World), Calls Tryz.prog 80 #[.int .u8 ((255 ^^^ byteP P j : Nat) : Int)] w fun e w' => e = .returned (.int .i64 (freeAt P j : Int)) ∧ w' = w) := Lib.hid (fun j w => tz_any P j w)
  have hgl := h.lt
  have HPP := Lib.hid hP
  clear h hP hC hk
  go_enter Tryz.func44, Tryz.ntmps44
  go_upto_region 3 with fail
  refine wp_region_lit ?_
  refine wpList_value (v := .pointer (some ⟨g, 0, none⟩)) rfl rfl ?_
  refine wpList_value (v := .pointer (some ⟨g, 0, none⟩)) rfl rfl ?_
  refine wpList_value (v := .pointer (some ⟨g, 1, none⟩)) rfl rfl ?_
  refine wpList_load rfl rfl rfl HL.out ?_
  go_wp2_with fail
  go_loopw [13] (fun i wr => ∃ (j : Nat), j ≤ 238 ∧ i = .int .i64 j ∧ (∀ i, i < j → freeAt P i = 8 ∨ n ≤ i * 8 + freeAt P i) ∧ wr = w) (fun i _ => 238 - (intOf i).toNat)
  case atStart => exact ⟨0, by omega, rfl, fun i hi => by omega, rfl⟩
  case round =>
    obtain ⟨j, hj, rfl, hf, rfl⟩ := hrel
    have HFF := Lib.hid hf
    clear hf
    by_cases hlt : j < 238
    · have hjI : (j : Int) < 238 := by omega
      go_upto_region 5 with fail
      refine wp_region_lit ?_
      refine wpList_value (v := .int .i64 (j : Int)) rfl rfl ?_
      refine wpList_value rfl (exec_index rfl rfl rfl (HIX.out _ j hlt)) ?_
      obtain ⟨b, hb⟩ : ∃ b, b = byteP P j := ⟨_, rfl⟩
      obtain ⟨f, hfe⟩ : ∃ f, f = freeAt P j := ⟨_, rfl⟩
      obtain ⟨c, hc⟩ : ∃ c, c = 255 ^^^ b := ⟨_, rfl⟩
      have hb8 : b < 256 := by rw [hb]; exact byteP_lt _ _
      have hf8 : f ≤ 8 := by rw [hfe]; exact freeAt_le _ _
      have hxor : bits .xor .u8 IntKind.u8.max (b : Int) = (c : Int) := by
        rw [hc]
        exact u8_xor_nat 255 b (by omega) hb8
      have HTZ : Hid (∀ w, Calls Tryz.prog 80 #[.int .u8 (c : Int)] w fun e w' => e = .returned (.int .i64 (f : Int)) ∧ w' = w) := Lib.hid (fun w => by rw [hc, hb, hfe]; exact HC.out j w)
      have hful : b = 255 ↔ f = 8 := by rw [hb, hfe]; exact full_byte P j
      have HFE := Lib.hid hfe
      rw [← hb]
      have e1 : IntKind.i64.wrap ((j : Int) * 8) = (j : Int) * 8 := IntWalk.i64_in _ (by omega)
      have e2 : IntKind.i64.wrap ((j : Int) * 8 + (f : Int)) = ((j * 8 + f : Nat) : Int) := by rw [IntWalk.i64_in _ (by omega)]; omega
      obtain ⟨t, ht⟩ : ∃ t, t = j * 8 + f := ⟨_, rfl⟩
      rw [← ht] at e2
      have HT := Lib.hid ht
      have HH := Lib.hid (rhas_any (t : Int) HR.out)
      clear hb hfe hc ht
      by_cases hbe : b = 255
      · have hf9 : f = 8 := hful.1 hbe
        have HF9 := Lib.hid hf9
        have hbI : (b : Int) = 255 := by omega
        clear hful hf9 hbe
        rw [hbI] at hxor
        go_wp2_with fail
        refine (HTZ.out _).mono ?_
        rintro e w1 ⟨rfl, rfl⟩
        go_wp2_with fail
        go_roundw
        case rel => exact ⟨j + 1, by omega, by go_num, fun i hi => by
          rcases Nat.lt_or_ge i j with h' | h'
          · exact HFF.out i h'
          · obtain rfl : i = j := by omega
            rw [← HFE.out]
            exact .inl HF9.out, by first | rfl | trivial⟩
        case measure => simp [intOf]; omega
      · have hf9 : f < 8 := by have := mt hful.2 hbe; omega
        have hbI : ¬ (b : Int) = 255 := by omega
        clear hful hbe
        by_cases hin : t < n
        · have hda : decide (0 ≤ (t : Int) ∧ (t : Int) < (n : Int)) = true := decide_eq_true ⟨by omega, by omega⟩
          rw [hda] at HH
          have HKT : Hid (k = t) := Lib.hid (by
            rw [HT.out, HFE.out, HPP.out]
            rw [HT.out] at hin
            have h9 := hf9
            rw [HFE.out, HPP.out] at hin h9
            have := HFF.out
            rw [HPP.out] at this
            exact least_at HK.out h9 hin this)
          have HST := Lib.hid (rset_any t HR.out hin)
          clear hda
          go_wp2_with fail
          refine (HTZ.out _).mono ?_
          rintro e w1 ⟨rfl, rfl⟩
          go_wp2_with fail
          refine HH.out.mono ?_
          rintro e w1 ⟨rfl, rfl⟩
          go_wp2_with fail
          refine HST.out.mono ?_
          rintro e w1 ⟨rfl, hT⟩
          have HTT := Lib.hid hT
          clear hT
          go_wp2_with fail
          go_ret2
          rw [HKT.out]
          exact .inl ⟨hin, rfl, HTT.out⟩
        · have hda : decide (0 ≤ (t : Int) ∧ (t : Int) < (n : Int)) = false := decide_eq_false (fun h => by omega)
          rw [hda] at HH
          clear hda
          go_wp2_with fail
          refine (HTZ.out _).mono ?_
          rintro e w1 ⟨rfl, rfl⟩
          go_wp2_with fail
          refine HH.out.mono ?_
          rintro e w1 ⟨rfl, rfl⟩
          go_wp2_with fail
          go_roundw
          case rel => exact ⟨j + 1, by omega, by go_num, fun i hi => by
            rcases Nat.lt_or_ge i j with h' | h'
            · exact HFF.out i h'
            · obtain rfl : i = j := by omega
              rw [← HFE.out, ← HT.out]
              exact .inr (by omega), by first | rfl | trivial⟩
          case measure => simp [intOf]; omega
    · obtain rfl : j = 238 := by omega
      have HE : Hid (k = n) := Lib.hid (by
        have := HFF.out
        rw [HPP.out] at this
        exact least_end HR.out.ok HK.out hs this)
      go_wp2_with fail
      go_ret2
      exact .inr ⟨HE.out, rfl, rfl⟩
theorem row_other {w w' : World} {base : Nat} {e : TypeId} {size : Nat} {v : Value} {n : Nat} {xs : List Value} {row : Option Nat} (h : w.ownsRow base e size v n xs) (hg : w.grownBy w' row) (hr : ∀ k, row = some k → v.ownBlock ≠ some k) : w'.ownsRow base e size v n xs := by
  refine ⟨h.1, ?_⟩
  rcases h.2 with hn | ⟨g, cap, cur, rfl, hb1, hgg, rest⟩
  · exact .inl hn
  · exact .inr ⟨g, cap, cur, rfl, hb1, (hg.block g (h.lt g rfl).2 (fun e => hr g e.symm rfl)).trans hgg, rest⟩
theorem blk_other {w w' : World} {g : Nat} {t : TypeId} {cs : Array Value} {row : Option Nat} (h : Blk w g t cs) (hg : w.grownBy w' row) (hr : row ≠ some g) : Blk w' g t cs := (hg.block g h.lt (fun e => hr e.symm)).trans h
theorem row_slice' {w : World} {base : Nat} {e : TypeId} {size : Nat} {v : Value} {n : Nat} {xs : List Value} (h : w.ownsRow base e size v n xs) : ∃ p cap, v = .slice p n cap ∧ (p = none → n = 0) := by
  rcases h.2 with ⟨rfl, rfl⟩ | ⟨g, cap, cur, rfl, _⟩
  · exact ⟨none, 0, rfl, fun _ => rfl⟩
  · exact ⟨some ⟨g, 0, none⟩, cap, rfl, fun h => by cases h⟩
theorem row_kept' {w w' : World} {base : Nat} {e : TypeId} {size : Nat} {v : Value} {n : Nat} {xs : List Value} (h : w.ownsRow base e size v n xs) (hb : ∀ k, v.ownBlock = some k → w'.heap[k]? = w.heap[k]?) : w'.ownsRow base e size v n xs := by
  refine ⟨h.1, ?_⟩
  rcases h.2 with hn | ⟨g, cap, cur, rfl, hb1, hgg, rest⟩
  · exact .inl hn
  · exact .inr ⟨g, cap, cur, rfl, hb1, by rw [hb g rfl]; exact hgg, rest⟩
theorem row_lower {w : World} {base base' : Nat} {e : TypeId} {size : Nat} {v : Value} {n : Nat} {xs : List Value} (h : w.ownsRow base e size v n xs) (hb : base' ≤ base) : w.ownsRow base' e size v n xs := by
  refine ⟨h.1, ?_⟩
  rcases h.2 with hn | ⟨g, cap, cur, rfl, hb1, rest⟩
  · exact .inl hn
  · exact .inr ⟨g, cap, cur, rfl, by omega, rest⟩
section
variable {w : World} {base size n cap : Nat} {e : TypeId} {v : Value} {xs : List Value}
theorem krow_form (h : w.ownsRow base e size v n xs) : ∃ p cap, v = .slice p n cap ∧ n ≤ cap ∧ cap ≤ 9223372036854775807 ∧ (p = none → n = 0) ∧ (∀ a, p = some a → a = ⟨a.block, 0, none⟩) := by
  rcases h.2 with ⟨rfl, rfl⟩ | ⟨g, cap, cur, rfl, _, _, h1, h2, _⟩
  · exact ⟨none, 0, rfl, by omega, by omega, fun _ => rfl, fun _ h => by cases h⟩
  · exact ⟨some ⟨g, 0, none⟩, cap, rfl, h1, by simpa [maxLen] using h2, (fun h => by cases h), fun a h => by cases h; rfl⟩
theorem krow_cell {g : Nat} (h : w.ownsRow base e size (.slice (some ⟨g, 0, none⟩) n cap) n xs) {i : Nat} {u : Value} (hi : xs[i]? = some u) : w.cell? ⟨g, i, none⟩ = some u := by
  have := h.cells (g := g) rfl i u hi
  rwa [add_off, Nat.zero_add] at this
theorem krow_frozen {g : Nat} (h : w.ownsRow base e size (.slice (some ⟨g, 0, none⟩) n cap) n xs) (i : Nat) : w.frozen? ⟨g, i, none⟩ = false := by
  rcases h.2 with ⟨h, _⟩ | ⟨g', cap', cur, h, _, hg, _⟩
  · cases h
  · injection h with h1 _ _
    injection h1 with h1
    injection h1 with h1 _ _
    subst h1
    exact Blk.frozen (show Blk w g e cur from hg) i
theorem krow_put {g : Nat} (h : w.ownsRow base e size (.slice (some ⟨g, 0, none⟩) n cap) n xs) {i : Nat} (u : Value) : (w.setCell ⟨g, i, none⟩ u).ownsRow base e size (.slice (some ⟨g, 0, none⟩) n cap) n (xs.set i u) := by
  refine ⟨by rw [List.length_set]; exact h.1, ?_⟩
  rcases h.2 with ⟨h, _⟩ | ⟨g', cap', cur, h, hb, hg, h1, h2, h3, h4⟩
  · cases h
  · injection h with e1 _ e3
    injection e1 with e1
    injection e1 with e1 _ _
    subst e1 e3
    refine .inr ⟨g, cap, cur.setIfInBounds i u, rfl, hb, Blk.put (show Blk w g e cur from hg) i u, h1, h2, by rw [Array.size_setIfInBounds]; exact h3, ?_⟩
    rw [Array.toList_setIfInBounds, ← h4, List.take_set]
theorem krow_far {p : Addr} (h : w.ownsRow base e size v n xs) (hp : v.ownBlock ≠ some p.block) (u : Value) : (w.setCell p u).ownsRow base e size v n xs :=
  row_kept' h fun k hk => Below.heap_setCell _ _ _ _ (fun e => hp (by rw [hk, e]))
end
def RowAt (w : World) (p : Option Addr) (vs : List Value) : Prop := 0 < vs.length → ∃ b off, p = some ⟨b, off, none⟩ ∧ b < w.heap.size ∧ ∀ (j : Nat) (v : Value), vs[j]? = some v → w.cell? ⟨b, off + j, none⟩ = some v
theorem RowAt.below {w w' : World} {p : Option Addr} {vs : List Value} (h : RowAt w p vs) (hb : Below w.heap.size w w') : RowAt w' p vs := fun hp => by
  obtain ⟨b, off, e, hbl, hc⟩ := h hp
  exact ⟨b, off, e, Nat.lt_of_lt_of_le hbl hb.size, fun j v hv => (hb.cell (p := ⟨b, off + j, none⟩) hbl).trans (hc j v hv)⟩
theorem row_type {w : World} {base n size : Nat} {e : TypeId} {v : Value} {xs : List Value} (h : w.ownsRow base e size v n xs) {b : Nat} (hb : v.ownBlock = some b) : ∃ cs, w.heap[b]? = some (.cells cs e (0, 0)) := by
  rcases h.2 with ⟨rfl, _⟩ | ⟨g, cap, cur, rfl, _, hg, _⟩
  · cases hb
  · injection hb with hb
    have hb : g = b := hb
    subst hb
    exact ⟨cur, hg⟩
theorem row_apart {w : World} {base base' n n' size size' : Nat} {e e' : TypeId} {v v' : Value} {xs xs' : List Value} (h : w.ownsRow base e size v n xs) (h' : w.ownsRow base' e' size' v' n' xs') (he : e ≠ e') {b : Nat} (hb : v.ownBlock = some b) : v'.ownBlock ≠ some b := fun hb' => by
  obtain ⟨cs, h1⟩ := row_type h hb
  obtain ⟨cs', h2⟩ := row_type h' hb'
  rw [h1] at h2
  injection h2 with h2
  injection h2 with _ h2 _
  exact he h2
theorem row_off {w : World} {base n g size : Nat} {e t : TypeId} {v : Value} {xs : List Value} {cs : Array Value} (h : w.ownsRow base e size v n xs) (hb : Blk w g t cs) (he : e ≠ t) : v.ownBlock ≠ some g := fun hb' => by
  obtain ⟨cs', h2⟩ := row_type h hb'
  have hb : w.heap[g]? = _ := hb
  rw [hb] at h2
  injection h2 with h2
  injection h2 with _ h2 _
  exact he h2.symm
theorem wp_region_phase {P : Program} {ops : Array Oper} {Q : Exit → Act → World → Prop} (lo k hi m : Nat) (J : (Nat → Bool) → (Nat → Value) → World → Prop) {id : Nat} {a : Act} {w : World}
    (hm : P.follows .mixedOrders = true) (he : early .any ops = true) (hsz : ops.size = k + m) (hm0 : 0 < m) (hsink : (List.range' k m).all (fun i => sinkL ops i) = true) (hhi : lo + k = hi + 1) (hlo : lo + k ≤ a.tmps.size)
    (h0 : J (fun _ => false) (fun _ => undef) w.drew)
    (hops : ∀ i, i < k → ∀ (L : Nat → Bool) (f : Nat → Value) (x : Act) (w' : World), FrameKept a lo hi x → L i = false → J L f w' → (∀ j ∈ waitsFor .any ops i, L j = true) → (∀ j, j < k → L j = true → x.tmps[lo + j]?.getD undef = f j) → wpOp P ops Q i (fun x' w'' => ∃ v, x' = x.put (some (lo + i)) v ∧ J (fun j => if i = j then true else L j) (fun j => if i = j then v else f j) w'') x w')
    (hrest : ∀ (L : Nat → Bool) (f : Nat → Value) (w' : World), (∀ j, j < k → L j = true) → J L f w' → wpOps P ops Q (List.range' k m) ⟨putAll lo k f a.tmps, a.defers⟩ w') : (Code.region id ops true).wp P Q a w := by
  have hsk : ∀ i, k ≤ i → i < k + m → sinkL ops i = true := fun i h1 h2 => List.all_eq_true.1 hsink i (by rw [List.mem_range'_1]; omega)
  have hcl : ∀ (L : Nat → Bool) (i : Nat), (∀ i, L i = true → ∀ j ∈ waitsFor .any ops i, L j = true) → (∀ j ∈ waitsFor .any ops i, L j = true) → ∀ n, (fun j => if i = j then true else L j) n = true → ∀ j ∈ waitsFor .any ops n, (fun j => if i = j then true else L j) j = true := by
    intro L i h1 h2 n hn j hj
    by_cases hij : i = j
    · simp [hij]
    · simp only [if_neg hij]
      by_cases hin : i = n
      · subst hin; exact h2 j hj
      · simp only [if_neg hin] at hn
        exact h1 n hn j hj
  refine wp_region_kept (fun L x w => (∀ i, L i = true → ∀ j ∈ waitsFor .any ops i, L j = true) ∧
    (((∀ i, k ≤ i → L i = false) ∧ FrameKept a lo hi x ∧ ∃ f, (∀ j, j < k → L j = true → x.tmps[lo + j]?.getD undef = f j) ∧ J L f w) ∨
      ∃ t, k < t ∧ t ≤ k + m ∧ (∀ i, i < t → L i = true) ∧ (∀ i, t ≤ i → L i = false) ∧ wpOps P ops Q (List.range' t (k + m - t)) x w)) hm he ?_ ?_ ?_
  · exact ⟨(fun _ h => by cases h), .inl ⟨fun _ _ => rfl, FrameKept.refl _ _ _, _, (fun _ _ h => by cases h), h0⟩⟩
  · intro L x w' i ⟨hc, hI⟩ hi hLi hw
    have hc' := hcl L i hc hw
    rcases hI with ⟨hno, hF, f, hL, hJ⟩ | ⟨t, ht1, ht2, hyes, hno, hO⟩
    · by_cases hik : i < k
      · refine wpOp_mono (fun x' w'' h => ?_) (hops i hik L f x w' hF hLi hJ hw hL)
        obtain ⟨v, rfl, hj'⟩ := h
        refine ⟨hc', .inl ⟨fun n hn => ?_, hF.put _ _ (by omega) (by omega), _, fun n hn hLn => ?_, hj'⟩⟩
        · simp only [if_neg (show ¬ i = n by omega)]
          exact hno n hn
        · by_cases e : i = n
          · subst e
            rw [put_here _ _ _ (by rw [hF.2.1]; omega), if_pos rfl]
          · simp only [if_neg e] at hLn ⊢
            rw [put_there _ _ _ _ (by omega)]
            exact hL n hn hLn
      · have hall := sink_done (L := fun j => if i = j then true else L j) (hsk i (by omega) (by omega)) hc' (by simp)
        have hik2 : i = k := by
          rcases Nat.lt_or_ge k i with h | h
          · have := hall k h
            simp only [if_neg (show ¬ i = k by omega), hno k (Nat.le_refl _)] at this
            cases this
          · omega
        subst hik2
        have hallL : ∀ j, j < i → L j = true := fun j hj => by
          have := hall j hj
          simpa [show i ≠ j by omega] using this
        have hx := frame_all hF hhi hlo (fun j hj => hL j hj (hallL j hj))
        have hr := hrest L f w' hallL hJ
        rw [← hx] at hr
        obtain ⟨m', rfl⟩ : ∃ m', m = m' + 1 := ⟨m - 1, by omega⟩
        rw [List.range'_succ, wpOps_cons] at hr
        refine wpOp_mono (fun x' w'' h => ⟨hc', .inr ⟨i + 1, by omega, by omega, fun j hj => ?_, fun j hj => ?_, ?_⟩⟩) hr
        · by_cases e : i = j
          · simp [e]
          · simp only [if_neg e]; exact hallL j (by omega)
        · simp only [if_neg (show ¬ i = j by omega)]; exact hno j (by omega)
        · rw [show i + (m' + 1) - (i + 1) = m' by omega]; exact h
    · have hit : i = t := by
        have h1 : t ≤ i := by
          rcases Nat.lt_or_ge i t with h | h
          · rw [hyes i h] at hLi; cases hLi
          · exact h
        rcases Nat.lt_or_ge t i with h | h
        · have := sink_done (L := fun j => if i = j then true else L j) (hsk i (by omega) (by omega)) hc' (by simp) t h
          simp only [if_neg (show ¬ i = t by omega), hno t (Nat.le_refl _)] at this
          cases this
        · omega
      subst hit
      obtain ⟨d, hd⟩ : ∃ d, k + m - i = d + 1 := ⟨k + m - i - 1, by omega⟩
      rw [hd, List.range'_succ, wpOps_cons] at hO
      refine wpOp_mono (fun x' w'' h => ⟨hc', .inr ⟨i + 1, by omega, by omega, fun j hj => ?_, fun j hj => ?_, ?_⟩⟩) hO
      · by_cases e : i = j
        · simp [e]
        · simp only [if_neg e]; exact hyes j (by omega)
      · simp only [if_neg (show ¬ i = j by omega)]; exact hno j (by omega)
      · rw [show k + m - (i + 1) = d by omega]; exact h
  · intro L x w' ⟨_, hI⟩ hall
    rcases hI with ⟨hno, _⟩ | ⟨t, ht1, ht2, _, hno, hO⟩
    · have := hall k (by omega)
      rw [hno k (Nat.le_refl _)] at this
      cases this
    · have e : t = k + m := by
        rcases Nat.lt_or_ge t (k + m) with h | h
        · have := hall t (by omega)
          rw [hno t (Nat.le_refl _)] at this
          cases this
        · omega
      subst e
      rw [Nat.sub_self] at hO
      exact hO
structure Made where
  e : TypeId
  size : Nat
  n : Nat
  xs : List Value
def FreshJ (W : World) (k : Nat) (V : Nat → Value) (R : Nat → Option Made) (L : Nat → Bool) (f : Nat → Value) (w' : World) : Prop :=
  Below W.heap.size W w' ∧ (∀ i, i < k → L i = true → R i = none → f i = V i) ∧
    (∀ i r, i < k → L i = true → R i = some r → w'.ownsRow W.heap.size r.e r.size (f i) r.n r.xs) ∧
    (∀ i j r s, i < k → j < k → i ≠ j → L i = true → L j = true → R i = some r → R j = some s → ∀ b, (f i).ownBlock = some b → (f j).ownBlock ≠ some b)
theorem row_base {w : World} {base base' : Nat} {e : TypeId} {size : Nat} {v : Value} {n : Nat} {xs : List Value} (h : w.ownsRow base e size v n xs) (hb : base' ≤ base) : w.ownsRow base' e size v n xs := by
  refine ⟨h.1, ?_⟩
  rcases h.2 with hn | ⟨g, cap, cur, e, hb1, rest⟩
  · exact .inl hn
  · exact .inr ⟨g, cap, cur, e, Nat.le_trans hb hb1, rest⟩
theorem row_below {w w' : World} {base : Nat} {e : TypeId} {size : Nat} {v : Value} {n : Nat} {xs : List Value} (h : w.ownsRow base e size v n xs) (hb : Below w.heap.size w w') : w'.ownsRow base e size v n xs := by
  refine ⟨h.1, ?_⟩
  rcases h.2 with hn | ⟨g, cap, cur, rfl, hb1, hg, rest⟩
  · exact .inl hn
  · exact .inr ⟨g, cap, cur, rfl, hb1, (hb.block g (h.lt g rfl).2).trans hg, rest⟩
theorem wp_region_fresh {P : Program} {ops : Array Oper} {Q : Exit → Act → World → Prop} (lo k hi m : Nat) (V : Nat → Value) (R : Nat → Option Made) {id : Nat} {a : Act} {W : World}
    (hm : P.follows .mixedOrders = true) (he : early .any ops = true) (hsz : ops.size = k + m) (hm0 : 0 < m) (hsink : (List.range' k m).all (fun i => sinkL ops i) = true) (hhi : lo + k = hi + 1) (hlo : lo + k ≤ a.tmps.size)
    (hval : ∀ i, i < k → R i = none → ∀ (x : Act) (w' : World), Below W.heap.size W w' → FrameKept a lo hi x → (∀ j ∈ waitsFor .any ops i, j < k → R j = none → x.tmps[lo + j]?.getD undef = V j) → wpOp P ops Q i (fun x' w'' => x' = x.put (some (lo + i)) (V i) ∧ w' = w'') x w')
    (hrow : ∀ i r, i < k → R i = some r → ∀ (x : Act) (w' : World), Below W.heap.size W w' → FrameKept a lo hi x → (∀ j ∈ waitsFor .any ops i, j < k → R j = none → x.tmps[lo + j]?.getD undef = V j) → wpOp P ops Q i (fun x' w'' => ∃ v, x' = x.put (some (lo + i)) v ∧ w''.ownsRow w'.heap.size r.e r.size v r.n r.xs ∧ Below w'.heap.size w' w'') x w')
    (hrest : ∀ (L : Nat → Bool) (f : Nat → Value) (w' : World), (∀ j, j < k → L j = true) → FreshJ W k V R L f w' → wpOps P ops Q (List.range' k m) ⟨putAll lo k f a.tmps, a.defers⟩ w') : (Code.region id ops true).wp P Q a W := by
  refine wp_region_phase lo k hi m (FreshJ W k V R) hm he hsz hm0 hsink hhi hlo ?_ ?_ hrest
  · exact ⟨⟨rfl, rfl, rfl, Nat.le_refl _, fun _ _ => rfl⟩, (fun _ _ h => by cases h), (fun _ _ _ h => by cases h), (fun _ _ _ _ _ _ _ h => by cases h)⟩
  · intro i hik L f x w' hF hLi ⟨hB, hV, hR, hA⟩ hw hx
    have hvals : ∀ j ∈ waitsFor .any ops i, j < k → R j = none → x.tmps[lo + j]?.getD undef = V j := fun j hj hjk hrj => (hx j hjk (hw j hj)).trans (hV j hjk (hw j hj) hrj)
    cases hri : R i with
    | none =>
      refine wpOp_mono (fun x' w'' h => ?_) (hval i hik hri x w' hB hF hvals)
      obtain ⟨rfl, rfl⟩ := h
      refine ⟨V i, rfl, hB, fun n hn hL hr => ?_, fun n r hn hL hr => ?_, fun n1 n2 r s h1 h2 hne hL1 hL2 hr1 hr2 => ?_⟩
      · by_cases e : i = n
        · subst e; show (if i = i then V i else f i) = V i; rw [if_pos rfl]
        · simp only [if_neg e] at hL ⊢; exact hV n hn hL hr
      · by_cases e : i = n
        · subst e; rw [hri] at hr; cases hr
        · simp only [if_neg e] at hL ⊢; exact hR n r hn hL hr
      · by_cases e1 : i = n1
        · subst e1; rw [hri] at hr1; cases hr1
        · by_cases e2 : i = n2
          · subst e2; rw [hri] at hr2; cases hr2
          · simp only [if_neg e1, if_neg e2] at hL1 hL2 ⊢; exact hA n1 n2 r s h1 h2 hne hL1 hL2 hr1 hr2
    | some q =>
      refine wpOp_mono (fun x' w'' h => ?_) (hrow i q hik hri x w' hB hF hvals)
      obtain ⟨v, rfl, hown, hb⟩ := h
      refine ⟨v, rfl, hB.trans (Below.mono hb hB.size), fun n hn hL hr => ?_, fun n r hn hL hr => ?_, fun n1 n2 r s h1 h2 hne hL1 hL2 hr1 hr2 b => ?_⟩
      · by_cases e : i = n
        · subst e; rw [hri] at hr; cases hr
        · simp only [if_neg e] at hL ⊢; exact hV n hn hL hr
      · by_cases e : i = n
        · subst e
          rw [hri] at hr
          cases hr
          show World.ownsRow w'' W.heap.size q.e q.size (if i = i then v else f i) q.n q.xs
          rw [if_pos rfl]
          exact row_base hown hB.size
        · simp only [if_neg e] at hL ⊢; exact row_below (hR n r hn hL hr) hb
      · by_cases e1 : i = n1
        · have e2 : ¬ i = n2 := fun e => hne (e1.symm.trans e)
          simp only [if_pos e1, if_neg e2] at hL2 ⊢
          intro hb1 hb2
          have := (hown.lt b hb1).1
          have := ((hR n2 s h2 hL2 hr2).lt b hb2).2
          omega
        · by_cases e2 : i = n2
          · simp only [if_neg e1, if_pos e2] at hL1 ⊢
            intro hb1 hb2
            have := (hown.lt b hb2).1
            have := ((hR n1 r h1 hL1 hr1).lt b hb1).2
            omega
          · simp only [if_neg e1, if_neg e2] at hL1 hL2 ⊢; exact hA n1 n2 r s h1 h2 hne hL1 hL2 hr1 hr2 b
theorem append_copy {P : Program} {w : World} {B : Nat} (t ty e : TypeId) (i : TypeInfo) (z : Value) (size bytes : Nat) (ht : P.underlying t = some (.slice e)) (hi : P.info? e = some i) (hz : i.zero = some z)
    (hsize : i.size = size) (hby : i.bytes = bytes) (hzs : z.cells.size = size) (hsz : 0 < size) {v : Value} {n : Nat} {xs : List Value} (hown : w.ownsRow B e size v n xs) (h1 : ∀ u ∈ xs, u.oneCell' = true) (h63 : n ≤ maxLen) (hbytes : n * bytes ≤ 140737488355328) :
    ∃ v' w', (Builtin.append_ #[t, t] ty #[.slice none 0 0, v]).run P w = .ok v' w' ∧ w'.ownsRow w.heap.size e size v' n xs ∧ Below w.heap.size w w' := by
  rcases hown.2 with ⟨rfl, rfl⟩ | ⟨g, cap, cur, rfl, hrest⟩
  · have hx : xs = [] := List.eq_nil_of_length_eq_zero (by rw [hown.1]; omega)
    subst hx
    exact ⟨_, w, run_append_owned_none (P := P) (w := w) w.heap.size t ty e i size ht hi (.slice none 0 0) 0 [] (World.ownsRow_nil _ _ _ _), World.ownsRow_nil _ _ _ _, Below.refl _ _⟩
  · obtain ⟨v', w', hr, h2, h3, _, _⟩ := run_append_own_at (P := P) w w.heap.size t ty e i z size bytes ht hi hz hsize hby hzs hsz (.slice none 0 0) 0 [] (World.ownsRow_nil _ _ _ _) ⟨g, 0, none⟩ n cap xs hown.1 (fun j u hu => hown.cells (g := g) rfl j u hu) h1 (by omega) (by simpa using hbytes) (Nat.le_refl _)
    refine ⟨v', w', hr, by simpa using h2, (Below.refl _ _).grown h3 (Nat.le_refl _) (by simp [Value.ownBlock])⟩
theorem hints_info : (Tryz.prog.info? 3).map (fun i => (i.zero, i.size, i.bytes)) = some (some (.int .i64 0), 1, 8) := by kernel_rfl
theorem InAt.far {w w' : World} {g : Nat} {s : Rd} (h : InAt w g s) (hh : w'.heap[g]? = w.heap[g]?) : InAt w' g s := hh.trans h
theorem InAt.lt {w : World} {g : Nat} {s : Rd} (h : InAt w g s) : g < w.heap.size := Blk.lt h
structure PJ (w0 : World) (g h4 : Nat) (q : Int) (fl : Bool) (v : Value) (j : Nat) (old : List Value) (x : Int) (s1 s2 : Rd) (L : Nat → Bool) (f : Nat → Value) (w' : World) : Prop where
  f0 : L 0 = true → f 0 = .pointer (some ⟨h4, 2, none⟩)
  f1 : L 1 = true → f 1 = v
  f2 : L 2 = true → f 2 = .pointer (some ⟨g, 0, none⟩)
  f3 : L 3 = true → f 3 = .int .i64 x
  f4 : L 4 = true → ∃ b, f 4 = .slice (some ⟨b, 0, none⟩) 1 1 ∧ Blk w' b 3 #[.int .i64 x] ∧ b ≠ g ∧ b ≠ h4 ∧ v.ownBlock ≠ some b
  f5 : L 5 = true → ∃ gd cap, f 5 = .slice (some ⟨gd, 0, none⟩) (j + 1) cap ∧ w'.ownsRow w0.heap.size 3 1 (.slice (some ⟨gd, 0, none⟩) (j + 1) cap) (j + 1) (old ++ [.int .i64 x]) ∧ gd ≠ g ∧ gd ≠ h4 ∧ gd ≠ w0.heap.size
  c4 : L 4 = true → L 3 = true
  c5 : L 5 = true → L 4 = true
  rd : InAt w' g (if L 3 = true then s2 else s1)
  hd : Blk w' h4 99 #[.int .i64 q, .bool fl, v]
  row : L 5 = false → w'.ownsRow w0.heap.size 3 1 v j old
  below : Below w0.heap.size w0 w'
  r0 : Blk w' w0.heap.size 99 #[.int .i64 0, .bool false, .slice none 0 0]
set_option maxRecDepth 100000 in
set_option maxHeartbeats 8000000 in
theorem hparse_any (h : HD) (hv : h.Valid) (w : World) :
    Calls Tryz.prog 130 #[.string (bs (body 256 h.bytes))] w fun e w' => ∃ A c, e = .returned (h.val A c) ∧ h.At w' A c ∧ (∀ b off, A = some ⟨b, off, none⟩ → w.heap.size ≤ b) ∧ Below w.heap.size w w' := by
  obtain ⟨z, hz⟩ := body_eq h
  obtain ⟨sq, hsq⟩ : ∃ n : Nat, h.seq = (n : Int) := ⟨h.seq.toNat, by have := hv.seq; omega⟩
  have hbl := hv.body_len
  obtain ⟨Y, hY⟩ : ∃ Y, Y = bs (body 256 h.bytes) := ⟨_, rfl⟩
  have hYs : Y.size = 252 := by rw [hY, bs_size, hbl]
  have hsb : sq < 256 ^ 8 := by have := hv.seq; omega
  have hsm : sq ≤ 9223372036854775807 := by have := hv.seq; omega
  obtain ⟨R1, hR1⟩ : ∃ R : Rd, R = ⟨bs (lowBytes 1 (bitN h.full) ++ (lowBytes 8 sq ++ (lowBytes 2 h.ts.length ++ (allBytes 2 h.ts ++ z)))), 0⟩ := ⟨_, rfl⟩
  obtain ⟨R2, hR2⟩ : ∃ R : Rd, R = ⟨bs (lowBytes 8 sq ++ (lowBytes 2 h.ts.length ++ (allBytes 2 h.ts ++ z))), 0⟩ := ⟨_, rfl⟩
  obtain ⟨R3, hR3⟩ : ∃ R : Rd, R = ⟨bs (lowBytes 2 h.ts.length ++ (allBytes 2 h.ts ++ z)), 0⟩ := ⟨_, rfl⟩
  have N1 : (Rd.mk Y 0).num 1 = (7, R1) := by rw [hY, hz, hsq, Int.toNat_natCast, num_bs 1 7 _ (by decide) (by decide), hR1]; rfl
  have N2 : R1.num 1 = ((bitN h.full : Int), R2) := by rw [hR1, num_bs 1 _ _ (by have := bitN_lt h.full; omega) (by have := bitN_lt h.full; omega), hR2]
  have N3 : R2.num 8 = ((sq : Int), R3) := by rw [hR2, num_bs 8 _ _ hsb hsm, hR3]
  have N4 : R3.num 2 = ((h.ts.length : Int), ⟨bs (allBytes 2 h.ts ++ z), 0⟩) := by rw [hR3, num_bs 2 _ _ (by have := hv.few; omega) (by have := hv.few; omega)]
  have hzl : (allBytes 2 h.ts ++ z).length ≤ 252 := by
    rw [← hbl, hz]
    simp only [List.length_append]
    omega
  have Z1 : R1.b.size ≤ 252 := by have := (Rd.mk Y 0).size_num 1; rw [N1] at this; simp only at this; omega
  have Z2 : R2.b.size ≤ 252 := by have := R1.size_num 1; rw [N2] at this; simp only at this; omega
  have Z3 : R3.b.size ≤ 252 := by have := R2.size_num 8; rw [N3] at this; simp only at this; omega
  have HYS : Hid (Y.size ≤ 140737488351232) := Lib.hid (by omega)
  have HB1 : Hid (∀ (W : World) (g : Nat), InAt W g ⟨Y, 0⟩ → Calls Tryz.prog 133 #[.pointer (some ⟨g, 0, none⟩)] W fun e w' => e = .returned (.int .i64 7) ∧ InAt w' g R1 ∧ W.grownBy w' (some g)) := Lib.hid (fun W g hi => by have := in_byte g _ W hi (by show Y.size ≤ _; omega); rwa [N1] at this)
  have HB2 : Hid (∀ (W : World) (g : Nat), InAt W g R1 → Calls Tryz.prog 133 #[.pointer (some ⟨g, 0, none⟩)] W fun e w' => e = .returned (.int .i64 (bitN h.full : Int)) ∧ InAt w' g R2 ∧ W.grownBy w' (some g)) := Lib.hid (fun W g hi => by have := in_byte g _ W hi (by omega); rwa [N2] at this)
  have HB3 : Hid (∀ (W : World) (g : Nat), InAt W g R2 → Calls Tryz.prog 160 #[.pointer (some ⟨g, 0, none⟩)] W fun e w' => e = .returned (.int .i64 (sq : Int)) ∧ InAt w' g R3 ∧ W.grownBy w' (some g)) := Lib.hid (fun W g hi => by have := in_long g _ W hi (by omega); rwa [N3] at this)
  obtain ⟨n, hn⟩ : ∃ n, n = h.ts.length := ⟨_, rfl⟩
  rw [← hn] at N4
  have HB4 : Hid (∀ (W : World) (g : Nat), InAt W g R3 → Calls Tryz.prog 134 #[.pointer (some ⟨g, 0, none⟩)] W fun e w' => e = .returned (.int .i64 (n : Int)) ∧ InAt w' g ⟨bs (allBytes 2 h.ts ++ z), 0⟩ ∧ W.grownBy w' (some g)) := Lib.hid (fun W g hi => by have := in_half g _ W hi (by omega); rwa [N4] at this)
  have HV := Lib.hid hv
  have HN := Lib.hid hn
  have HZL := Lib.hid hzl
  have HSQ := Lib.hid hsq
  have hn110 : (n : Int) ≤ 110 := by have := hv.few; omega
  obtain ⟨fb, hfb⟩ : ∃ fb, fb = h.full := ⟨_, rfl⟩
  obtain ⟨fi, hfi⟩ : ∃ fi : Int, fi = (bitN h.full : Int) := ⟨_, rfl⟩
  have hfv : fi = if fb then 1 else 0 := by rw [hfi, hfb]; exact bitN_val _
  rw [← hfi] at HB2
  have HFB := Lib.hid hfb
  obtain ⟨si, hsi⟩ : ∃ si : Int, si = (sq : Int) := ⟨_, rfl⟩
  rw [← hsi] at HB3
  have HSI := Lib.hid hsi
  have hmin : min (n : Int) 110 = (n : Int) := by omega
  have hneq : (fi != 0) = fb := by rw [hfv]; cases fb <;> rfl
  rw [← hY]
  clear hz hsq hbl hY hYs hsb hsm hR1 hR2 hR3 N1 N2 N3 N4 hzl Z1 Z2 Z3 hv hn hfb hfi hfv hsi
  go_enter Tryz.func130, Tryz.ntmps130
  go_wp2_with fail
  refine (on_any Y _ HYS.out).mono ?_
  rintro e w1 ⟨g, rfl, hgl, hi1, hb1⟩
  have HR0 : Hid (Blk w1 w.heap.size 99 #[.int .i64 0, .bool false, .slice none 0 0]) := Lib.hid ((Blk.new w _ _).below hb1 (by simp))
  have HBW : Hid (Below w.heap.size w w1) := Lib.hid (((Below.refl _ _).alloc (Nat.le_refl _) _).trans (hb1.mono (by simp)))
  have HG : Hid (w.heap.size < g) := Lib.hid (by simp at hgl; omega)
  have HI1 := Lib.hid hi1
  clear hgl hi1 hb1
  go_wp2_with fail
  refine (HB1.out _ _ HI1.out).mono ?_
  rintro e w2 ⟨rfl, hi2, hg2⟩
  have HI2 := Lib.hid hi2
  have HG2 := Lib.hid hg2
  clear hi2 hg2
  go_wp2_with fail
  refine (HB2.out _ _ HI2.out).mono ?_
  rintro e w3 ⟨rfl, hi3, hg3⟩
  have HI3 := Lib.hid hi3
  have HG3 := Lib.hid hg3
  clear hi3 hg3
  go_wp2_with fail
  refine (HB3.out _ _ HI3.out).mono ?_
  rintro e w4 ⟨rfl, hi4, hg4⟩
  have HI4 := Lib.hid hi4
  have HG4 := Lib.hid hg4
  clear hi4 hg4
  go_wp2_with fail
  have hi5 : InAt (w4.alloc (.cells #[.int .i64 si, .bool fb, .slice none 0 0] 99)) g R3 := HI4.out.far (Below.heap_alloc _ _ _ HI4.out.lt)
  refine (HB4.out _ _ hi5).mono ?_
  rintro e w6 ⟨rfl, hi6, hg6⟩
  have HG4' : Hid (g < w4.heap.size) := Lib.hid HI4.out.lt
  have HI6 := Lib.hid hi6
  have hgn : some g ≠ some w4.heap.size := fun e => by injection e with e; have := HG4'.out; omega
  have HH6 : Hid (Blk w6 w4.heap.size 99 #[.int .i64 si, .bool fb, .slice none 0 0]) := Lib.hid (blk_other (Blk.new w4 _ _) hg6 hgn)
  have HR6 : Hid (Blk w6 w.heap.size 99 #[.int .i64 0, .bool false, .slice none 0 0]) := Lib.hid (by
    have hn : some g ≠ some w.heap.size := fun e => by injection e with e; have := HG.out; omega
    have b4 := blk_other (blk_other (blk_other HR0.out HG2.out hn) HG3.out hn) HG4.out hn
    exact blk_other (Blk.below b4 ((Below.refl _ _).alloc (Nat.le_refl _) _) b4.lt) hg6 hn)
  have HB6 : Hid (Below w.heap.size w w6) := Lib.hid (by
    have hw : w.heap.size ≤ g := by have := HG.out; omega
    have k4 := below_by_new (below_by_new (below_by_new HBW.out HG2.out hw) HG3.out hw) HG4.out hw
    exact below_by_new (k4.alloc k4.size _) hg6 hw)
  have HW4 : Hid (w.heap.size < w4.heap.size) := Lib.hid (by
    have := HG.out
    have := HG4'.out
    omega)
  obtain ⟨h4, hh4⟩ : ∃ h4, h4 = w4.heap.size := ⟨_, rfl⟩
  rw [← hh4] at HH6 HW4 hgn
  have HGN := Lib.hid hgn
  rw [← hh4]
  clear hi5 hi6 hg6 HI1 HI2 HI3 HI4 HG2 HG3 HG4 HR0 HBW HB1 HB2 HB3 HB4 HG4' hh4 hgn
  go_wp2_with fail
  go_loopw [18] (fun i wr => ∃ (j : Nat) (v : Value), j ≤ n ∧ i = .int .i64 j ∧ InAt wr g ⟨bs (allBytes 2 (h.ts.drop j) ++ z), 0⟩ ∧ Blk wr h4 99 #[.int .i64 si, .bool fb, v] ∧ wr.ownsRow w.heap.size 3 1 v j ((h.ts.take j).map (Value.int .i64)) ∧ v.ownBlock ≠ some g ∧ v.ownBlock ≠ some h4 ∧ v.ownBlock ≠ some w.heap.size ∧ Blk wr w.heap.size 99 #[.int .i64 0, .bool false, .slice none 0 0] ∧ Below w.heap.size w wr) (fun i _ => n - (intOf i).toNat)
  case atStart => exact ⟨0, .slice none 0 0, Nat.zero_le _, rfl, HI6.out, HH6.out, World.ownsRow_nil _ _ _ _, by simp [Value.ownBlock], by simp [Value.ownBlock], by simp [Value.ownBlock], HR6.out, HB6.out⟩
  case round =>
    obtain ⟨j, v, hj, rfl, hi, hh, hrow, hvg, hvh, hvr, hr0, hb⟩ := hrel
    obtain ⟨pv, cv, rfl, -⟩ := row_slice' hrow
    have HI := Lib.hid hi
    have HH := Lib.hid hh
    have HRW := Lib.hid hrow
    have HVG := Lib.hid (And.intro hvg (And.intro hvh hvr))
    have HR0 := Lib.hid hr0
    have HB := Lib.hid hb
    clear hi hh hrow hvg hvh hvr hr0 hb HI6 HH6 HR6 HB6
    by_cases hlt : j < n
    · have hjl : j < h.ts.length := by rw [← HN.out]; exact hlt
      obtain ⟨x, hx⟩ : ∃ x, x = h.ts[j] := ⟨_, rfl⟩
      have hxr := HV.out.range x (by rw [hx]; exact List.getElem_mem hjl)
      have hdrop : h.ts.drop j = x :: h.ts.drop (j + 1) := by rw [List.drop_eq_getElem_cons hjl, hx]
      have HTK : Hid ((h.ts.take (j + 1)).map (Value.int .i64) = (h.ts.take j).map (Value.int .i64) ++ [.int .i64 x]) := Lib.hid (by rw [List.take_succ_eq_append_getElem hjl, List.map_append, hx]; rfl)
      obtain ⟨xn, hxn⟩ : ∃ xn : Nat, x = (xn : Int) := ⟨x.toNat, by omega⟩
      have hnum : (Rd.mk (bs (allBytes 2 (h.ts.drop j) ++ z)) 0).num 2 = (x, ⟨bs (allBytes 2 (h.ts.drop (j + 1)) ++ z), 0⟩) := by
        rw [hdrop, allBytes_cons, List.append_assoc, hxn, Int.toNat_natCast, num_bs 2 xn _ (by omega) (by omega)]
      have hsz : (bs (allBytes 2 (h.ts.drop j) ++ z)).size ≤ 252 := by
        rw [bs_size]
        have h1 := HZL.out
        rw [List.length_append, allBytes_length] at h1 ⊢
        rw [List.length_drop]
        have : (h.ts.length - j) * 2 ≤ h.ts.length * 2 := Nat.mul_le_mul_right _ (by omega)
        omega
      have HCL : Hid (∀ W, InAt W g ⟨bs (allBytes 2 (h.ts.drop j) ++ z), 0⟩ → Calls Tryz.prog 134 #[.pointer (some ⟨g, 0, none⟩)] W fun e w' => e = .returned (.int .i64 x) ∧ InAt w' g ⟨bs (allBytes 2 (h.ts.drop (j + 1)) ++ z), 0⟩ ∧ W.grownBy w' (some g)) := Lib.hid (fun W hi => by have := in_half g _ W hi (Nat.le_trans hsz (by omega)); rwa [hnum] at this)
      obtain ⟨s1, hs1⟩ : ∃ s : Rd, s = ⟨bs (allBytes 2 (h.ts.drop j) ++ z), 0⟩ := ⟨_, rfl⟩
      obtain ⟨s2, hs2⟩ : ∃ s : Rd, s = ⟨bs (allBytes 2 (h.ts.drop (j + 1)) ++ z), 0⟩ := ⟨_, rfl⟩
      rw [← hs1, ← hs2] at HCL
      rw [← hs1] at HI
      have HS2 := Lib.hid hs2
      have hjI : (j : Int) < (n : Int) := by omega
      have hj110 : j ≤ 110 := by omega
      clear hx hxr hdrop hxn hnum hsz hs1 hs2 hjl
      obtain ⟨old, hold⟩ : ∃ old, old = (h.ts.take j).map (Value.int .i64) := ⟨_, rfl⟩
      rw [← hold] at HRW HTK
      go_upto_region 6 with fail
      obtain ⟨i0, hi0, hz0, hz1, hz2⟩ := info_parts hints_info
      refine wp_region_phase 20 6 25 2 (PJ w g h4 si fb (.slice pv j cv) j old x s1 s2) (by kernel_rfl) (by kernel_rfl) rfl (by omega) (by kernel_rfl) rfl (by simp) ?h0 ?hops ?hrest
      case h0 => exact ⟨(fun h => by cases h), (fun h => by cases h), (fun h => by cases h), (fun h => by cases h), (fun h => by cases h), (fun h => by cases h), (fun h => by cases h), (fun h => by cases h), HI.out, HH.out, fun _ => row_kept' HRW.out (fun _ _ => rfl), HB.out.drew, HR0.out⟩
      case hops =>
        intro o ho L f y w' hF hLo hJ hw hy
        have HJ := Lib.hid hJ
        clear hJ
        rcases (show o = 0 ∨ o = 1 ∨ o = 2 ∨ o = 3 ∨ o = 4 ∨ o = 5 by omega) with rfl | rfl | rfl | rfl | rfl | rfl
        · have t0 : y.tmps[4]?.getD undef = .pointer (some ⟨h4, 0, none⟩) := by rw [hF.2.2 4 (by omega)]; rfl
          clear hw hy hF
          refine wpOp_value (v := .pointer (some ⟨h4, 2, none⟩)) (w' := w') rfl rfl ?_ ⟨_, rfl, ?_⟩
          · go_simp
          · have k := HJ.out
            exact ⟨fun _ => rfl, k.f1, k.f2, k.f3, k.f4, k.f5, k.c4, k.c5, k.rd, k.hd, k.row, k.below, k.r0⟩
        · have l0 : L 0 = true := hw 0 (of_decide_eq_true (by kernel_rfl))
          have t0 : y.tmps[20]?.getD undef = .pointer (some ⟨h4, 2, none⟩) := (hy 0 (by omega) l0).trans (HJ.out.f0 l0)
          have c2 := HJ.out.hd.cell 2
          simp at c2
          clear hw hy hF
          refine wpOp_value (v := .slice pv j cv) (w' := w') rfl rfl ?_ ⟨_, rfl, ?_⟩
          · go_simp
          · have k := HJ.out
            exact ⟨k.f0, fun _ => rfl, k.f2, k.f3, k.f4, k.f5, k.c4, k.c5, k.rd, k.hd, k.row, k.below, k.r0⟩
        · have t0 : y.tmps[3]?.getD undef = .pointer (some ⟨g, 0, none⟩) := by rw [hF.2.2 3 (by omega)]; rfl
          clear hw hy hF
          refine wpOp_value (v := .pointer (some ⟨g, 0, none⟩)) (w' := w') rfl rfl ?_ ⟨_, rfl, ?_⟩
          · go_simp
          · have k := HJ.out
            exact ⟨k.f0, k.f1, fun _ => rfl, k.f3, k.f4, k.f5, k.c4, k.c5, k.rd, k.hd, k.row, k.below, k.r0⟩
        · have l2 : L 2 = true := hw 2 (of_decide_eq_true (by kernel_rfl))
          have t0 : y.tmps[22]?.getD undef = .pointer (some ⟨g, 0, none⟩) := (hy 2 (by omega) l2).trans (HJ.out.f2 l2)
          have l4 : L 4 = false := by
            cases hl : L 4 with
            | false => rfl
            | true => rw [HJ.out.c4 hl] at hLo; cases hLo
          have l5 : L 5 = false := by
            cases hl : L 5 with
            | false => rfl
            | true => rw [HJ.out.c5 hl] at l4; cases l4
          have hrd := HJ.out.rd
          rw [hLo, if_neg (by decide)] at hrd
          clear hw hy hF
          refine wpOp_call (f := 134) (args := #[.pointer (some ⟨g, 0, none⟩)]) rfl rfl (by go_simp) ((HCL.out w' hrd).mono ?_)
          rintro e w'' ⟨rfl, hi2, hg2⟩
          have k := HJ.out
          refine ⟨_, rfl, _, rfl, ?_⟩
          have hgw : w.heap.size ≤ g := by have := HG.out; omega
          exact ⟨k.f0, k.f1, k.f2, fun _ => rfl, (fun h => by rw [show L 4 = true from h] at l4; cases l4), (fun h => by rw [show L 5 = true from h] at l5; cases l5), (fun h => by rw [show L 4 = true from h] at l4; cases l4), (fun h => by rw [show L 5 = true from h] at l5; cases l5), hi2, blk_other k.hd hg2 HGN.out, fun _ => row_other (k.row l5) hg2 (fun q e => by injection e with e; subst e; exact HVG.out.1), below_by_new k.below hg2 hgw, blk_other k.r0 hg2 (fun e => by injection e with e; have := HG.out; omega)⟩
        · have l3 : L 3 = true := hw 3 (of_decide_eq_true (by kernel_rfl))
          have t0 : y.tmps[23]?.getD undef = .int .i64 x := (hy 3 (by omega) l3).trans (HJ.out.f3 l3)
          have l5 : L 5 = false := by
            cases hl : L 5 with
            | false => rfl
            | true => rw [HJ.out.c5 hl] at hLo; cases hLo
          clear hw hy hF
          refine wpOp_value (v := .slice (some ⟨w'.heap.size, 0, none⟩) 1 1) (w' := w'.alloc (.cells #[.int .i64 x] 3)) rfl rfl ?_ ⟨_, rfl, ?_⟩
          · go_simp
          · have k := HJ.out
            have hg1 : w'.grownBy (w'.alloc (.cells #[.int .i64 x] 3)) none := by_alloc (by_refl _ _) _
            have e3 : (if (if 4 = 3 then true else L 3) = true then s2 else s1) = (if L 3 = true then s2 else s1) := rfl
            exact ⟨k.f0, k.f1, k.f2, k.f3, fun _ => ⟨_, rfl, Blk.new _ _ _, by have := k.rd.lt; omega, by have := k.hd.lt; omega, fun e => by have := ((k.row l5).lt _ e).2; omega⟩, (fun h => by rw [show L 5 = true from h] at l5; cases l5), fun _ => l3, (fun h => by rw [show L 5 = true from h] at l5; cases l5), blk_other k.rd hg1 (by simp), blk_other k.hd hg1 (by simp), fun _ => row_other (k.row l5) hg1 (fun q e => by cases e), k.below.alloc k.below.size _, blk_other k.r0 hg1 (by simp)⟩
        · have l4 : L 4 = true := hw 4 (of_decide_eq_true (by kernel_rfl))
          have l1 : L 1 = true := hw 1 (of_decide_eq_true (by kernel_rfl))
          have k := HJ.out
          have l3 := k.c4 l4
          obtain ⟨b, hb4, hbk, hbg, hbh, hbv⟩ := k.f4 l4
          have t1 : y.tmps[21]?.getD undef = .slice pv j cv := (hy 1 (by omega) l1).trans (k.f1 l1)
          have t2 : y.tmps[24]?.getD undef = .slice (some ⟨b, 0, none⟩) 1 1 := (hy 4 (by omega) l4).trans hb4
          obtain ⟨gd, cap, Wf, hrun, hown, hgrow, hor, hlt'⟩ := run_append_lies (P := Tryz.prog) w' 39 39 w.heap.size 3 i0 (.int .i64 0) 1 8 Tryz.underlying39 hi0 hz0 hz1 hz2 rfl (by omega)
            (.slice pv j cv) j old (k.row hLo) ⟨b, 0, none⟩ 1 1 [.int .i64 x] rfl (fun i u hu => by
              match i, hu with
              | 0, hu =>
                injection hu with hu
                subst hu
                rw [Go.WideShapes.add_plain]
                exact hbk.cell 0) (by intro u hu; have := List.mem_singleton.1 hu; subst this; rfl) (by omega) (by unfold maxLen; omega) (by omega) k.below.size _ rfl
          refine wpOp_value (v := .slice (some ⟨gd, 0, none⟩) (j + 1) cap) (w' := Wf) rfl rfl (exec_append rfl (by simpa [Act.eval] using t1) (by simpa [Act.eval] using t2) hrun) ⟨_, rfl, ?_⟩
          have hne : ∀ q, q < w'.heap.size → (Value.slice pv j cv).ownBlock ≠ some q → gd ≠ q := by
            intro q hq hvq e
            subst e
            rcases hor with h1 | h1
            · exact hvq h1
            · omega
          have n1 : gd ≠ g := hne g k.rd.lt HVG.out.1
          have n2 : gd ≠ h4 := hne h4 k.hd.lt HVG.out.2.1
          have n3 : gd ≠ w.heap.size := hne w.heap.size k.r0.lt HVG.out.2.2
          exact ⟨k.f0, k.f1, k.f2, k.f3, fun _ => ⟨b, hb4, blk_other hbk hgrow hbv, hbg, hbh, hbv⟩, fun _ => ⟨gd, cap, rfl, hown, n1, n2, n3⟩, fun _ => l3, fun _ => l4, blk_other k.rd hgrow HVG.out.1, blk_other k.hd hgrow HVG.out.2.1, (fun h => by cases h), k.below.grown hgrow k.below.size (fun q e => ((k.row hLo).lt q e).1), blk_other k.r0 hgrow HVG.out.2.2⟩
      case hrest =>
        intro L f w' hL hJ
        have k := hJ
        obtain ⟨gd, cap, hf5, hown, n1, n2, n3⟩ := k.f5 (hL 5 (by omega))
        have HLL := Lib.hid (hL 3 (by omega))
        have HK := Lib.hid hJ
        have HOWN := Lib.hid hown
        have c2 := k.hd.cell 2
        have f2 := k.hd.frozen 2
        simp at c2
        clear hL hJ k hown
        rw [show List.range' 6 2 = [6, 7] from rfl]
        simp only [putAll, List.range, List.range.loop, List.foldl, Nat.reduceAdd, List.setIfInBounds_toArray, List.set_cons_succ, List.set_cons_zero, hf5]
        clear hf5
        rw [wpOps_cons]
        refine wpOp_value (v := .pointer (some ⟨h4, 2, none⟩)) (w' := w') rfl rfl (by go_simp) ?_
        rw [wpOps_cons]
        refine wpOp_skip (w' := w'.setCell ⟨h4, 2, none⟩ (.slice (some ⟨gd, 0, none⟩) (j + 1) cap)) rfl rfl (by simp only [Act.put, List.setIfInBounds_toArray]; go_simp) ?_
        simp only [wpOps, Act.put, List.setIfInBounds_toArray]
        clear c2 f2
        have hlen : j + 1 ≤ n := hlt
        have hlen2 : (j : Int) + 1 ≤ (n : Int) := by omega
        have HREL : Hid (∃ (j' : Nat) (v : Value), j' ≤ n ∧ Value.int .i64 ((j : Int) + 1) = .int .i64 j' ∧ InAt (w'.setCell ⟨h4, 2, none⟩ (.slice (some ⟨gd, 0, none⟩) (j + 1) cap)) g ⟨bs (allBytes 2 (h.ts.drop j') ++ z), 0⟩ ∧ Blk (w'.setCell ⟨h4, 2, none⟩ (.slice (some ⟨gd, 0, none⟩) (j + 1) cap)) h4 99 #[.int .i64 si, .bool fb, v] ∧ (w'.setCell ⟨h4, 2, none⟩ (.slice (some ⟨gd, 0, none⟩) (j + 1) cap)).ownsRow w.heap.size 3 1 v j' ((h.ts.take j').map (Value.int .i64)) ∧ v.ownBlock ≠ some g ∧ v.ownBlock ≠ some h4 ∧ v.ownBlock ≠ some w.heap.size ∧ Blk (w'.setCell ⟨h4, 2, none⟩ (.slice (some ⟨gd, 0, none⟩) (j + 1) cap)) w.heap.size 99 #[.int .i64 0, .bool false, .slice none 0 0] ∧ Below w.heap.size w (w'.setCell ⟨h4, 2, none⟩ (.slice (some ⟨gd, 0, none⟩) (j + 1) cap))) := Lib.hid (by
          have k := HK.out
          have hgh : h4 ≠ g := fun e => HGN.out (by rw [e])
          have l3 : L 3 = true := HLL.out
          have hrd := k.rd
          rw [l3, if_pos rfl, HS2.out] at hrd
          have hd := k.hd.put 2 (.slice (some ⟨gd, 0, none⟩) (j + 1) cap)
          have hw4 := HW4.out
          refine ⟨j + 1, .slice (some ⟨gd, 0, none⟩) (j + 1) cap, hlen, by simp, Blk.far hrd (fun e => hgh e.symm) _, hd, ?_, by simpa [Value.ownBlock] using n1, by simpa [Value.ownBlock] using n2, ?_, ?_, k.below.setCell (by show w.heap.size ≤ h4; omega) _⟩
          · rw [HTK.out]
            exact row_kept' HOWN.out (fun q e => Below.heap_setCell _ _ _ _ (fun e2 => by cases e; exact n2 e2))
          · simpa [Value.ownBlock] using n3
          · exact Blk.far k.r0 (fun e => by have e : w.heap.size = h4 := e; omega) _)
        clear HK HOWN
        go_wp2_with fail
        go_roundw
        case rel => exact HREL.out
        case measure => simp [intOf]; omega
    · obtain rfl : j = n := by omega
      have c0 := HH.out.cell 0
      have c1 := HH.out.cell 1
      have c2 := HH.out.cell 2
      have r0 := HR0.out.cell 0
      have r1 := HR0.out.cell 1
      have r2 := HR0.out.cell 2
      have f0 := HR0.out.frozen 0
      have f1 := HR0.out.frozen 1
      have f2 := HR0.out.frozen 2
      simp at c0 c1 c2 r0 r1 r2
      go_wp2_with fail
      have b3 := ((HR0.out.put 0 (.int .i64 si)).put 1 (.bool fb)).put 2 (.slice pv j cv)
      refine ret_cell rfl rfl (head_var b3) rfl ?_
      refine ⟨pv, cv, ?_, ⟨?_, by rw [← HN.out]; omega⟩, fun b off e => ?_, ((HB.out.setCell (Nat.le_refl _) _).setCell (Nat.le_refl _) _).setCell (Nat.le_refl _) _⟩
      · unfold HD.val
        rw [HSI.out, ← HSQ.out, HFB.out, HN.out]
      · intro hp
        have hrow := HRW.out
        rw [List.take_of_length_le (by rw [HN.out]; exact Nat.le_refl _)] at hrow
        obtain ⟨gv, cap, e, _, hlt2⟩ := hrow.form (by rw [HN.out]; exact hp)
        injection e with e1 _ e3
        subst e1 e3
        refine ⟨gv, 0, rfl, by simpa [World.setCell] using hlt2, fun i x hx => ?_⟩
        have hc := hrow.cells (g := gv) rfl i (.int .i64 x) (by rw [List.getElem?_map, hx]; rfl)
        have hne : gv ≠ w.heap.size := fun e => HVG.out.2.2 (by rw [← e]; rfl)
        rw [add_off] at hc
        rw [World.cell?_of_block (w := wr) ((Below.heap_setCell _ _ _ _ (fun e => hne e)).trans ((Below.heap_setCell _ _ _ _ (fun e => hne e)).trans (Below.heap_setCell _ _ _ _ (fun e => hne e))))]
        exact hc
      · subst e
        rcases HRW.out.2 with ⟨e1, _⟩ | ⟨g', cap', cur, e1, hb1, _⟩
        · cases e1
        · injection e1 with e1 _ _
          injection e1 with e1
          injection e1 with e1 _ _
          subst e1
          exact hb1
end Go.Proofs.YtiagofgcinlnhaaGreatDoor
