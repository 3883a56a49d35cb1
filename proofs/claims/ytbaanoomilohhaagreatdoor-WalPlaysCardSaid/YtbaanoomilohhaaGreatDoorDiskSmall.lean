/-
  A disk's small calls: what each tells, and what it leaves. No statement is proved here.
-/
import Derived.Test.YtbaanoomilohhaaGreatDoorDiskMem
import Derived.Test.YtbaanoomilohhaaGreatDoorTxts
import Derived.Test.YtbaanoomilohhaaGreatDoorIn
import Derived.BigQuiet
import Derived.Deep.QuietTactic
import Derived.Outline
namespace Go.Proofs.YtbaanoomilohhaaGreatDoor
open Go.RowKit

set_option maxHeartbeats 400000 in
theorem don_any {O : List Nat} {g : Nat} {S : DS} {w : World} (h : DiskAt w O g S) :
    Calls Tryz.prog 16 #[.pointer (some ⟨g, 0, none⟩)] w fun e w' => e = .returned (.bool S.on) ∧ w = w' := by
  obtain ⟨gn, gs, cn, cs, vd, vk, _, h⟩ := h
  have c3 := h.blk.cell 3
  simp at c3
  clear h
  go_enter Tryz.func16, Tryz.ntmps16
  go_wp2_with fail
  go_ret
  exact ⟨rfl, rfl⟩
set_option maxHeartbeats 400000 in
theorem don_nil (w : World) : Calls Tryz.prog 16 #[.pointer none] w fun e w' => e = .returned (.bool false) ∧ w = w' := by
  go_enter Tryz.func16, Tryz.ntmps16
  go_wp2_with fail
  go_ret
  exact ⟨rfl, rfl⟩
set_option maxHeartbeats 400000 in
theorem dsize_any {O : List Nat} {g : Nat} {S : DS} {w : World} (h : DiskAt w O g S) :
    Calls Tryz.prog 43 #[.pointer (some ⟨g, 0, none⟩)] w fun e w' => e = .returned (.int .i64 (S.now.length : Int)) ∧ w = w' := by
  obtain ⟨gn, gs, cn, cs, vd, vk, _, h⟩ := h
  have c0 := h.blk.cell 0
  simp at c0
  clear h
  go_enter Tryz.func43, Tryz.ntmps43
  go_wp2_with fail
  go_ret
  exact ⟨rfl, rfl⟩
set_option maxHeartbeats 400000 in
theorem dsize_nil (w : World) : Calls Tryz.prog 43 #[.pointer none] w fun e w' => e = .returned (.int .i64 0) ∧ w = w' := by
  go_enter Tryz.func43, Tryz.ntmps43
  go_wp2_with fail
  go_ret
  exact ⟨rfl, rfl⟩
set_option maxHeartbeats 400000 in
theorem dhas_any {O : List Nat} {g : Nat} {S : DS} {w : World} (at_ : Int) (h : DiskAt w O g S) :
    Calls Tryz.prog 50 #[.pointer (some ⟨g, 0, none⟩), .int .i64 at_] w fun e w' => e = .returned (.bool (decide (0 ≤ at_ ∧ at_ < (S.now.length : Int)))) ∧ w = w' := by
  obtain ⟨gn, gs, cn, cs, vd, vk, _, h⟩ := h
  have c0 := h.blk.cell 0
  simp at c0
  clear h
  obtain ⟨n, hn⟩ : ∃ n, n = S.now.length := ⟨_, rfl⟩
  rw [← hn] at c0 ⊢
  clear hn
  by_cases h0 : 0 ≤ at_
  · have e : decide (0 ≤ at_ ∧ at_ < (n : Int)) = decide (at_ < (n : Int)) := by simp [h0]
    rw [e]
    clear e
    go_enter Tryz.func50, Tryz.ntmps50
    go_wp2_with fail
    go_ret
    exact ⟨rfl, rfl⟩
  · have e : decide (0 ≤ at_ ∧ at_ < (n : Int)) = false := by simp; omega
    rw [e]
    clear e
    go_enter Tryz.func50, Tryz.ntmps50
    go_wp2_with fail
    go_ret
    exact ⟨rfl, rfl⟩

set_option maxHeartbeats 1000000 in
theorem ddisarm_any {O : List Nat} {g : Nat} {S : DS} {w : World} (h : DiskAt w O g S) :
    Calls Tryz.prog 40 #[.pointer (some ⟨g, 0, none⟩)] w fun e w' => e = .returned (.tuple #[]) ∧ Turns O g { S with armed := false, left := 0, keep := [] } w w' := by
  obtain ⟨gn, gs, cn, cs, vd, vk, rfl, h⟩ := h
  have H := Lib.hid h
  have c5 := h.blk.cell 5
  have c6 := h.blk.cell 6
  have c7 := h.blk.cell 7
  have f5 := h.blk.frozen 5
  have f6 := h.blk.frozen 6
  have f7 := h.blk.frozen 7
  have hl := h.blk.lt
  simp at c5 c6 c7
  clear h
  go_enter Tryz.func40, Tryz.ntmps40
  go_wp2
  go_end0
  refine ⟨rfl, g :: gn :: gs :: (vd.ownBlock.toList ++ []), ⟨gn, gs, cn, cs, vd, .slice none 0 0, rfl, ?_⟩, ?_, ?_⟩
  · have h := H.out
    have ha := h.apart
    simp only [List.nodup_cons, List.mem_cons, List.mem_append, not_or] at ha
    have far : ∀ {v : Value} {e : TypeId} {size n : Nat} {xs : List Value}, w.ownsRow 0 e size v n xs → v.ownBlock ≠ some g → (((w.setCell ⟨g, 5, none⟩ (.bool false)).setCell ⟨g, 6, none⟩ (.int .i64 0)).setCell ⟨g, 7, none⟩ (.slice none 0 0)).ownsRow 0 e size v n xs :=
      fun hr hn => row_far (row_far (row_far hr hn _) hn _) hn _
    refine ⟨((h.blk.put 5 _).put 6 _).put 7 _, far h.now ?_, far h.safe ?_, far h.dirty ?_, World.ownsRow_nil _ _ _ _, ?_⟩
    · intro e; cases e; exact ha.1.1 rfl
    · intro e; cases e; exact ha.1.2.1 rfl
    · intro e; exact ha.1.2.2.1 (by simp [e])
    · have := h.apart
      refine List.Nodup.sublist ?_ this
      refine List.Sublist.cons_cons _ (List.Sublist.cons_cons _ (List.Sublist.cons_cons _ ?_))
      simp [Value.ownBlock]
  · intro b hb
    left
    simp only [List.append_nil, List.mem_cons, List.mem_append] at hb ⊢
    rcases hb with hb | hb | hb | hb
    · exact .inl hb
    · exact .inr (.inl hb)
    · exact .inr (.inr (.inl hb))
    · exact .inr (.inr (.inr (.inl hb)))
  · exact (((Keep.refl _ _).put (.inl (by simp)) _ _).put (.inl (by simp)) _ _).put (.inl (by simp)) _ _

/-- A field of a plain value written. -/
theorem DiskIs.put_plain {w : World} {g gn gs cn cs : Nat} {vd vk : Value} {S : DS} (h : DiskIs w g gn gs cn cs vd vk S) (on armed : Bool) (writes left : Nat) (w' : World)
    (hb : Blk w' g 59 #[.slice (some ⟨gn, 0, none⟩) S.now.length cn, .slice (some ⟨gs, 0, none⟩) S.safe.length cs, vd, .bool on, .int .i64 (writes : Int), .bool armed, .int .i64 (left : Int), vk])
    (hk : Keep [g] w w') : DiskIs w' g gn gs cn cs vd vk { S with on := on, writes := writes, armed := armed, left := left } := by
  have ha := h.apart
  simp only [List.nodup_cons, List.mem_cons, List.mem_append, not_or] at ha
  refine ⟨hb, row_keep h.now hk ?_, row_keep h.safe hk ?_, row_keep h.dirty hk ?_, row_keep h.keep hk ?_, h.apart⟩
  · intro k e hm; cases e; exact ha.1.1 (List.mem_singleton.1 hm).symm
  · intro k e hm; cases e; exact ha.1.2.1 (List.mem_singleton.1 hm).symm
  · intro k e hm; exact ha.1.2.2.1 (by rw [e, ← List.mem_singleton.1 hm]; simp)
  · intro k e hm; exact ha.1.2.2.2 (by rw [e, ← List.mem_singleton.1 hm]; simp)

set_option maxHeartbeats 400000 in
theorem drestore_any {O : List Nat} {g : Nat} {S : DS} {w : World} (h : DiskAt w O g S) :
    Calls Tryz.prog 39 #[.pointer (some ⟨g, 0, none⟩)] w fun e w' => e = .returned (.tuple #[]) ∧ Turns O g S.restore w w' := by
  obtain ⟨gn, gs, cn, cs, vd, vk, rfl, h⟩ := h
  have H := Lib.hid h
  have c3 := h.blk.cell 3
  have f3 := h.blk.frozen 3
  have hl := h.blk.lt
  simp at c3
  clear h
  go_enter Tryz.func39, Tryz.ntmps39
  go_wp2
  go_end0
  refine ⟨rfl, _, ⟨gn, gs, cn, cs, vd, vk, rfl, H.out.put_plain true _ _ _ _ (H.out.blk.put 3 _) ((Keep.refl _ _).put (.inl (by simp)) _ _)⟩, fun b hb => .inl hb, (Keep.refl _ _).put (.inl (by simp)) _ _⟩
set_option maxHeartbeats 400000 in
theorem drestore_nil (w : World) : Calls Tryz.prog 39 #[.pointer none] w fun e w' => e = .returned (.tuple #[]) ∧ w = w' := by
  go_enter Tryz.func39, Tryz.ntmps39
  go_wp2
  go_end0
  exact ⟨rfl, rfl⟩

set_option maxHeartbeats 1000000 in
theorem dread_any {O : List Nat} {g : Nat} {S : DS} {w : World} (at_ : Int) (h : DiskAt w O g S) (hz : ∀ x ∈ S.now, x.size ≤ 100000) :
    Calls Tryz.prog 29 #[.pointer (some ⟨g, 0, none⟩), .int .i64 at_] w fun e w' => e = .returned (.tuple #[.string (S.read at_), .int .i64 (S.errR at_)]) ∧ Below w.heap.size w w' := by
  have HD := Lib.hid h
  by_cases ho : S.on = true
  · by_cases hr : 0 ≤ at_ ∧ at_ < (S.now.length : Int)
    · obtain ⟨i, rfl⟩ : ∃ i : Nat, at_ = (i : Int) := ⟨at_.toNat, by omega⟩
      have hi : i < S.now.length := by omega
      obtain ⟨x, hx⟩ : ∃ x, x = S.now[i] := ⟨_, rfl⟩
      have hxi : S.now[i]? = some x := by rw [hx]; exact List.getElem?_eq_getElem hi
      have HX : Hid (x.size ≤ 100000) := Lib.hid (hz x (by rw [hx]; exact List.getElem_mem hi))
      have R1 : S.read i = x := by unfold DS.read; rw [if_pos ⟨ho, hr⟩, Int.toNat_natCast, List.getD_eq_getElem?_getD, hxi]; rfl
      have R2 : S.errR i = 0 := by unfold DS.errR; rw [if_pos ho, if_pos hr]
      rw [R1, R2]
      obtain ⟨gn, gs, cn, cs, vd, vk, _, h⟩ := h
      have c0 := h.blk.cell 0
      simp at c0
      have cx := row_cell h.now (i := i) (u := .string x) (by rw [List.getElem?_map, hxi]; rfl)
      have HO := Lib.hid (fun w' (e : w = w') => e ▸ don_any (w := w) HD.out)
      have HH := Lib.hid (dhas_any (w := w) (i : Int) HD.out)
      rw [ho] at HO
      rw [show decide (0 ≤ (i : Int) ∧ (i : Int) < (S.now.length : Int)) = true by simpa using hi] at HH
      obtain ⟨n, hn⟩ : ∃ n, n = S.now.length := ⟨_, rfl⟩
      rw [← hn] at c0 hi
      clear R1 R2 hr h hxi hx hz hn ho HD
      go_enter Tryz.func29, Tryz.ntmps29
      go_wp2_with (first
        | (go_at_call 16; refine (HO.out _ rfl).mono ?_; rintro e w1 ⟨rfl, rfl⟩)
        | (go_at_call 50; refine HH.out.mono ?_; rintro e w1 ⟨rfl, rfl⟩)
        | (go_at_call 51; refine (clone_any x _ (by have := HX.out; omega)).mono ?_; rintro e w1 ⟨rfl, hb1⟩))
      go_ret2
      exact ⟨rfl, hb1⟩
    · have R1 : S.read at_ = .empty := by unfold DS.read; rw [if_neg (fun h => hr h.2)]
      have R2 : S.errR at_ = 15 := by unfold DS.errR; rw [if_pos ho, if_neg hr]
      rw [R1, R2]
      have HO := Lib.hid (don_any (w := w) HD.out)
      have HH := Lib.hid (dhas_any (w := w) at_ HD.out)
      rw [ho] at HO
      rw [show decide (0 ≤ at_ ∧ at_ < (S.now.length : Int)) = false by simpa using hr] at HH
      clear R1 R2 hr h hz ho HD
      go_enter Tryz.func29, Tryz.ntmps29
      go_wp2_with (first
        | (go_at_call 16; refine HO.out.mono ?_; rintro e w1 ⟨rfl, rfl⟩)
        | (go_at_call 50; refine HH.out.mono ?_; rintro e w1 ⟨rfl, rfl⟩))
      go_ret2
      exact ⟨rfl, Below.refl _ _⟩
  · have R1 : S.read at_ = .empty := by unfold DS.read; rw [if_neg (fun h => ho h.1)]
    have R2 : S.errR at_ = 14 := by unfold DS.errR; rw [if_neg ho]
    rw [R1, R2]
    have HO := Lib.hid (don_any (w := w) HD.out)
    rw [show S.on = false by simpa using ho] at HO
    clear R1 R2 h hz ho HD
    go_enter Tryz.func29, Tryz.ntmps29
    go_wp2_with (go_at_call 16; refine HO.out.mono ?_; rintro e w1 ⟨rfl, rfl⟩)
    go_ret2
    exact ⟨rfl, Below.refl _ _⟩
set_option maxHeartbeats 400000 in
theorem dread_nil (at_ : Int) (w : World) : Calls Tryz.prog 29 #[.pointer none, .int .i64 at_] w fun e w' => e = .returned (.tuple #[.string .empty, .int .i64 14]) ∧ w = w' := by
  go_enter Tryz.func29, Tryz.ntmps29
  go_wp2_with (go_at_call 16; refine (don_nil _).mono ?_; rintro e w1 ⟨rfl, rfl⟩)
  go_ret2
  exact ⟨rfl, rfl⟩
end Go.Proofs.YtbaanoomilohhaaGreatDoor
