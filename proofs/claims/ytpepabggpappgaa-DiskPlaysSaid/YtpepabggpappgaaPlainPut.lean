/-
  One sector written on the document's disk: what it leaves in memory. No statement is proved here.
-/
import Derived.Test.YtpepabggpappgaaPlainFlush
namespace Go.Proofs.Ytpepabggpappgaa
open Go.RowKit

theorem put_fails (S : DS) (i : Nat) (x : ByteArray) : (S.put i x).fails = S.fails := rfl
theorem put_failed_no {S : DS} (h : S.fails = false) (i : Nat) (x : ByteArray) : (S.put i x).failed = S.failed.put i x := by
  unfold DS.fails at h
  unfold DS.failed
  by_cases ha : S.armed = true
  · have h0 : 0 < S.left := by
      rw [ha] at h
      simp at h
      omega
    rw [if_pos (show (S.put i x).armed = true from ha), if_pos (show 0 < (S.put i x).left from h0), if_pos ha, if_pos h0]
    rfl
  · rw [if_neg (show ¬ (S.put i x).armed = true from ha), if_neg ha]
theorem put_failed_yes {S : DS} (h : S.fails = true) (i : Nat) (x : ByteArray) : (S.put i x).failed = (S.put i x).crash S.keep := (failed_crash (S := S.put i x) h).1

/-- A sector of it written. -/
theorem PlainIs.sector {w : World} {B g gn cn : Nat} {vs vw : Value} {nv : Int} {ka : Option Addr} {km kc : Nat} {S : DS} (h : PlainIs w B g (.slice (some ⟨gn, 0, none⟩) S.now.length cn) vs vw nv ka km kc S) (i : Nat) (data : ByteArray) :
    PlainIs (w.setCell ⟨gn, i, none⟩ (.string data)) B g (.slice (some ⟨gn, 0, none⟩) S.now.length cn) vs vw nv ka km kc { S with now := S.now.set i data } := by
  have ha : (g :: (gn :: (vs.ownBlock.toList ++ vw.ownBlock.toList))).Nodup := h.apart
  simp only [List.nodup_cons, List.mem_cons, List.mem_append, not_or] at ha
  have e : (S.now.set i data).length = S.now.length := by simp
  have hk : Keep [gn] w (w.setCell ⟨gn, i, none⟩ (.string data)) := (Keep.refl _ _).put (.inl (by simp)) _ _
  have hB : B ≤ gn := (h.now.lt gn rfl).1
  refine ⟨h.blk.far ha.1.1 _, ?_, row_far h.safe ?_ _, row_far h.dirty ?_ _, fun hA => ⟨(h.arm hA).1, (h.arm hA).2.1, (h.arm hA).2.2.keep hk (by intro b hb; rw [List.mem_singleton.1 hb]; exact hB)⟩, h.apart, h.low⟩
  · show World.ownsRow _ B _ 1 (.slice (some ⟨gn, 0, none⟩) S.now.length cn) (S.now.set i data).length ((S.now.set i data).map Value.string)
    rw [e, List.map_set]
    exact row_put h.now _
  · intro e; exact ha.2.1.1 (by simp [e])
  · intro e; exact ha.2.1.2 (by simp [e])
/-- A write that is not safe yet. -/
theorem PlainIs.added {w wf : World} {B g gd cap : Nat} {vn vs vw : Value} {nv : Int} {ka : Option Addr} {km kc : Nat} {S : DS} (h : PlainIs w B g vn vs vw nv ka km kc S) (x : Nat × ByteArray) (hk : Keep vw.ownBlock.toList w wf)
    (hown : wf.ownsRow B 84 2 (.slice (some ⟨gd, 0, none⟩) (S.dirty.length + 1) cap) (S.dirty.length + 1) (flatW S.dirty ++ [.int .i64 ((x.1 : Nat) : Int), .string x.2])) (hor : vw.ownBlock = some gd ∨ w.heap.size ≤ gd) :
    PlainIs ((wf.setCell ⟨g, 2, none⟩ (.slice (some ⟨gd, 0, none⟩) (S.dirty.length + 1) cap)).setCell ⟨g, 7, none⟩ (.int .i64 ((S.writes : Int) + 1))) B g vn vs (.slice (some ⟨gd, 0, none⟩) (S.dirty.length + 1) cap) nv ka km kc { S with dirty := S.dirty ++ [x], writes := S.writes + 1 } := by
  have ha := h.apart
  simp only [List.nodup_cons, List.mem_append, not_or] at ha
  obtain ⟨⟨a1, a2, a3⟩, hnd⟩ := ha
  have hnd1 := List.nodup_append.1 hnd
  have hnd2 := List.nodup_append.1 hnd1.2.1
  have hgd : ∀ b, b < w.heap.size → b ∉ vw.ownBlock.toList → b ≠ gd := by
    intro b hb hn e
    subst e
    rcases hor with hor | hor
    · exact hn (by simp [hor])
    · omega
  have hgg : g ≠ gd := hgd g h.blk.lt a3
  have hb := (show Blk wf g 58 _ from (hk.block g h.blk.lt a3).trans h.blk)
  have far : ∀ {v : Value} {e : TypeId} {size n : Nat} {xs : List Value} (u1 u2 : Value), wf.ownsRow B e size v n xs → v.ownBlock ≠ some g → ((wf.setCell ⟨g, 2, none⟩ u1).setCell ⟨g, 7, none⟩ u2).ownsRow B e size v n xs :=
    fun u1 u2 hr hn => row_far (row_far hr hn _) hn _
  have hkk : Keep (g :: vw.ownBlock.toList) w ((wf.setCell ⟨g, 2, none⟩ (.slice (some ⟨gd, 0, none⟩) (S.dirty.length + 1) cap)).setCell ⟨g, 7, none⟩ (.int .i64 ((S.writes : Int) + 1))) :=
    ((hk.mono (by intro b hb; exact .inl (by simp [hb]))).put (.inl (by simp)) _ _).put (.inl (by simp)) _ _
  have hlow : ∀ b ∈ g :: vw.ownBlock.toList, B ≤ b := by
    intro b hb
    rcases List.mem_cons.1 hb with rfl | hb
    · exact h.low
    · exact (h.dirty.lt b (by simpa using hb)).1
  refine ⟨?_, far _ _ (row_keep h.now hk ?_) ?_, far _ _ (row_keep h.safe hk ?_) ?_, ?_, fun hA => ⟨(h.arm hA).1, (h.arm hA).2.1, (h.arm hA).2.2.keep hkk hlow⟩, ?_, h.low⟩
  · have := (hb.put 2 (.slice (some ⟨gd, 0, none⟩) (S.dirty.length + 1) cap)).put 7 (.int .i64 ((S.writes : Int) + 1))
    show Blk _ g _ #[_, _, _, _, _, _, _, .int .i64 ((S.writes + 1 : Nat) : Int)]
    rw [show ((S.writes + 1 : Nat) : Int) = (S.writes : Int) + 1 by omega]
    exact this
  · intro k e hm; exact hnd1.2.2 k (by simp [e]) k (by simp [hm]) rfl
  · intro e; exact a1 (by simp [e])
  · intro k e hm; exact hnd2.2.2 k (by simp [e]) k hm rfl
  · intro e; exact a2 (by simp [e])
  · show World.ownsRow _ B _ 2 _ (S.dirty ++ [x]).length (flatW (S.dirty ++ [x]))
    rw [List.length_append, List.length_singleton, flatW_snoc]
    exact far _ _ hown (by intro e; cases e; exact hgg rfl)
  · have n1 : gd ∉ vn.ownBlock.toList := fun hm => hgd gd (h.now.lt gd (by simpa using hm)).2 (fun hw => hnd1.2.2 gd hm gd (by simp [hw]) rfl) rfl
    have n2 : gd ∉ vs.ownBlock.toList := fun hm => hgd gd (h.safe.lt gd (by simpa using hm)).2 (fun hw => hnd2.2.2 gd hm gd hw rfl) rfl
    show (g :: (vn.ownBlock.toList ++ (vs.ownBlock.toList ++ [gd]))).Nodup
    simp only [List.nodup_cons, List.mem_append, List.mem_singleton, not_or]
    refine ⟨⟨a1, a2, hgg⟩, List.nodup_append.2 ⟨hnd1.1, List.nodup_append.2 ⟨hnd2.1, by simp, fun b hb b' hb' e => ?_⟩, fun b hb b' hb' e => ?_⟩⟩
    · subst e; rw [List.mem_singleton.1 hb'] at hb; exact n2 hb
    · subst e
      rcases List.mem_append.1 hb' with h1 | h1
      · exact hnd1.2.2 b hb b (by simp [h1]) rfl
      · rw [List.mem_singleton.1 h1] at hb; exact n1 hb
end Go.Proofs.Ytpepabggpappgaa
