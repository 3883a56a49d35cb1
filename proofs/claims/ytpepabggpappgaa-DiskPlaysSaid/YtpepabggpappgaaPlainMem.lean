/-
  The document's disk in memory: its own block and the rows that it alone holds, beside a list of numbers that came in. No statement is proved here.
-/
import Derived.Test.YtpepabggpappgaaDiskFlush
import Derived.Test.YtpepabggpappgaaDiskViews
namespace Go.Proofs.Ytpepabggpappgaa
open Go.RowKit

/-- A list of numbers below block B. -/
def Low (w : World) (B : Nat) (A : Option Addr) (l : List Int) : Prop :=
  0 < l.length → ∃ b off, A = some ⟨b, off, none⟩ ∧ b < B ∧ b < w.heap.size ∧ ∀ (j : Nat) (x : Int), l[j]? = some x → w.cell? ⟨b, off + j, none⟩ = some (.int .i64 x)
theorem Low.keep {w w' : World} {B : Nat} {A : Option Addr} {l : List Int} {O : List Nat} (h : Low w B A l) (hk : Keep O w w') (hO : ∀ b ∈ O, B ≤ b) : Low w' B A l := by
  intro hp
  obtain ⟨b, off, e, h1, h2, h3⟩ := h hp
  exact ⟨b, off, e, h1, Nat.lt_of_lt_of_le h2 hk.size, fun j x hx => (World.cell?_of_block (a := ⟨b, off + j, none⟩) (hk.block b h2 (fun hm => by have := hO b hm; omega))).trans (h3 j x hx)⟩

/-- The document's disk in block g. -/
structure PlainIs (w : World) (B g : Nat) (vn vs vw : Value) (nv : Int) (ka : Option Addr) (km kc : Nat) (S : DS) : Prop where
  blk : Blk w g 58 #[vn, vs, vw, .bool (!S.on), .bool S.armed, .int .i64 nv, .slice ka km kc, .int .i64 (S.writes : Int)]
  now : w.ownsRow B 9 1 vn S.now.length (S.now.map Value.string)
  safe : w.ownsRow B 9 1 vs S.safe.length (S.safe.map Value.string)
  dirty : w.ownsRow B 84 2 vw S.dirty.length (flatW S.dirty)
  arm : S.armed = true → nv = (S.left : Int) ∧ S.keep.length = km ∧ Low w B ka S.keep
  apart : (g :: (vn.ownBlock.toList ++ (vs.ownBlock.toList ++ vw.ownBlock.toList))).Nodup
  low : B ≤ g
def PlainAt (w : World) (B : Nat) (O : List Nat) (g : Nat) (S : DS) : Prop :=
  ∃ vn vs vw nv ka km kc, O = g :: (vn.ownBlock.toList ++ (vs.ownBlock.toList ++ vw.ownBlock.toList)) ∧ PlainIs w B g vn vs vw nv ka km kc S
def TurnsP (B : Nat) (O : List Nat) (g : Nat) (S : DS) (w w' : World) : Prop := ∃ O', PlainAt w' B O' g S ∧ (∀ b ∈ O', b ∈ O ∨ w.heap.size ≤ b) ∧ Keep O w w'

section
variable {w w' : World} {B g : Nat} {vn vs vw : Value} {nv : Int} {ka : Option Addr} {km kc : Nat} {S : DS} {O O2 : List Nat}
theorem PlainIs.mem (h : PlainIs w B g vn vs vw nv ka km kc S) {b : Nat} (hb : b ∈ g :: (vn.ownBlock.toList ++ (vs.ownBlock.toList ++ vw.ownBlock.toList))) : B ≤ b ∧ b < w.heap.size := by
  simp only [List.mem_cons, List.mem_append] at hb
  rcases hb with rfl | hb | hb | hb
  · exact ⟨h.low, h.blk.lt⟩
  · exact h.now.lt b (by simpa using hb)
  · exact h.safe.lt b (by simpa using hb)
  · exact h.dirty.lt b (by simpa using hb)
theorem PlainAt.mem (h : PlainAt w B O g S) {b : Nat} (hb : b ∈ O) : B ≤ b ∧ b < w.heap.size := by
  obtain ⟨vn, vs, vw, nv, ka, km, kc, rfl, h⟩ := h
  exact h.mem hb
theorem PlainIs.far (h : PlainIs w B g vn vs vw nv ka km kc S) (hk : Keep O2 w w') (ha : ∀ b ∈ g :: (vn.ownBlock.toList ++ (vs.ownBlock.toList ++ vw.ownBlock.toList)), b ∉ O2) (hO : ∀ b ∈ O2, B ≤ b) : PlainIs w' B g vn vs vw nv ka km kc S where
  blk := (hk.block g h.blk.lt (ha g (by simp))).trans h.blk
  now := row_keep h.now hk fun k e => ha k (by simp [e])
  safe := row_keep h.safe hk fun k e => ha k (by simp [e])
  dirty := row_keep h.dirty hk fun k e => ha k (by simp [e])
  arm := fun h1 => ⟨(h.arm h1).1, (h.arm h1).2.1, (h.arm h1).2.2.keep hk hO⟩
  apart := h.apart
  low := h.low
/-- The document's disk stays while another one is at work. -/
theorem PlainAt.far (h : PlainAt w B O g S) (hk : Keep O2 w w') (ha : ∀ b ∈ O, b ∉ O2) (hO : ∀ b ∈ O2, B ≤ b) : PlainAt w' B O g S := by
  obtain ⟨vn, vs, vw, nv, ka, km, kc, rfl, h⟩ := h
  exact ⟨vn, vs, vw, nv, ka, km, kc, rfl, h.far hk ha hO⟩
theorem PlainAt.below (h : PlainAt w B O g S) (hb : Below w.heap.size w w') : PlainAt w' B O g S := h.far (Keep.of_below (O := []) hb) (by simp) (by simp)
theorem TurnsP.refl (h : PlainAt w B O g S) : TurnsP B O g S w w := ⟨O, h, fun _ hb => .inl hb, Keep.refl _ _⟩
end

set_option maxRecDepth 100000 in
set_option maxHeartbeats 1000000 in
/-- Does the power go at this call? -/
theorem pfalls_any {w : World} {B : Nat} {O : List Nat} {g : Nat} {S : DS} (h : PlainAt w B O g S) (hlb : S.left ≤ 9223372036854775807) :
    Calls Try.prog 48 #[.pointer (some ⟨g, 0, none⟩)] w fun e w' => e = .returned (.bool S.fails) ∧ TurnsP B O g (if S.fails = true then S else S.failed) w w' := by
  obtain ⟨vn, vs, vw, nv, ka, km, kc, rfl, h⟩ := h
  have H := Lib.hid h
  have c4 := h.blk.cell 4
  have c5 := h.blk.cell 5
  have f5 := h.blk.frozen 5
  have hl := h.blk.lt
  simp at c4 c5
  by_cases ha : S.armed = true
  · rw [ha] at c4
    have hnv := (h.arm ha).1
    by_cases h0 : S.left = 0
    · have R1 : S.fails = true := by unfold DS.fails; simp [ha, h0]
      rw [R1, if_pos rfl]
      rw [hnv, h0] at c5
      clear R1 h h0 hnv ha hlb
      go_enter Try.func48, Try.ntmps48
      go_wp2
      go_ret
      exact ⟨rfl, TurnsP.refl ⟨vn, vs, vw, nv, ka, km, kc, rfl, H.out⟩⟩
    · have R1 : S.fails = false := by unfold DS.fails; simp [h0]
      have R2 : S.failed = { S with left := S.left - 1 } := by unfold DS.failed; rw [if_pos ha, if_pos (by omega)]
      rw [R1, R2, if_neg (by decide)]
      have HNV := Lib.hid hnv
      have q0 : 0 < nv := by omega
      have q1 : nv ≤ 9223372036854775807 := by omega
      have HL : Hid (0 < S.left) := Lib.hid (by omega)
      clear R1 R2 h h0 hnv ha hlb
      go_enter Try.func48, Try.ntmps48
      go_wp2
      go_ret
      have hk : Keep [g] w (w.setCell ⟨g, 5, none⟩ (.int .i64 (nv - 1))) := (Keep.refl _ _).put (.inl (by simp)) _ _
      have h := H.out
      have hap := h.apart
      simp only [List.nodup_cons, List.mem_append, not_or] at hap
      refine ⟨rfl, _, ⟨vn, vs, vw, nv - 1, ka, km, kc, rfl, h.blk.put 5 _, row_keep h.now hk ?_, row_keep h.safe hk ?_, row_keep h.dirty hk ?_, fun hA => ?_, h.apart, h.low⟩, fun b hb => .inl hb, (Keep.refl _ _).put (.inl (by simp)) _ _⟩
      · intro k e hm; exact hap.1.1 (by rw [e, ← List.mem_singleton.1 hm]; simp)
      · intro k e hm; exact hap.1.2.1 (by rw [e, ← List.mem_singleton.1 hm]; simp)
      · intro k e hm; exact hap.1.2.2 (by rw [e, ← List.mem_singleton.1 hm]; simp)
      · obtain ⟨e1, e2, e3⟩ := h.arm hA
        refine ⟨?_, e2, e3.keep hk (by intro b hb; rw [List.mem_singleton.1 hb]; exact h.low)⟩
        show nv - 1 = ((S.left - 1 : Nat) : Int)
        have := HL.out
        omega
  · have R1 : S.fails = false := by unfold DS.fails; simp [ha]
    have R2 : S.failed = S := by unfold DS.failed; rw [if_neg ha]
    rw [R1, R2, if_neg (by decide)]
    have hf : S.armed = false := by simpa using ha
    rw [hf] at c4
    clear R1 R2 h ha hf hlb
    go_enter Try.func48, Try.ntmps48
    go_wp2
    go_ret
    exact ⟨rfl, TurnsP.refl ⟨vn, vs, vw, nv, ka, km, kc, rfl, H.out⟩⟩
end Go.Proofs.Ytpepabggpappgaa
