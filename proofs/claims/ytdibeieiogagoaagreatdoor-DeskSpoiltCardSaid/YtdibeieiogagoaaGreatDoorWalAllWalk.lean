/-
  WalAll: the law's walk. No statement is proved here.
-/
import Derived.Test.YtdibeieiogagoaaGreatDoorRegionStore
import Derived.StillTailTactics
import Derived.Deep.AppendLies
namespace Go.Proofs.YtdibeieiogagoaaGreatDoor
open Go.RowKit
variable {w : World} {gw gd : Nat} {O : List Nat} {S : DS} {seq k : Int} {n : Nat}

theorem on_read (h : S.on = true) {x : ByteArray} {i : Nat} (hx : S.now[i]? = some x) : S.read (i : Int) = x ∧ S.errR (i : Int) = 0 := by
  have hi : i < S.now.length := by
    rcases Nat.lt_or_ge i S.now.length with h' | h'
    · exact h'
    · rw [List.getElem?_eq_none h'] at hx; cases hx
  constructor
  · unfold DS.read
    rw [if_pos ⟨h, by omega, by omega⟩, Int.toNat_natCast, List.getD_eq_getElem?_getD, hx]
    rfl
  · unfold DS.errR
    rw [if_pos h, if_pos ⟨by omega, by omega⟩]

def IsHome (Z h : List ByteArray) : Prop := ∀ t : Nat, t < h.length → Z[111 + t]? = h[t]?

end Go.Proofs.YtdibeieiogagoaaGreatDoor

namespace Go.Proofs.YtdibeieiogagoaaGreatDoor
open Go.RowKit

theorem setI_snoc (h : List ByteArray) {l : List Wr1} {j : Nat} {x : Wr1} (hx : l[j]? = some x) : setI h (l.take (j + 1)) = (setI h (l.take j)).set x.1.toNat x.2 := by
  rw [List.take_add_one, hx]
  simp [setI, List.foldl_append]

end Go.Proofs.YtdibeieiogagoaaGreatDoor

namespace Go.Proofs.YtdibeieiogagoaaGreatDoor
open Go.RowKit

theorem redo_home {n j : Nat} {Y : List ByteArray} {q : Int} (hl : Y.length = 200) (h2 : n ≤ 60) (hc : ∀ k : Nat, k < n → Y[1 + k]? = some (roundB j)) : ∀ t : Nat, t < n → (redoS Y q (rangeI n))[111 + t]? = some (roundB j) := by
  have key : ∀ (ts : List Int) (k : Nat) (s : List ByteArray), (∀ u ∈ ts, 0 ≤ u) → (∀ i, i < ts.length → Y.getD (1 + (k + i)) .empty = roundB j) → ∀ t ∈ ts, (111 + t).toNat < s.length → (setI s (redoL Y k ts))[(111 + t).toNat]? = some (roundB j) := by
    intro ts
    induction ts with
    | nil => intro k s _ _ t ht; cases ht
    | cons u r ih =>
      intro k s h0 hk t ht hlt
      rw [redoL, setI_cons]
      by_cases hr : t ∈ r
      · exact ih (k + 1) _ (fun v hv => h0 v (by simp [hv])) (fun i hi => by have := hk (i + 1) (by simp only [List.length_cons]; omega); rw [show k + 1 + i = k + (i + 1) by omega]; exact this) t hr (by simpa using hlt)
      · have htu : t = u := by
          rcases List.mem_cons.1 ht with h | h
          · exact h
          · exact absurd h hr
        subst htu
        rw [setI_far _ _ (fun x hx => ?_), List.getElem?_set_self hlt]
        · have := hk 0 (by simp)
          rw [Nat.add_zero] at this
          rw [this]
        · obtain ⟨i, v, rfl, _, _, hv, _⟩ := redoL_at Y r (k + 1) x hx
          have h1 := h0 v (by simp [hv])
          have h3 := h0 t (by simp)
          simp only
          intro e
          have : v = t := by omega
          exact hr (this ▸ hv)
  intro t ht
  unfold redoS
  rw [setI_far [(0, doneB q)] _ (fun x hx => by rw [List.mem_singleton.1 hx]; simp only; omega)]
  have := key (rangeI n) 0 Y (fun u hu => (rangeI_mem.1 hu).1) (fun i hi => by
    rw [rangeI_len] at hi
    rw [Nat.zero_add, List.getD_eq_getElem?_getD, hc i hi]
    rfl) (t : Int) (rangeI_mem.2 (by omega)) (by omega)
  rw [show (111 + (t : Int)).toNat = 111 + t by omega] at this
  exact this
theorem redo_ok {n j : Nat} {Y : List ByteArray} (hl : Y.length = 200) (h2 : n ≤ 60) (hj : j < 100) (hs : ∀ x ∈ Y, x.size ≤ 256) (hc : ∀ k : Nat, k < n → Y[1 + k]? = some (roundB j)) : RedoOk 200 ((j : Int) + 1) Y (rangeI n) :=
  ⟨hl, by omega, by rw [rangeI_len]; omega, fun t ht => by have := rangeI_mem.1 ht; omega, by omega, fun k hk => by
    rw [rangeI_len] at hk
    rw [List.getD_eq_getElem?_getD, hc k hk]
    exact roundB_size j, fun x hx => by have := hs x hx; omega⟩

/-- The last commit, and the crash behind it. -/
theorem final_commit {n j w0 : Nat} {s : List ByteArray} {a k : Int} {keep : List Int} (h : Inv9 n j s) (h1 : 1 ≤ n) (h2 : n ≤ 60) (hj : j < 99) (ha : 0 ≤ a) (hw : w0 < 600000000000) :
    ∃ R Y, R = commitR ((calm s w0).arm a keep) (j : Int) k (manyP n j n) ∧ Left9 n j Y ∧ Dead (R.S.crash keep) Y ∧ (R.e ≠ 0 ∨ Inv9 n (j + 1) Y) ∧ R.S.Ok ∧ (R.S.crash keep).writes < 700000000000 := by
  obtain ⟨S, hS⟩ : ∃ S, S = (calm s w0).arm a keep := ⟨_, rfl⟩
  rw [← hS]
  have hcl : Clean S s := by
    rw [hS]
    unfold DS.arm
    rw [if_neg (by omega)]
    exact ⟨rfl, rfl, rfl, rfl⟩
  have hSw : S.writes = w0 := by
    rw [hS]
    unfold DS.arm
    rw [if_neg (by omega)]
    rfl
  have hok := many_ok j h1 h2 (q := (j : Int)) (by omega)
  have hnl : S.now.length = 200 := by rw [hcl.now, h.len]
  obtain ⟨G, hG⟩ : ∃ G, G = groupsL (j : Int) (manyP n j n) (rangeI n) := ⟨_, rfl⟩
  have hR : commitR S (j : Int) k (manyP n j n) = if putE S G = 0 then ⟨putS S G, (j : Int) + 1, true, k + 1, 0⟩ else ⟨putS S G, (j : Int), false, k, putE S G⟩ := by
    unfold commitR
    rw [hnl, if_neg (fun hh => hh hok.ok), if_neg (by have := hok.pos; omega), ← hok.eq, if_neg (by have := hok.few; omega), ← hG]
  have hGw : sumL G ≤ 1000 := by
    rw [hG]
    unfold groupsL sumL
    simp only [List.foldr_cons, List.foldr_nil, copiesL_length, homeL_length, List.length_cons, List.length_nil, rangeI_len]
    omega
  have hpw := putS_writes G S
  have hpo := putS_ok G S hcl.ok
  have hcw : ∀ T : DS, (T.crash keep).writes = T.writes := fun T => by unfold DS.crash; split <;> rfl
  have hwr : ((putS S G).crash keep).writes < 700000000000 := by rw [hcw]; omega
  rw [hR]
  rcases put_cases G S s hcl (fun g hg => by rw [h.len]; rw [hG] at hg; exact hok.fits g hg) with ⟨e0, hc⟩ | ⟨e14, i, g, Y, hi, hp, hdead⟩
  · have hd : Dead ((putS S G).crash keep) (G.foldl setI s) := by
      have := crash_dead hc.on keep
      rw [hc.dirty, hc.safe] at this
      exact this
    have hnew : Inv9 n (j + 1) (G.foldl setI s) := by
      rw [hG]
      exact h.next h1 h2 (by omega)
    rw [if_pos e0]
    exact ⟨_, _, rfl, .new hnew, hd, .inr hnew, hpo, hwr⟩
  · rw [if_neg (by rw [e14]; decide)]
    refine ⟨_, Y, rfl, ?_, ?_, .inl (by show putE S G ≠ 0; rw [e14]; decide), hpo, hwr⟩
    · rw [hG] at hi hp
      exact left_cases h h1 h2 (by omega) hi hp
    · show Dead ((putS S G).crash keep) Y
      rw [hdead.crash]
      exact hdead

end Go.Proofs.YtdibeieiogagoaaGreatDoor
