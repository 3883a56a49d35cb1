/-
  A Wal upon a disk that may lose its power: opened anew, a crash, a commit's ways. No statement is proved here.
-/
import Derived.Test.YtolbnkpakjdnnaaGreatDoorRoomAlive
import Derived.StillTailTactics
import Derived.Test.YtolbnkpakjdnnaaGreatDoorWalAllPure
import Derived.Deep.AppendLies
namespace Go.Proofs.YtolbnkpakjdnnaaGreatDoor
open Go.RowKit
variable {w : World} {gw gd : Nat} {O : List Nat} {S : DS} {seq k : Int} {n : Nat}

theorem on_read (h : S.on = true) {x : ByteArray} {i : Nat} (hx : S.now[i]? = some x) : S.read (i : Int) = x ∧ S.errR (i : Int) = 0 := by
  have hi : i < S.now.length := by
    rcases Nat.lt_or_ge i S.now.length with h' | h'
    · exact h'
    · rw [List.getElem?_eq_none h'] at hx; cases hx
  constructor
  · unfold DS.read
    rw [if_pos ⟨h, by omega, by omega⟩, Int.toNat_natCast, List.getD_eq_getElem?_getD, hx]
    rfl
  · unfold DS.errR
    rw [if_pos h, if_pos ⟨by omega, by omega⟩]

def IsHome (Z h : List ByteArray) : Prop := ∀ t : Nat, t < h.length → Z[111 + t]? = h[t]?

end Go.Proofs.YtolbnkpakjdnnaaGreatDoor

namespace Go.Proofs.YtolbnkpakjdnnaaGreatDoor
open Go.RowKit

theorem setI_snoc (h : List ByteArray) {l : List Wr1} {j : Nat} {x : Wr1} (hx : l[j]? = some x) : setI h (l.take (j + 1)) = (setI h (l.take j)).set x.1.toNat x.2 := by
  rw [List.take_add_one, hx]
  simp [setI, List.foldl_append]

end Go.Proofs.YtolbnkpakjdnnaaGreatDoor

namespace Go.Proofs.YtolbnkpakjdnnaaGreatDoor
open Go.RowKit

theorem redo_home {n j : Nat} {Y : List ByteArray} {q : Int} (hl : Y.length = 200) (h2 : n ≤ 60) (hc : ∀ k : Nat, k < n → Y[1 + k]? = some (roundB j)) : ∀ t : Nat, t < n → (redoS Y q (rangeI n))[111 + t]? = some (roundB j) := by
  have key : ∀ (ts : List Int) (k : Nat) (s : List ByteArray), (∀ u ∈ ts, 0 ≤ u) → (∀ i, i < ts.length → Y.getD (1 + (k + i)) .empty = roundB j) → ∀ t ∈ ts, (111 + t).toNat < s.length → (setI s (redoL Y k ts))[(111 + t).toNat]? = some (roundB j) := by
    intro ts
    induction ts with
    | nil => intro k s _ _ t ht; cases ht
    | cons u r ih =>
      intro k s h0 hk t ht hlt
      rw [redoL, setI_cons]
      by_cases hr : t ∈ r
      · exact ih (k + 1) _ (fun v hv => h0 v (by simp [hv])) (fun i hi => by have := hk (i + 1) (by simp only [List.length_cons]; omega); rw [show k + 1 + i = k + (i + 1) by omega]; exact this) t hr (by simpa using hlt)
      · have htu : t = u := by
          rcases List.mem_cons.1 ht with h | h
          · exact h
          · exact absurd h hr
        subst htu
        rw [setI_far _ _ (fun x hx => ?_), List.getElem?_set_self hlt]
        · have := hk 0 (by simp)
          rw [Nat.add_zero] at this
          rw [this]
        · obtain ⟨i, v, rfl, _, _, hv, _⟩ := redoL_at Y r (k + 1) x hx
          have h1 := h0 v (by simp [hv])
          have h3 := h0 t (by simp)
          simp only
          intro e
          have : v = t := by omega
          exact hr (this ▸ hv)
  intro t ht
  unfold redoS
  rw [setI_far [(0, doneB q)] _ (fun x hx => by rw [List.mem_singleton.1 hx]; simp only; omega)]
  have := key (rangeI n) 0 Y (fun u hu => (rangeI_mem.1 hu).1) (fun i hi => by
    rw [rangeI_len] at hi
    rw [Nat.zero_add, List.getD_eq_getElem?_getD, hc i hi]
    rfl) (t : Int) (rangeI_mem.2 (by omega)) (by omega)
  rw [show (111 + (t : Int)).toNat = 111 + t by omega] at this
  exact this
theorem redo_ok {n j : Nat} {Y : List ByteArray} (hl : Y.length = 200) (h2 : n ≤ 60) (hj : j < 100) (hs : ∀ x ∈ Y, x.size ≤ 256) (hc : ∀ k : Nat, k < n → Y[1 + k]? = some (roundB j)) : RedoOk 200 ((j : Int) + 1) Y (rangeI n) :=
  ⟨hl, by omega, by rw [rangeI_len]; omega, fun t ht => by have := rangeI_mem.1 ht; omega, by omega, fun k hk => by
    rw [rangeI_len] at hk
    rw [List.getD_eq_getElem?_getD, hc k hk]
    exact roundB_size j, fun x hx => by have := hs x hx; omega⟩

/-- The last commit, and the crash behind it. -/
theorem final_commit {n j w0 : Nat} {s : List ByteArray} {a k : Int} {keep : List Int} (h : Inv9 n j s) (h1 : 1 ≤ n) (h2 : n ≤ 60) (hj : j < 99) (ha : 0 ≤ a) (hw : w0 < 600000000000) :
    ∃ R Y, R = commitR ((calm s w0).arm a keep) (j : Int) k (manyP n j n) ∧ Left9 n j Y ∧ Dead (R.S.crash keep) Y ∧ (R.e ≠ 0 ∨ Inv9 n (j + 1) Y) ∧ R.S.Ok ∧ (R.S.crash keep).writes < 700000000000 := by
  obtain ⟨S, hS⟩ : ∃ S, S = (calm s w0).arm a keep := ⟨_, rfl⟩
  rw [← hS]
  have hcl : Clean S s := by
    rw [hS]
    unfold DS.arm
    rw [if_neg (by omega)]
    exact ⟨rfl, rfl, rfl, rfl⟩
  have hSw : S.writes = w0 := by
    rw [hS]
    unfold DS.arm
    rw [if_neg (by omega)]
    rfl
  have hok := many_ok j h1 h2 (q := (j : Int)) (by omega)
  have hnl : S.now.length = 200 := by rw [hcl.now, h.len]
  obtain ⟨G, hG⟩ : ∃ G, G = groupsL (j : Int) (manyP n j n) (rangeI n) := ⟨_, rfl⟩
  have hR : commitR S (j : Int) k (manyP n j n) = if putE S G = 0 then ⟨putS S G, (j : Int) + 1, true, k + 1, 0⟩ else ⟨putS S G, (j : Int), false, k, putE S G⟩ := by
    unfold commitR
    rw [hnl, if_neg (fun hh => hh hok.ok), if_neg (by have := hok.pos; omega), ← hok.eq, if_neg (by have := hok.few; omega), ← hG]
  have hGw : sumL G ≤ 1000 := by
    rw [hG]
    unfold groupsL sumL
    simp only [List.foldr_cons, List.foldr_nil, copiesL_length, homeL_length, List.length_cons, List.length_nil, rangeI_len]
    omega
  have hpw := putS_writes G S
  have hpo := putS_ok G S hcl.ok
  have hcw : ∀ T : DS, (T.crash keep).writes = T.writes := fun T => by unfold DS.crash; split <;> rfl
  have hwr : ((putS S G).crash keep).writes < 700000000000 := by rw [hcw]; omega
  rw [hR]
  rcases put_cases G S s hcl (fun g hg => by rw [h.len]; rw [hG] at hg; exact hok.fits g hg) with ⟨e0, hc⟩ | ⟨e14, i, g, Y, hi, hp, hdead⟩
  · have hd : Dead ((putS S G).crash keep) (G.foldl setI s) := by
      have := crash_dead hc.on keep
      rw [hc.dirty, hc.safe] at this
      exact this
    have hnew : Inv9 n (j + 1) (G.foldl setI s) := by
      rw [hG]
      exact h.next h1 h2 (by omega)
    rw [if_pos e0]
    exact ⟨_, _, rfl, .new hnew, hd, .inr hnew, hpo, hwr⟩
  · rw [if_neg (by rw [e14]; decide)]
    refine ⟨_, Y, rfl, ?_, ?_, .inl (by show putE S G ≠ 0; rw [e14]; decide), hpo, hwr⟩
    · rw [hG] at hi hp
      exact left_cases h h1 h2 (by omega) hi hp
    · show Dead ((putS S G).crash keep) Y
      rw [hdead.crash]
      exact hdead

end Go.Proofs.YtolbnkpakjdnnaaGreatDoor

namespace Go.Proofs.YtolbnkpakjdnnaaGreatDoor
open Go.RowKit
variable {w : World} {gd gw N : Nat} {O : List Nat} {S : DS} {q : Int} {h s Y : List ByteArray} {l : List Wr1}

theorem headQ_zero (N : Nat) (hN : 140 ≤ N ∧ N ≤ 400) : Held N 0 (List.replicate (N - 111) (zeroB 256)) (List.replicate N (zeroB 256)) := by
  refine ⟨by simp, hN, ?_, by omega, by simp, fun t ht => ?_, fun x hx => ?_⟩
  · rw [List.getElem?_replicate, if_pos (by omega)]; rfl
  · rw [List.getElem?_replicate, if_pos (by omega), List.getElem?_replicate, if_pos ht]
  · rw [(List.mem_replicate.1 hx).2, zeroB_size]; exact Nat.le_refl _
/-- Opened as it stands, its head done. -/
theorem open_held (hd : DiskAt w O gd S) (hon : S.on = true) (hs : Held N q h S.now) : Calls Tryz.prog 85 #[.pointer (some ⟨gd, 0, none⟩)] w fun e w' => ∃ gw, e = .returned (.tuple #[.pointer (some ⟨gw, 0, none⟩), .int .i64 0]) ∧ OpenedAt O gd gw S q w w' := by
  have hdm := hs.dim
  refine (wopen_plain hd (fun x hx => by have := hs.small x hx; omega) hon (by rw [hs.len]; omega) (on_read hon hs.head).1 (head_readQ hs.seq.1 hs.seq.2)).mono ?_
  rintro e w' ⟨gw, rfl, k1, k2, k3⟩
  exact ⟨gw, rfl, OpenedAt.of_plain hd k1 k2 k3⟩
theorem clean_calm (s : List ByteArray) (n : Nat) : Clean (calm s n) s := ⟨rfl, rfl, rfl, rfl⟩
theorem Clean.crash (hc : Clean S s) (keep : List Int) : Dead (S.crash keep) s := by
  have := crash_dead hc.on keep
  rw [hc.dirty, hc.safe] at this
  exact this
theorem crash_writes (T : DS) (keep : List Int) : (T.crash keep).writes = T.writes := by unfold DS.crash; split <;> rfl
theorem arm_writes (T : DS) (a : Int) (keep : List Int) : (T.arm a keep).writes = T.writes := by unfold DS.arm; split <;> rfl
theorem Clean.armed (hc : Clean S s) {a : Int} (ha : 0 ≤ a) (keep : List Int) : Clean (S.arm a keep) s := by
  unfold DS.arm
  rw [if_neg (by omega)]
  exact ⟨hc.on, hc.now, hc.safe, hc.dirty⟩
theorem arm_left {a : Int} (ha : 0 ≤ a) (keep : List Int) : (S.arm a keep).left = a.toNat := by
  unfold DS.arm
  rw [if_neg (by omega)]

/-- The ways of a commit upon a clean disk, armed or not. -/
inductive Ways (N : Nat) (S : DS) (s : List ByteArray) (q k : Int) (h : List ByteArray) (l : List Wr1) : CR → Prop
  | no (e : Int) (he : e ≠ 0) (hr : (refE ((N : Int) - 111) l = e) ∨ (refE ((N : Int) - 111) l = 0 ∧ 110 < (putOnce (l.map Prod.fst)).length ∧ e = 21)) : Ways N S s q k h l ⟨S, q, true, k, e⟩
  | none (hl : l = []) : Ways N S s q k h l ⟨S, q, true, k, 0⟩
  | done (S' : DS) (s' : List ByteArray) (hp : 0 < l.length) (hr : refE ((N : Int) - 111) l = 0) (hf : (putOnce (l.map Prod.fst)).length ≤ 110) (hc : Clean S' s') (hh : Held N (q + 1) (setI h l) s') (hok : S'.Ok) (hw : S'.writes ≤ S.writes + 300) : Ways N S s q k h l ⟨S', q + 1, true, k + 1, 0⟩
  | gone (S' : DS) (Y : List ByteArray) (hp : 0 < l.length) (hr : refE ((N : Int) - 111) l = 0) (hf : (putOnce (l.map Prod.fst)).length ≤ 110) (hd : Dead S' Y) (hh : LeftQ N q h l (putOnce (l.map Prod.fst)) Y) (hok : S'.Ok) (hw : S'.writes ≤ S.writes + 300) : Ways N S s q k h l ⟨S', q, false, k, 14⟩

theorem commit_ways {k : Int} (hc : Clean S s) (hs : Held N q h s) (hq : q + 1 < 1000000) : Ways N S s q k h l (commitR S q k l) := by
  have hd := hs.dim
  have hnl : (S.now.length : Int) - 111 = (N : Int) - 111 := by rw [hc.now, hs.len]
  unfold commitR
  rw [hnl]
  by_cases h1 : refE ((N : Int) - 111) l ≠ 0
  · rw [if_pos h1]
    exact .no _ h1 (.inl rfl)
  rw [if_neg h1]
  have h1' : refE ((N : Int) - 111) l = 0 := Decidable.not_not.1 h1
  by_cases h2 : l.length = 0
  · rw [if_pos h2]
    exact .none (List.eq_nil_of_length_eq_zero h2)
  rw [if_neg h2]
  obtain ⟨T, hT⟩ : ∃ T, T = putOnce (l.map Prod.fst) := ⟨_, rfl⟩
  by_cases h3 : 110 < (putOnce (l.map Prod.fst)).length
  · rw [if_pos h3]
    exact .no 21 (by decide) (.inr ⟨h1', h3, rfl⟩)
  rw [if_neg h3]
  have hok : CommitOk N q l T := ⟨hT, by omega, by rw [hT]; omega, by omega, h1', by have := hs.seq; omega⟩
  have hfew := hok.few
  rw [← hT]
  obtain ⟨G, hG⟩ : ∃ G, G = groupsL q l T := ⟨_, rfl⟩
  rw [← hG]
  have hGw : sumL G ≤ 300 := by
    rw [hG]
    unfold groupsL sumL
    simp only [List.foldr_cons, List.foldr_nil, copiesL_length, homeL_length, List.length_cons, List.length_nil]
    omega
  have hpw := putS_writes G S
  have hpo := putS_ok G S hc.ok
  rcases put_cases G S s hc (fun g hg => by rw [hs.len]; rw [hG] at hg; exact hok.fits g hg) with ⟨e0, hcl⟩ | ⟨e14, i, g, Y, hi, hp, hdead⟩
  · rw [if_pos e0]
    refine .done _ _ (by omega) h1' (by omega) hcl ?_ hpo (by omega)
    rw [hG]
    exact held_next hs hok hq
  · rw [if_neg (by rw [e14]; decide), e14]
    refine .gone _ Y (by omega) h1' (by omega) hdead ?_ hpo (by omega)
    rw [hG] at hi hp
    rw [← hT]
    exact leftQ_cases hs hok hq hi hp

set_option maxRecDepth 100000 in
set_option maxHeartbeats 1000000 in
/-- A Wal that is not up any more. -/
theorem wcommit_down {k : Int} {m c : Nat} (A : Option Addr) (h : Blk w gw 163 (walC gd q false k)) : Calls Tryz.prog 82 #[.pointer (some ⟨gw, 0, none⟩), .slice A m c] w fun e w' => e = .returned (.int .i64 14) ∧ w = w' := by
  have c4 := h.cell 4
  simp [walC] at c4
  have HR : Hid (Calls Tryz.prog 123 #[.pointer (some ⟨gw, 0, none⟩), .slice A m c] w fun e w' => e = .returned (.int .i64 14) ∧ w = w') := Lib.hid (by
    go_enter Tryz.func123, Tryz.ntmps123
    go_wp2_with fail
    go_ret
    exact ⟨rfl, rfl⟩)
  clear c4
  go_enter Tryz.func82, Tryz.ntmps82
  go_wp2_with fail
  refine HR.out.mono ?_
  rintro e w1 ⟨rfl, rfl⟩
  go_wp2_with fail
  go_ret
  exact ⟨rfl, rfl⟩
end Go.Proofs.YtolbnkpakjdnnaaGreatDoor
