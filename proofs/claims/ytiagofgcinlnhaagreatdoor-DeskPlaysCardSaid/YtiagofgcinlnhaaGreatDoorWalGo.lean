/-
  A Wal upon a disk that may lose its power: opened anew, a crash, a commit's ways. No statement is proved here.
-/
import Derived.Test.YtiagofgcinlnhaaGreatDoorRefDrop
import Derived.StillTailTactics
import Derived.Deep.AppendLies
namespace Go.Proofs.YtiagofgcinlnhaaGreatDoor
open Go.RowKit
variable {w : World} {gw gd : Nat} {O : List Nat} {S : DS} {seq k : Int} {n : Nat}
theorem on_read (h : S.on = true) {x : ByteArray} {i : Nat} (hx : S.now[i]? = some x) : S.read (i : Int) = x ∧ S.errR (i : Int) = 0 := by
  have hi : i < S.now.length := by
    rcases Nat.lt_or_ge i S.now.length with h' | h'
    · exact h'
    · rw [List.getElem?_eq_none h'] at hx; cases hx
  constructor
  · unfold DS.read
    rw [if_pos ⟨h, by omega, by omega⟩, Int.toNat_natCast, List.getD_eq_getElem?_getD, hx]
    rfl
  · unfold DS.errR
    rw [if_pos h, if_pos ⟨by omega, by omega⟩]
variable {w : World} {gd gw N : Nat} {O : List Nat} {S : DS} {q : Int} {h s Y : List ByteArray} {l : List Wr1}
theorem headQ_zero (N : Nat) (hN : 140 ≤ N ∧ N ≤ 400) : Held N 0 (List.replicate (N - 111) (zeroB 256)) (List.replicate N (zeroB 256)) := by
  refine ⟨by simp, hN, ?_, by omega, by simp, fun t ht => ?_, fun x hx => ?_⟩
  · rw [List.getElem?_replicate, if_pos (by omega)]; rfl
  · rw [List.getElem?_replicate, if_pos (by omega), List.getElem?_replicate, if_pos ht]
  · rw [(List.mem_replicate.1 hx).2, zeroB_size]; exact Nat.le_refl _
theorem open_held (hd : DiskAt w O gd S) (hon : S.on = true) (hs : Held N q h S.now) : Calls Tryz.prog 57 #[.pointer (some ⟨gd, 0, none⟩)] w fun e w' => ∃ gw, e = .returned (.tuple #[.pointer (some ⟨gw, 0, none⟩), .int .i64 0]) ∧ OpenedAt O gd gw S q w w' := by
  have hdm := hs.dim
  refine (wopen_plain hd (fun x hx => by have := hs.small x hx; omega) hon (by rw [hs.len]; omega) (on_read hon hs.head).1 (head_readQ hs.seq.1 hs.seq.2)).mono ?_
  rintro e w' ⟨gw, rfl, k1, k2, k3⟩
  exact ⟨gw, rfl, OpenedAt.of_plain hd k1 k2 k3⟩
theorem clean_calm (s : List ByteArray) (n : Nat) : Clean (calm s n) s := ⟨rfl, rfl, rfl, rfl⟩
theorem Clean.crash (hc : Clean S s) (keep : List Int) : Dead (S.crash keep) s := by
  have := crash_dead hc.on keep
  rw [hc.dirty, hc.safe] at this
  exact this
theorem crash_writes (T : DS) (keep : List Int) : (T.crash keep).writes = T.writes := by unfold DS.crash; split <;> rfl
theorem arm_writes (T : DS) (a : Int) (keep : List Int) : (T.arm a keep).writes = T.writes := by unfold DS.arm; split <;> rfl
theorem Clean.armed (hc : Clean S s) {a : Int} (ha : 0 ≤ a) (keep : List Int) : Clean (S.arm a keep) s := by
  unfold DS.arm
  rw [if_neg (by omega)]
  exact ⟨hc.on, hc.now, hc.safe, hc.dirty⟩
theorem arm_left {a : Int} (ha : 0 ≤ a) (keep : List Int) : (S.arm a keep).left = a.toNat := by
  unfold DS.arm
  rw [if_neg (by omega)]
inductive Ways (N : Nat) (S : DS) (s : List ByteArray) (q k : Int) (h : List ByteArray) (l : List Wr1) : CR → Prop
  | no (e : Int) (he : e ≠ 0) (hr : (refE ((N : Int) - 111) l = e) ∨ (refE ((N : Int) - 111) l = 0 ∧ 110 < (putOnce (l.map Prod.fst)).length ∧ e = 21)) : Ways N S s q k h l ⟨S, q, true, k, e⟩
  | none (hl : l = []) : Ways N S s q k h l ⟨S, q, true, k, 0⟩
  | done (S' : DS) (s' : List ByteArray) (hp : 0 < l.length) (hr : refE ((N : Int) - 111) l = 0) (hf : (putOnce (l.map Prod.fst)).length ≤ 110) (hc : Clean S' s') (hh : Held N (q + 1) (setI h l) s') (hok : S'.Ok) (hw : S'.writes ≤ S.writes + 300) : Ways N S s q k h l ⟨S', q + 1, true, k + 1, 0⟩
  | gone (S' : DS) (Y : List ByteArray) (hp : 0 < l.length) (hr : refE ((N : Int) - 111) l = 0) (hf : (putOnce (l.map Prod.fst)).length ≤ 110) (hd : Dead S' Y) (hh : LeftQ N q h l (putOnce (l.map Prod.fst)) Y) (hok : S'.Ok) (hw : S'.writes ≤ S.writes + 300) : Ways N S s q k h l ⟨S', q, false, k, 14⟩
theorem commit_ways {k : Int} (hc : Clean S s) (hs : Held N q h s) (hq : q + 1 < 1000000) : Ways N S s q k h l (commitR S q k l) := by
  have hd := hs.dim
  have hnl : (S.now.length : Int) - 111 = (N : Int) - 111 := by rw [hc.now, hs.len]
  unfold commitR
  rw [hnl]
  by_cases h1 : refE ((N : Int) - 111) l ≠ 0
  · rw [if_pos h1]
    exact .no _ h1 (.inl rfl)
  rw [if_neg h1]
  have h1' : refE ((N : Int) - 111) l = 0 := Decidable.not_not.1 h1
  by_cases h2 : l.length = 0
  · rw [if_pos h2]
    exact .none (List.eq_nil_of_length_eq_zero h2)
  rw [if_neg h2]
  obtain ⟨T, hT⟩ : ∃ T, T = putOnce (l.map Prod.fst) := ⟨_, rfl⟩
  by_cases h3 : 110 < (putOnce (l.map Prod.fst)).length
  · rw [if_pos h3]
    exact .no 21 (by decide) (.inr ⟨h1', h3, rfl⟩)
  rw [if_neg h3]
  have hok : CommitOk N q l T := ⟨hT, by omega, by rw [hT]; omega, by omega, h1', by have := hs.seq; omega⟩
  have hfew := hok.few
  rw [← hT]
  obtain ⟨G, hG⟩ : ∃ G, G = groupsL q l T := ⟨_, rfl⟩
  rw [← hG]
  have hGw : sumL G ≤ 300 := by
    rw [hG]
    unfold groupsL sumL
    simp only [List.foldr_cons, List.foldr_nil, copiesL_length, homeL_length, List.length_cons, List.length_nil]
    omega
  have hpw := putS_writes G S
  have hpo := putS_ok G S hc.ok
  rcases put_cases G S s hc (fun g hg => by rw [hs.len]; rw [hG] at hg; exact hok.fits g hg) with ⟨e0, hcl⟩ | ⟨e14, i, g, Y, hi, hp, hdead⟩
  · rw [if_pos e0]
    refine .done _ _ (by omega) h1' (by omega) hcl ?_ hpo (by omega)
    rw [hG]
    exact held_next hs hok hq
  · rw [if_neg (by rw [e14]; decide), e14]
    refine .gone _ Y (by omega) h1' (by omega) hdead ?_ hpo (by omega)
    rw [hG] at hi hp
    rw [← hT]
    exact leftQ_cases hs hok hq hi hp
end Go.Proofs.YtiagofgcinlnhaaGreatDoor
