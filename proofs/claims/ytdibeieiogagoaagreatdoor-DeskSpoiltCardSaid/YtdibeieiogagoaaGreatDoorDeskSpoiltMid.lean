/-
  DeskSpoilt: what Open and Format do with a disk that is spoilt. No statement is proved here.
-/
import Derived.Test.YtdibeieiogagoaaGreatDoorDeskSpoiltPure
namespace Go.Proofs.YtdibeieiogagoaaGreatDoor
open Go.RowKit

/-- A disk that was formatted: its Room is that of an empty desk. -/
structure Good11 (N : Nat) (S : DS) (q : Int) : Prop where
  ex : ∃ h s0 s d n, S = warm s0 s d n ∧ Held N q h s ∧ sector1 h = bs (roomT (N - 111) [0, 1]) ∧ d.length ≤ 1 ∧ n ≤ 100000
  sok : S.Ok
  few : q ≤ 100
theorem hok_two {n : Nat} (h : 2 ≤ n) : HOk n [0, 1] := ⟨by simp, fun x hx => by
  simp only [List.mem_cons, List.not_mem_nil, or_false] at hx
  rcases hx with rfl | rfl <;> omega⟩
section
variable {w w' : World} {gd N : Nat} {O : List Nat} {S : DS} {q : Int}
theorem Good11.run (g : Good11 N S q) : ∃ h, Run11 N (openK S q [0, 1]) h 100 ∧ pendT (openK S q [0, 1]) = [] := by
  obtain ⟨h, s0, s, d, n, e, hs, hx, hd, hn⟩ := g.ex
  have hlen : S.now.length = N := by rw [e]; exact hs.len
  have hdim := hs.dim
  refine ⟨h, ⟨⟨s0, s, d, n, e, hs, by omega, hd⟩, g.sok, ⟨hlen, hdim, by simp [openK], by simp [openK], fun t ht => absurd rfl ht⟩, hok_two (by omega), rfl, rfl, by simp [openK], g.few, by simp [openK]⟩, ?_⟩
  rw [List.eq_nil_iff_forall_not_mem]
  intro t ht
  have h2 := (pendT_mem.1 ht).2
  unfold dirtyP at h2
  split at h2
  · exact of_decide_eq_true h2 rfl
  · exact of_decide_eq_true h2 rfl
theorem good_open (g : Good11 N S q) (hd : DiskAt w O gd S) :
    Calls Tryz.prog 31 #[.pointer (some ⟨gd, 0, none⟩)] w fun e w' => ∃ g, e = .returned (.tuple #[.pointer (some ⟨g, 0, none⟩), .int .i64 0]) ∧ KOpen O g gd 0 (openK S q [0, 1]) w w' := by
  obtain ⟨h, s0, s, d, n, e, hs, hx, hdl, hn⟩ := g.ex
  have hon : S.on = true := by rw [e]; rfl
  have hs' : Held N q h S.now := by rw [e]; exact hs
  have hdim := hs.dim
  refine kopen_go hon hs' (by simp) (by simp) ?_ hx (open_held hd hon hs')
  rw [hx]
  have := readR_laid (n := N - 111) (H := [0, 1]) (hok_two (by omega)) (by omega) (by omega)
  rw [show (bs (roomT (N - 111) [0, 1])).data.toList = roomT (N - 111) [0, 1] by simp [bs]]
  exact this
theorem good_format {h : List ByteArray} {s0 s : List ByteArray} {d : List (Nat × ByteArray)} {n : Nat} (hs : Held N q h S.now) (hS : S = warm s0 s d n) (hok : S.Ok) (hq : q ≤ 10) (hn : n ≤ 10000) (hd : d.length ≤ 1)
    (HO : Calls Tryz.prog 50 #[.pointer (some ⟨gd, 0, none⟩)] w fun e w' => ∃ gw, e = .returned (.tuple #[.pointer (some ⟨gw, 0, none⟩), .int .i64 0]) ∧ OpenedAt O gd gw S q w w') :
    Calls Tryz.prog 10 #[.pointer (some ⟨gd, 0, none⟩)] w fun e w' => ∃ g K, e = .returned (.tuple #[.pointer (some ⟨g, 0, none⟩), .int .i64 0]) ∧ KOpen O g gd 1 K w w' ∧ Good11 N K.S K.seq := by
  have r := fmt_start (c := 10) hs hS hok hq (by omega) hd
  have hp := fmt_pend hs
  obtain ⟨a1, a2, a3, a4, a5, a6, a7⟩ := r.sync (by omega) (by rw [pendL_length, hp]; decide)
  obtain ⟨s2, n2, e2, hn2⟩ := r.sync_calm (by omega) (by rw [pendL_length, hp]; decide) (by rw [hp]; simp)
  have hk := r.krun (by omega)
  refine (kformat_go hs hok (by rw [hS]; show (0 : Nat) ≤ 100; omega) (by rw [hS]; show n < _; omega) (by rw [hS]; show d.length < _; omega) a1 HO).mono ?_
  rintro e w' ⟨g, rfl, ho⟩
  refine ⟨g, _, rfl, ho, ⟨setI h (pendL (fmtK S q)), s2, s2, [], n2, e2, ?_, ?_, by simp, by omega⟩, a2.sok, Int.le_trans a2.seq (by omega)⟩
  · have := a2.now.1
    rw [e2] at this
    exact this
  · have hdim := hs.dim
    have hl1 : 1 < h.length := by rw [hs.hlen]; omega
    have e1 : pendL (fmtK S q) = [(0, zeroB 256), (1, bs (roomT (N - 111) [0, 1]))] := by
      unfold pendL
      rw [hp]
      have g0 : gF (fmtK S q) 0 = zeroB 256 := by unfold gF; rw [if_neg (by decide)]; exact updF_same (fun _ => .empty) 0 (zeroB 256)
      have g1 : gF (fmtK S q) 1 = bs (roomT (N - 111) [0, 1]) := by
        unfold gF
        rw [if_pos rfl]
        unfold roomS
        have : (fmtK S q).S.now.length = N := hs.len
        rw [this]
        rfl
      simp [g0, g1]
    rw [e1]
    generalize zeroB 256 = z
    show ((h.set 0 z).set 1 _).getD 1 .empty = _
    rw [List.getD_eq_getElem?_getD, List.getElem?_set_self (by rw [List.length_set]; exact hl1)]
    rfl
/-- One sector is written over what is all safe. -/
theorem spoil_write {s1 : List ByteArray} {n1 k : Nat} {X : ByteArray} (hk : k < s1.length) (hX : X.size = 256) :
    (calm s1 n1).errW [((k : Int), X)] = 0 ∧ ∃ d, (calm s1 n1).write [((k : Int), X)] = warm s1 (s1.set k X) d (n1 + 1) ∧ d.length ≤ 1 := by
  have hf : Fit s1.length [((k : Int), X)] := fun x hx => by
    rw [List.mem_singleton] at hx
    subst hx
    exact ⟨by show (0 : Int) ≤ (k : Int); omega, by show (k : Int) < _; omega, hX⟩
  obtain ⟨h1, h2, h3⟩ := calm_group s1 n1 _ hf
  obtain ⟨h4, d, h5⟩ := warm_writeL s1 [((k : Int), X)] s1 [] n1 hf
  refine ⟨h1, d, ?_, ?_⟩
  · unfold DS.write
    rw [if_pos (show (calm s1 n1).on = true from rfl)]
    exact h5
  · have := DS.writeL_dirty [((k : Int), X)] (warm s1 s1 [] n1)
    rw [h5] at this
    exact this
end
end Go.Proofs.YtdibeieiogagoaaGreatDoor
