/-
  A Desk over a disk that may be armed: each call on it, on its disk, and opened anew. No statement is proved here.
-/
import Derived.Test.YtiagofgcinlnhaaGreatDoorDeskCaps
import Derived.Test.YtiagofgcinlnhaaGreatDoorWalGo
namespace Go.Proofs.YtiagofgcinlnhaaGreatDoor
open Go.RowKit
structure Go11 (N : Nat) (K : KD) (h : List ByteArray) (Hc : List Int) (c : Nat) : Prop where
  held : ∃ s, Clean K.S s ∧ Held N K.seq h s
  sok : K.S.Ok
  left : K.S.left ≤ 60
  writes : K.S.writes ≤ 1000 * c
  ok : KOk N K
  hok : HOk (N - 111) K.H
  up : K.up = true
  bad : K.bad = 0
  kk : 0 ≤ K.k ∧ K.k ≤ c
  seq : K.seq ≤ c
  syncs : 0 ≤ K.syncs ∧ K.syncs ≤ c
  kept : K.kept = bs (roomT (N - 111) Hc)
  cok : HOk (N - 111) Hc
  c0 : (0 : Int) ∈ Hc
  c1 : (1 : Int) ∈ Hc
  room : sector1 h = bs (roomT (N - 111) Hc)
section
variable {N : Nat} {K : KD} {h : List ByteArray} {Hc : List Int} {c : Nat}
theorem Go11.krun (r : Go11 N K h Hc c) (hc : c ≤ 1000) : KRun K := by
  obtain ⟨s, h1, h2⟩ := r.held
  have a1 := r.kk
  have a2 := r.seq
  have a3 := r.syncs
  have a4 := h2.seq
  have a5 := r.left
  have a6 := r.writes
  exact ⟨r.sok, r.up, ⟨a4.1, by omega⟩, by omega, by omega, by omega, by rw [h1.dirty]; show 0 < _; omega, by omega, r.bad⟩
theorem Go11.now (r : Go11 N K h Hc c) : Held N K.seq h K.S.now ∧ K.S.on = true := by
  obtain ⟨s, h1, h2⟩ := r.held
  rw [h1.now]
  exact ⟨h2, h1.on⟩
theorem Go11.small (r : Go11 N K h Hc c) : ∀ x ∈ K.S.now, x.size ≤ 100000 := fun x hx => Nat.le_trans (r.now.1.small x hx) (by omega)
theorem Go11.fsize (r : Go11 N K h Hc c) (t : Int) : (K.F t).size ≤ 100000 := by
  by_cases e : K.F t = .empty
  · rw [e]; decide
  · have := (r.ok.used t e).2.2; omega
theorem Go11.get (r : Go11 N K h Hc c) {t : Nat} (ht : t < N - 111) : getR K (t : Int) = (homeG K h t, 0) := by
  obtain ⟨hs, hon⟩ := r.now
  unfold getR homeG
  by_cases e : K.F (t : Int) = .empty
  · have hd := r.ok.dim
    have hl := r.ok.len
    rw [if_neg (show ¬ K.F (t : Int) ≠ .empty from fun h => h e), if_pos (by omega), if_neg (show ¬ K.F (t : Int) ≠ .empty from fun h => h e)]
    have h2 := hs.home t ht
    have hlt : t < h.length := by rw [hs.hlen]; exact ht
    have h3 : K.S.now[111 + t]? = some (h.getD t .empty) := by
      rw [h2, List.getD_eq_getElem?_getD, List.getElem?_eq_getElem hlt]
      rfl
    obtain ⟨e1, e2⟩ := on_read hon h3
    rw [show (111 : Int) + (t : Int) = ((111 + t : Nat) : Int) by omega, e1, e2]
  · rw [if_pos e, if_pos e]
theorem Go11.with (r : Go11 N K h Hc c) {H' : List Int} {F' : Int → ByteArray} (ho : HOk (N - 111) H') (h0 : (0 : Int) ∈ H') (h1 : (1 : Int) ∈ H') (hu : ∀ t, F' t ≠ .empty → t ∈ H' ∧ t ≠ 1 ∧ (F' t).size = 256) : Go11 N { K with H := H', F := F' } h Hc c :=
  ⟨r.held, r.sok, r.left, r.writes, ⟨r.ok.len, r.ok.dim, h0, h1, hu⟩, ho, r.up, r.bad, r.kk, r.seq, r.syncs, r.kept, r.cok, r.c0, r.c1, r.room⟩
theorem Go11.new (r : Go11 N K h Hc c) {k : Nat} (hk : Least K.H k) (hlt : k < N - 111) {x : ByteArray} (hx : x.size = 256) : Go11 N (newK K k x) h Hc c := by
  have hm : ∀ z ∈ K.H, z ∈ putL (k : Int) K.H := fun z hz => (putL_mem _ _ _).2 (.inr hz)
  exact r.with (r.hok.put (by omega) (by omega)) (hm _ r.ok.zero) (hm _ r.ok.one) (updF_used r.ok.used hm ((putL_mem _ _ _).2 (.inl rfl)) (fun e => hk.not (by rw [e]; exact r.ok.one)) hx)
theorem Go11.set (r : Go11 N K h Hc c) (t : Int) (x : ByteArray) : Go11 N (setK K t x) h Hc c := by
  unfold setK
  split
  · exact r
  · rename_i e
    split
    · rename_i hx
      have ht : t ∈ K.H := by
        rcases Classical.em (t ∈ K.H) with h | h
        · exact h
        · exact absurd (.inr h) e
      exact r.with (F' := updF K.F t x) r.hok r.ok.zero r.ok.one (updF_used r.ok.used (fun _ h => h) ht (fun h => e (.inl h)) hx)
    · exact r
theorem Go11.use (r : Go11 N K h Hc c) {H' : List Int} (ho : HOk (N - 111) H') (h0 : (0 : Int) ∈ H') (h1 : (1 : Int) ∈ H') : Go11 N (useK K H') h Hc c := r.with ho h0 h1 (keepF_used r.ok.used)
theorem Go11.drop (r : Go11 N K h Hc c) (l : List Int) : Go11 N (dropK K l) h Hc c := by
  unfold dropK
  split
  · exact r
  · rename_i H e
    obtain ⟨a, b, d⟩ := dropR_ok l r.hok r.ok.zero r.ok.one e
    exact r.use a b d
theorem Go11.stay (r : Go11 N K h Hc c) (l : List Int) : Go11 N (stayK K l) h Hc c := by
  rcases Classical.em (StayOk K l) with e | e
  · rw [(stay_yes e).2]
    refine r.use (putEach_hok _ (fun x hx => ?_)) (((putEach_spec _).2 _).2 (by simp)) (((putEach_spec _).2 _).2 (by simp))
    have := e x hx
    rw [r.ok.len] at this
    exact this
  · rw [(stay_no e).2]
    exact r
structure Stay11 (N : Nat) (F : Int → ByteArray) (H : List Int) : Prop where
  hok : HOk (N - 111) H
  zero : (0 : Int) ∈ H
  one : (1 : Int) ∈ H
  used : ∀ t, F t ≠ .empty → t ∈ H ∧ t ≠ 1 ∧ (F t).size = 256
theorem Go11.mark (r : Go11 N K h Hc c) : Stay11 N K.F K.H := ⟨r.hok, r.ok.zero, r.ok.one, r.ok.used⟩
theorem Go11.back {F : Int → ByteArray} {H : List Int} (r : Go11 N K h Hc c) (a : Stay11 N F H) : Go11 N (backK K F H) h Hc c := r.with a.hok a.zero a.one a.used
theorem Go11.arm (r : Go11 N K h Hc c) {a : Int} (h0 : 0 ≤ a) (h1 : a ≤ 60) (keep : List Int) : Go11 N { K with S := K.S.arm a keep } h Hc c := by
  obtain ⟨s, b1, b2⟩ := r.held
  have hc := b1.armed h0 keep
  exact ⟨⟨s, hc, b2⟩, hc.ok, by show (K.S.arm a keep).left ≤ 60; rw [arm_left h0]; omega, by show (K.S.arm a keep).writes ≤ _; rw [arm_writes]; exact r.writes, ⟨by show (K.S.arm a keep).now.length = N; rw [hc.now]; exact b2.len, r.ok.dim, r.ok.zero, r.ok.one, r.ok.used⟩, r.hok, r.up, r.bad, r.kk, r.seq, r.syncs, r.kept, r.cok, r.c0, r.c1, r.room⟩
theorem lastO_map (f : Int → ByteArray) (L : List Int) (t : Int) : ∀ o, lastO (L.map fun t => (t, f t)) o t = if t ∈ L then some (f t) else o := by
  induction L with
  | nil => intro o; simp [lastO]
  | cons u r ih =>
    intro o
    rw [List.map_cons, lastO_cons, ih]
    by_cases e : u = t
    · subst e; simp
    · have e' : ¬ t = u := fun q => e q.symm
      simp [e, e']
theorem setI_pend (hl : h.length = N - 111) {t : Nat} (ht : t < N - 111) : (setI h (pendL K))[t]? = if (t : Int) ∈ pendT K then some (gF K (t : Int)) else h[t]? := by
  rw [setI_get (pendL K) t h (by rw [hl]; exact ht) (fun x hx => by
    unfold pendL at hx
    obtain ⟨u, hu, rfl⟩ := List.mem_map.1 hx
    exact (pendT_mem.1 hu).1.1)]
  exact lastO_map (gF K) (pendT K) (t : Int) _
theorem Go11.hlen (r : Go11 N K h Hc c) : h.length = N - 111 := r.now.1.hlen
theorem Go11.roomS (r : Go11 N K h Hc c) : roomS K = bs (roomT (N - 111) K.H) := by
  unfold Go.Proofs.YtiagofgcinlnhaaGreatDoor.roomS
  rw [r.ok.len]
theorem Go11.sector (r : Go11 N K h Hc c) : sector1 (setI h (pendL K)) = Go.Proofs.YtiagofgcinlnhaaGreatDoor.roomS K := by
  have hd := r.ok.dim
  unfold sector1
  rw [List.getD_eq_getElem?_getD, setI_pend r.hlen (t := 1) (by omega)]
  by_cases e : (1 : Int) ∈ pendT K
  · rw [if_pos (by exact e)]
    show gF K 1 = _
    unfold gF
    rw [if_pos rfl]
  · rw [if_neg (by exact e)]
    have h1 : Go.Proofs.YtiagofgcinlnhaaGreatDoor.roomS K = K.kept := by
      rcases Classical.em (Go.Proofs.YtiagofgcinlnhaaGreatDoor.roomS K = K.kept) with q | q
      · exact q
      · exact absurd (pendT_mem.2 ⟨by rw [r.ok.len]; omega, by unfold dirtyP; rw [if_pos rfl]; exact decide_eq_true q⟩) e
    rw [h1, r.kept, ← r.room]
    unfold sector1
    rw [List.getD_eq_getElem?_getD]
theorem commitR_left11 (S : DS) (q k : Int) (l : List Wr1) : (commitR S q k l).S.left ≤ S.left := by
  unfold commitR
  split
  · exact Nat.le_refl _
  · split
    · exact Nat.le_refl _
    · split
      · exact Nat.le_refl _
      · split
        · exact putS_left _ _
        · exact putS_left _ _
inductive SyncWays (N : Nat) (K : KD) (h : List ByteArray) (c : Nat) : Prop
  | large (e : syncE K = 21) (k : syncK K = K) (l : 110 < (pendT K).length)
  | done (e : syncE K = 0) (r : Go11 N (syncK K) (setI h (pendL K)) K.H (c + 1)) (hH : (syncK K).H = K.H) (hF : (syncK K).F = fun _ => .empty)
  | gone (Y : List ByteArray) (e : syncE K = 14) (b : (syncK K).bad = 14) (d : Dead (syncK K).S Y) (l : LeftQ N K.seq h (pendL K) (pendT K) Y) (w : (syncK K).S.writes ≤ 1000 * c + 300) (o : (syncK K).S.Ok)
theorem Go11.sync (r : Go11 N K h Hc c) (hc : c ≤ 1000) : SyncWays N K h c := by
  by_cases h0 : 110 < (pendL K).length
  · exact .large (by unfold syncE; rw [if_pos h0]) (by unfold syncK; rw [if_pos h0]) (by rw [← pendL_length]; exact h0)
  obtain ⟨s, b1, b2⟩ := r.held
  have hsec := r.sector
  have hrs := r.roomS
  have hw0 := r.writes
  have hkk := r.kk
  have hsq := r.seq
  have hsy := r.syncs
  have hdim := r.ok.dim
  have hW := commit_ways (k := K.k) (l := pendL K) b1 b2 (by omega)
  have hL := commitR_left11 K.S K.seq K.k (pendL K)
  obtain ⟨R, hR⟩ : ∃ R, R = commitR K.S K.seq K.k (pendL K) := ⟨_, rfl⟩
  have eE : syncE K = R.e := by unfold syncE; rw [if_neg h0, hR]
  have eK : syncK K = if R.e = 0 then { comK K R with kept := Go.Proofs.YtiagofgcinlnhaaGreatDoor.roomS K, F := fun _ => .empty, syncs := K.syncs + 1 } else if R.up = true then comK K R else { comK K R with bad := R.e } := by unfold syncK; rw [if_neg h0, hR]
  rw [← hR] at hW hL
  clear hR
  cases hW with
  | no e he hr =>
    rcases hr with hr | ⟨_, hr, _⟩
    · rw [pend_refE r.ok] at hr
      exact absurd hr.symm he
    · rw [← pend_once, ← pendL_length] at hr
      exact absurd hr h0
  | none hl =>
    have e1 : syncK K = { comK K ⟨K.S, K.seq, true, K.k, 0⟩ with kept := Go.Proofs.YtiagofgcinlnhaaGreatDoor.roomS K, F := fun _ => .empty, syncs := K.syncs + 1 } := by rw [eK]; rfl
    refine .done eE ?_ (by rw [e1]; rfl) (by rw [e1])
    rw [e1]
    have h1 : Held N K.seq (setI h (pendL K)) s := by rw [hl]; exact b2
    exact ⟨⟨s, b1, h1⟩, r.sok, r.left, Nat.le_trans hw0 (by omega), ⟨r.ok.len, hdim, r.ok.zero, r.ok.one, fun t ht => absurd rfl ht⟩, r.hok, rfl, r.bad, ⟨hkk.1, by show K.k ≤ _; omega⟩, by show K.seq ≤ _; omega, ⟨by show 0 ≤ K.syncs + 1; omega, by show K.syncs + 1 ≤ _; omega⟩, hrs, r.hok, r.ok.zero, r.ok.one, hsec.trans hrs⟩
  | done S' s' hp hr hf hcl hh hok hw =>
    have e1 : syncK K = { comK K ⟨S', K.seq + 1, true, K.k + 1, 0⟩ with kept := Go.Proofs.YtiagofgcinlnhaaGreatDoor.roomS K, F := fun _ => .empty, syncs := K.syncs + 1 } := by rw [eK]; rfl
    refine .done eE ?_ (by rw [e1]; rfl) (by rw [e1])
    rw [e1]
    exact ⟨⟨s', hcl, hh⟩, hok, Nat.le_trans hL r.left, by show S'.writes ≤ _; omega, ⟨by show S'.now.length = N; rw [hcl.now]; exact hh.len, hdim, r.ok.zero, r.ok.one, fun t ht => absurd rfl ht⟩, r.hok, rfl, r.bad, ⟨by show 0 ≤ K.k + 1; omega, by show K.k + 1 ≤ _; omega⟩, by show K.seq + 1 ≤ _; omega, ⟨by show 0 ≤ K.syncs + 1; omega, by show K.syncs + 1 ≤ _; omega⟩, hrs, r.hok, r.ok.zero, r.ok.one, hsec.trans hrs⟩
  | gone S' Y hp hr hf hd hh hok hw =>
    have e1 : syncK K = { comK K ⟨S', K.seq, false, K.k, 14⟩ with bad := 14 } := by rw [eK]; rfl
    rw [← pend_once] at hh
    refine .gone Y eE (by rw [e1]) (by rw [e1]; exact hd) hh (by rw [e1]; show S'.writes ≤ _; omega) (by rw [e1]; exact hok)
end
section
variable {w0 w w' : World} {g gd m N : Nat} {K K' : KD} {h : List ByteArray} {Hc : List Int} {c : Nat} {Ms : List MK} {P : List Nat}
theorem gmk_set (s : DMk w0 w g gd m N K Ms) (r : Go11 N K h Hc c) (hm : m < 1000000) (t : Int) {x : ByteArray} (hx : x.size ≤ 100000) :
    Calls Tryz.prog 12 #[.pointer (some ⟨g, 0, none⟩), .int .i64 t, .string x] w fun e w' => e = .returned (.int .i64 (setE K t x)) ∧ DMk w0 w' g gd (m + 1) N (setK K t x) Ms := by
  obtain ⟨P, h1, h2, h3, h4⟩ := s
  refine (kset_any t x h1 r.bad hm hx).mono ?_
  rintro e w' ⟨rfl, ht⟩
  exact ⟨rfl, DMk.turn h2 h3 h4 (Nat.le_succ _) ht⟩
theorem gmk_new (s : DMk w0 w g gd m N K Ms) (r : Go11 N K h Hc c) (hm : m < 1000000) {k : Nat} (hk : Least K.H k) {x : ByteArray} (hx : x.size ≤ 100000) :
    Calls Tryz.prog 13 #[.pointer (some ⟨g, 0, none⟩), .string x] w fun e w' =>
      (x.size ≠ 256 ∧ e = .returned (.tuple #[.int .i64 0, .int .i64 1]) ∧ DMk w0 w' g gd (m + 1) N K Ms) ∨
      (x.size = 256 ∧ k = N - 111 ∧ e = .returned (.tuple #[.int .i64 0, .int .i64 20]) ∧ DMk w0 w' g gd (m + 1) N K Ms) ∨
      (x.size = 256 ∧ k < N - 111 ∧ e = .returned (.tuple #[.int .i64 (k : Int), .int .i64 0]) ∧ DMk w0 w' g gd (m + 1) N (newK K k x) Ms) := by
  obtain ⟨P, h1, h2, h3, h4⟩ := s
  refine (knew_any x h1 r.bad hm hx hk).mono ?_
  have hl := r.ok.len
  rintro e w' (⟨hn, rfl, ht⟩ | ⟨hx, hn, rfl, ht⟩ | ⟨hx, hn, rfl, ht⟩)
  · exact .inl ⟨hn, rfl, DMk.turn h2 h3 h4 (Nat.le_succ _) ht⟩
  · exact .inr (.inl ⟨hx, by omega, rfl, DMk.turn h2 h3 h4 (Nat.le_succ _) ht⟩)
  · exact .inr (.inr ⟨hx, by omega, rfl, DMk.turn h2 h3 h4 (Nat.le_succ _) ht⟩)
theorem gmk_drop (s : DMk w0 w g gd m N K Ms) (r : Go11 N K h Hc c) (A : Option Addr) (q d : Nat) (l : List Int) (hl : l.length = q) (hx : Ints w w.heap.size A l) (hq : q ≤ 100000) :
    Calls Tryz.prog 17 #[.pointer (some ⟨g, 0, none⟩), .slice A q d] w fun e w' => e = .returned (.int .i64 (dropE K l)) ∧ DMk w0 w' g gd m N (dropK K l) Ms := by
  obtain ⟨P, h1, h2, h3, h4⟩ := s
  refine (kdrop_any A q d l h1 r.bad hl hx hq).mono ?_
  rintro e w' ⟨rfl, ht⟩
  exact ⟨rfl, DMk.turn h2 h3 h4 (Nat.le_refl _) ht⟩
theorem gmk_keep (s : DMk w0 w g gd m N K Ms) (r : Go11 N K h Hc c) (A : Option Addr) (q d : Nat) (l : List Int) (hl : l.length = q) (hx : Ints w w.heap.size A l) (hq : q ≤ 100000) (h0 : A = none → d = 0) :
    Calls Tryz.prog 19 #[.pointer (some ⟨g, 0, none⟩), .slice A q d] w fun e w' => e = .returned (.int .i64 (stayE K l)) ∧ DMk w0 w' g gd m N (stayK K l) Ms := by
  obtain ⟨P, h1, h2, h3, h4⟩ := s
  have a := r.ok.len
  have b := r.ok.dim
  refine (kkeep_any A q d l h1 r.bad (by omega) hl hx hq h0).mono ?_
  rintro e w' ⟨rfl, ht⟩
  exact ⟨rfl, DMk.turn h2 h3 h4 (Nat.le_refl _) ht⟩
theorem gmk_mark (s : DMk w0 w g gd m N K Ms) (r : Go11 N K h Hc c) :
    Calls Tryz.prog 20 #[.pointer (some ⟨g, 0, none⟩)] w fun e w' => ∃ st, e = .returned (.agg #[.pointer (some ⟨st, 0, none⟩)]) ∧ DMk w0 w' g gd m N K (.mark st K.syncs K.F K.H :: Ms) ∧ Below w.heap.size w w' := by
  obtain ⟨P, h1, h2, h3, h4⟩ := s
  refine (deskmark_any h1).mono ?_
  rintro e w' ⟨st, rfl, hk, hb⟩
  rw [r.ok.len] at hk
  obtain ⟨mb, rb, k1, k2, k3, k4, k5, k6⟩ := hk
  have hlt : ∀ b, w.heap.size ≤ b → b ∉ P := fun b hl hm => by have := h1.lt hm; omega
  refine ⟨st, rfl, ⟨P, h1.below hb, h2, h3.trans (hb.mono h3.size), fun M hM => ?_⟩, hb⟩
  rcases List.mem_cons.1 hM with rfl | hM
  · exact ⟨mb, rb, hlt _ k1, hlt _ k2, hlt _ k3, k4, k5, k6⟩
  · exact (h4 M hM).turn (fun b hb => .inl hb) (Keep.of_below hb) (Nat.le_refl _)
theorem gmk_back (s : DMk w0 w g gd m N K Ms) (r : Go11 N K h Hc c) {st : Nat} {sy : Int} {F : Int → ByteArray} {H : List Int} (hM : MK.mark st sy F H ∈ Ms) (hsy : sy = K.syncs) :
    Calls Tryz.prog 22 #[.pointer (some ⟨g, 0, none⟩), .agg #[.pointer (some ⟨st, 0, none⟩)]] w fun e w' => e = .returned (.tuple #[]) ∧ DMk w0 w' g gd m N (backK K F H) Ms := by
  obtain ⟨P, h1, h2, h3, h4⟩ := s
  have hk := (h4 _ hM).at
  rw [← r.ok.len] at hk
  refine (kback_any h1 hk hsy).mono ?_
  rintro e w' ⟨rfl, ht⟩
  exact ⟨rfl, DMk.turn h2 h3 h4 (Nat.le_refl _) ht⟩
theorem gmk_sync (s : DMk w0 w g gd m N K Ms) (r : Go11 N K h Hc c) (hc : c ≤ 1000) (hm : m < 1000000) :
    Calls Tryz.prog 23 #[.pointer (some ⟨g, 0, none⟩)] w fun e w' => e = .returned (.int .i64 (syncE K)) ∧ DMk w0 w' g gd m N (syncK K) Ms := by
  obtain ⟨P, h1, h2, h3, h4⟩ := s
  refine (ksync_any h1 r.ok (r.krun hc) hm).mono ?_
  rintro e w' ⟨rfl, ht⟩
  exact ⟨rfl, DMk.turn h2 h3 h4 (Nat.le_refl _) ht⟩
theorem gmk_bad (s : DMk w0 w g gd m N K Ms) : Calls Tryz.prog 26 #[.pointer (some ⟨g, 0, none⟩)] w fun e w' => e = .returned (.int .i64 K.bad) ∧ w' = w := by
  obtain ⟨P, h1, h2, h3, h4⟩ := s
  exact kbad_any h1
set_option maxRecDepth 100000 in
set_option maxHeartbeats 1000000 in
theorem gmk_down {e0 : Int} (s : DMk w0 w g gd m N K Ms) (hb : K.bad = e0) (h0 : e0 ≠ 0) : Calls Tryz.prog 23 #[.pointer (some ⟨g, 0, none⟩)] w fun e w' => e = .returned (.int .i64 e0) ∧ w' = w := by
  have HB := Lib.hid (gmk_bad s)
  rw [hb] at HB
  clear s hb
  go_enter Tryz.func23, Tryz.ntmps23
  go_wp2_with (go_at_call 26; refine HB.out.mono ?_; rintro e w1 ⟨rfl, rfl⟩)
  go_ret
  exact ⟨rfl, rfl⟩
theorem DeskAt.turned {S' : DS} {O : List Nat} {gw gm gr : Nat} (h : DeskIs w g gw gm gr gd m O K) (hl : S'.now.length = K.S.now.length) (ht : Turns O gd S' w w') : DTurns (g :: gw :: gm :: gr :: O) g gd m { K with S := S' } w w' := by
  obtain ⟨O', d1, d2, d3⟩ := ht
  obtain ⟨a1, a2, a3, a4, a5, a6, a7, a8, a9, a10⟩ := h.nodup
  have d3' : Keep (gw :: O) w w' := d3.mono (fun b hb => .inl (by simp [hb]))
  have hw : Blk w' gw 101 (walC gd K.seq K.up K.k) := h.wal.keep d3 a8
  have := h.commit (R := ⟨S', K.seq, K.up, K.k, 0⟩) hl d1 d2 d3' hw
  refine ⟨_, this.at, fun b hb => ?_, d3.mono (fun b hb => .inl (by simp [hb]))⟩
  simp only [List.mem_cons] at hb ⊢
  rcases hb with h | h | h | h | h
  · exact .inl (.inl h)
  · exact .inl (.inr (.inl h))
  · exact .inl (.inr (.inr (.inl h)))
  · exact .inl (.inr (.inr (.inr (.inl h))))
  · rcases d2 b h with h | h
    · exact .inl (.inr (.inr (.inr (.inr h))))
    · exact .inr h
theorem gmk_arm (s : DMk w0 w g gd m N K Ms) (a : Int) (A : Option Addr) (q d : Nat) (l : List Int) (hl : l.length = q) (hA : IntsD w A l) (h0 : A = none → q = 0 ∧ d = 0) (hq : q ≤ 1000000) (hS : (K.S.arm a l).now.length = K.S.now.length) :
    Calls Tryz.prog 31 #[.pointer (some ⟨gd, 0, none⟩), .int .i64 a, .slice A q d] w fun e w' => e = .returned (.tuple #[]) ∧ DMk w0 w' g gd m N { K with S := K.S.arm a l } Ms := by
  obtain ⟨P, ⟨gw, gm, gr, O, rfl, h1⟩, h2, h3, h4⟩ := s
  refine (darm_any a A q d l h1.disk hl hA h0 hq).mono ?_
  rintro e w' ⟨rfl, ht⟩
  exact ⟨rfl, DMk.turn h2 h3 h4 (Nat.le_refl _) (DeskAt.turned h1 hS ht)⟩
def DOff (w0 w : World) (gd : Nat) (S : DS) (Ms : List MK) : Prop :=
  ∃ O, DiskAt w O gd S ∧ (∀ b ∈ O, w0.heap.size ≤ b) ∧ Below w0.heap.size w0 w ∧ ∀ M ∈ Ms, ∃ b o, M = MK.held b o ∧ b ∉ O ∧ w.heap[b]? = some o
theorem DMk.off (s : DMk w0 w g gd m N K Ms) (hM : ∀ M ∈ Ms, ∃ b o, M = MK.held b o) : DOff w0 w gd K.S Ms := by
  obtain ⟨P, ⟨gw, gm, gr, O, rfl, h1⟩, h2, h3, h4⟩ := s
  refine ⟨O, h1.disk, fun b hb => h2 b (by simp [hb]), h3, fun M hm => ?_⟩
  obtain ⟨b, o, rfl⟩ := hM M hm
  obtain ⟨k1, k2⟩ := h4 _ hm
  exact ⟨b, o, rfl, fun hb => k1 (by simp [hb]), k2⟩
theorem DOff.turn {S S' : DS} {O : List Nat} (h2 : ∀ b ∈ O, w0.heap.size ≤ b) (h3 : Below w0.heap.size w0 w) (h4 : ∀ M ∈ Ms, ∃ b o, M = MK.held b o ∧ b ∉ O ∧ w.heap[b]? = some o) (_ : DiskAt w O gd S) (ht : Turns O gd S' w w') : DOff w0 w' gd S' Ms := by
  obtain ⟨O', d1, d2, d3⟩ := ht
  refine ⟨O', d1, fun b hb => ?_, h3.trans (d3.below h2 h3.size), fun M hM => ?_⟩
  · rcases d2 b hb with h | h
    · exact h2 b h
    · exact Nat.le_trans h3.size h
  · obtain ⟨b, o, rfl, k1, k2⟩ := h4 M hM
    refine ⟨b, o, rfl, fun hb => ?_, (d3.block b (heap_lt k2) k1).trans k2⟩
    rcases d2 b hb with h | h
    · exact k1 h
    · have := heap_lt k2; omega
theorem DOff.below {S : DS} (s : DOff w0 w gd S Ms) (hb : Below w.heap.size w w') : DOff w0 w' gd S Ms := by
  obtain ⟨O, h1, h2, h3, h4⟩ := s
  exact DOff.turn h2 h3 h4 h1 ⟨O, h1.below hb, fun b hb => .inl hb, Keep.of_below hb⟩
theorem doff_on {S : DS} (s : DOff w0 w gd S Ms) : Calls Tryz.prog 25 #[.pointer (some ⟨gd, 0, none⟩)] w fun e w' => e = .returned (.bool S.on) ∧ w = w' := by
  obtain ⟨O, h1, h2, h3, h4⟩ := s
  exact don_any h1
theorem doff_restore {S : DS} (s : DOff w0 w gd S Ms) : Calls Tryz.prog 27 #[.pointer (some ⟨gd, 0, none⟩)] w fun e w' => e = .returned (.tuple #[]) ∧ DOff w0 w' gd S.restore Ms := by
  obtain ⟨O, h1, h2, h3, h4⟩ := s
  refine (drestore_any h1).mono ?_
  rintro e w' ⟨rfl, ht⟩
  exact ⟨rfl, DOff.turn h2 h3 h4 h1 ht⟩
theorem doff_crash {S : DS} (s : DOff w0 w gd S Ms) (A : Option Addr) (q d : Nat) (l : List Int) (hok : S.Ok) (hl : l.length = q) (hA : IntsD w A l) (hfar : 0 < l.length → ∀ a, A = some a → a.block < w0.heap.size) :
    Calls Tryz.prog 30 #[.pointer (some ⟨gd, 0, none⟩), .slice A q d] w fun e w' => e = .returned (.int .i64 (S.lost l : Int)) ∧ DOff w0 w' gd (S.crash l) Ms := by
  obtain ⟨O, h1, h2, h3, h4⟩ := s
  refine (dcrash_any A q d l h1 hok hl hA (fun hp a e hm => by have := hfar hp a e; have := h2 _ hm; omega)).mono ?_
  rintro e w' ⟨rfl, ht⟩
  exact ⟨rfl, DOff.turn h2 h3 h4 h1 ht⟩
theorem doff_open {S : DS} {q : Int} {cc : Nat} (s : DOff w0 w gd S Ms) (hS : ∃ Y n, S = calm Y n ∧ n ≤ 1000 * cc ∧ (Held N q h Y ∨ ∃ T, Fulls N q h T Y)) (hcc : cc ≤ 1000) (hq : q ≤ cc + 1) (hok : HOk (N - 111) Hc) (h0 : (0 : Int) ∈ Hc) (h1 : (1 : Int) ∈ Hc) (hX : sector1 h = bs (roomT (N - 111) Hc)) :
    Calls Tryz.prog 28 #[.pointer (some ⟨gd, 0, none⟩)] w fun e w' => ∃ g K, e = .returned (.tuple #[.pointer (some ⟨g, 0, none⟩), .int .i64 0]) ∧ DMk w0 w' g gd 0 N K Ms ∧ Go11 N K h Hc (cc + 1) ∧ K.F = (fun _ => .empty) ∧ K.H = Hc ∧ K.syncs = 0 ∧ w.heap.size ≤ g := by
  obtain ⟨O, d1, d2, d3, d4⟩ := s
  obtain ⟨Y, n, rfl, hn, hY⟩ := hS
  have key : ∃ Z n', n' ≤ 1000 * (cc + 1) ∧ Held N q h Z ∧ Calls Tryz.prog 57 #[.pointer (some ⟨gd, 0, none⟩)] w fun e w' => ∃ gw, e = .returned (.tuple #[.pointer (some ⟨gw, 0, none⟩), .int .i64 0]) ∧ OpenedAt O gd gw (calm Z n') q w w' := by
    rcases hY with hY | ⟨T, hY⟩
    · exact ⟨Y, n, by omega, hY, open_held d1 rfl hY⟩
    · have := hY.few
      exact ⟨redoS Y q T, n + (T.length + 1), by omega, hY.redone, wopen_full d1 hY.ok hY.valid hY.head (by omega)⟩
  obtain ⟨Z, n', hn', hZ, hO⟩ := key
  have hdim := hZ.dim
  have hR : readR (sector1 h).data.toList = (N - 111, Hc, 0) := by
    rw [hX]
    exact readR_laid hok (by omega) (by omega)
  refine (kopen_go (S := calm Z n') rfl hZ h0 h1 hR hX hO).mono ?_
  rintro e w' ⟨g, rfl, P', k1, k2, k3, k4⟩
  have hlen : (calm Z n').now.length = N := hZ.len
  have hsq := hZ.seq
  refine ⟨g, openK (calm Z n') q Hc, rfl, ⟨P', k1, fun b hb => ?_, d3.trans (k3.below d2 d3.size), fun M hM => ?_⟩, ?_, rfl, rfl, rfl, k4⟩
  · rcases k2 b hb with h | h
    · exact d2 b h
    · exact Nat.le_trans d3.size h
  · obtain ⟨b, o, rfl, a1, a2⟩ := d4 M hM
    refine ⟨fun hb => ?_, (k3.block b (heap_lt a2) a1).trans a2⟩
    rcases k2 b hb with h | h
    · exact a1 h
    · have := heap_lt a2; omega
  · exact ⟨⟨Z, clean_calm Z n', hZ⟩, calm_ok _ _, by show 0 ≤ 60; omega, hn', ⟨hlen, hdim, h0, h1, fun t ht => absurd rfl ht⟩, hok, rfl, rfl, ⟨by show (0 : Int) ≤ 0; omega, by show (0 : Int) ≤ _; omega⟩, by show q ≤ _; omega, ⟨by show (0 : Int) ≤ 0; omega, by show (0 : Int) ≤ _; omega⟩, by show bs (roomT ((calm Z n').now.length - 111) Hc) = _; rw [hlen], hok, h0, h1, hX⟩
end
end Go.Proofs.YtiagofgcinlnhaaGreatDoor
