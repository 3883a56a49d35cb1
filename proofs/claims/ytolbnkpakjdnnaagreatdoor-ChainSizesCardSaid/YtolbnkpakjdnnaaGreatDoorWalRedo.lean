/-
  Package wal: redo, and Open of a disk whose head is full. No statement is proved here.
-/
import Derived.Test.YtolbnkpakjdnnaaGreatDoorWalCommit
import Derived.Test.YtolbnkpakjdnnaaGreatDoorViews
import Derived.Test.YtolbnkpakjdnnaaGreatDoorWalSmall
import Derived.Test.YtolbnkpakjdnnaaGreatDoorHeadReadAny
namespace Go.Proofs.YtolbnkpakjdnnaaGreatDoor
open Go.RowKit

def setI (s : List ByteArray) (g : List Wr1) : List ByteArray := g.foldl (fun s x => s.set x.1.toNat x.2) s
theorem setI_length (g : List Wr1) : ∀ s, (setI s g).length = s.length := by
  induction g with
  | nil => intro s; rfl
  | cons x r ih => intro s; show (setI (s.set x.1.toNat x.2) r).length = _; rw [ih]; simp
theorem setI_cons (s : List ByteArray) (x : Wr1) (r : List Wr1) : setI s (x :: r) = setI (s.set x.1.toNat x.2) r := rfl
theorem setI_far (g : List Wr1) {i : Nat} : ∀ s, (∀ x ∈ g, x.1.toNat ≠ i) → (setI s g)[i]? = s[i]? := by
  induction g with
  | nil => intro s _; rfl
  | cons x r ih =>
    intro s h
    rw [setI_cons, ih _ (fun y hy => h y (by simp [hy])), List.getElem?_set_ne (h x (by simp))]
theorem setI_small (g : List Wr1) (B : Nat) : ∀ s, (∀ x ∈ g, x.2.size ≤ B) → (∀ x ∈ s, x.size ≤ B) → ∀ x ∈ setI s g, x.size ≤ B := by
  induction g with
  | nil => intro s _ h; exact h
  | cons x r ih =>
    intro s h1 h2
    rw [setI_cons]
    refine ih _ (fun y hy => h1 y (by simp [hy])) (fun y hy => ?_)
    rcases List.mem_or_eq_of_mem_set hy with h | h
    · exact h2 y h
    · rw [h]; exact h1 x (by simp)

/-- A disk with power, unarmed: sectors now, those that are safe, what is dirty, how many writes. -/
def warm (s0 s : List ByteArray) (d : List (Nat × ByteArray)) (n : Nat) : DS := ⟨s, s0, d, true, n, false, 0, []⟩
def calm (s : List ByteArray) (n : Nat) : DS := warm s s [] n
theorem calm_ok (s : List ByteArray) (n : Nat) : (calm s n).Ok := ⟨rfl, (by intro w hw; cases hw)⟩
/-- Writes that may be. -/
def Fit (N : Nat) (g : List Wr1) : Prop := ∀ x ∈ g, 0 ≤ x.1 ∧ x.1 < (N : Int) ∧ x.2.size = 256
theorem warm_writeL (s0 : List ByteArray) (g : List Wr1) : ∀ s d n, Fit s.length g → (warm s0 s d n).errL g = 0 ∧ ∃ d', (warm s0 s d n).writeL g = warm s0 (setI s g) d' (n + g.length) := by
  induction g with
  | nil => intro s d n _; exact ⟨rfl, d, rfl⟩
  | cons x r ih =>
    intro s d n h
    obtain ⟨h1, h2, h3⟩ := h x (by simp)
    have e1 : (warm s0 s d n).err1 x.1 x.2 = 0 := by
      unfold DS.err1
      rw [if_pos ⟨h1, by exact h2⟩, if_pos h3]
      rfl
    have e2 : (warm s0 s d n).write1 x.1 x.2 = warm s0 (s.set x.1.toNat x.2) (d ++ [(x.1.toNat, x.2)]) (n + 1) := by
      unfold DS.write1
      rw [if_pos ⟨h1, h2, h3⟩]
      rfl
    obtain ⟨i1, d', i2⟩ := ih (s.set x.1.toNat x.2) (d ++ [(x.1.toNat, x.2)]) (n + 1) (fun y hy => by rw [List.length_set]; exact h y (by simp [hy]))
    constructor
    · rw [DS.errL, if_pos e1, e2]
      exact i1
    · refine ⟨d', ?_⟩
      rw [DS.writeL, if_pos e1, e2, i2, setI_cons, List.length_cons, show n + 1 + r.length = n + (r.length + 1) by omega]
theorem calm_group (s : List ByteArray) (n : Nat) (g : List Wr1) (h : Fit s.length g) : (calm s n).errW g = 0 ∧ ((calm s n).write g).errF = 0 ∧ ((calm s n).write g).flush = calm (setI s g) (n + g.length) := by
  obtain ⟨h1, d, h2⟩ := warm_writeL s g s [] n h
  have w1 : (calm s n).errW g = 0 := by
    unfold DS.errW
    rw [if_pos (show (calm s n).on = true from rfl)]
    exact h1
  have w2 : (calm s n).write g = warm s (setI s g) d (n + g.length) := by
    unfold DS.write
    rw [if_pos (show (calm s n).on = true from rfl)]
    exact h2
  rw [w2]
  exact ⟨w1, rfl, rfl⟩
theorem calm_put (G : List (List Wr1)) : ∀ s n, (∀ g ∈ G, Fit s.length g) → putE (calm s n) G = 0 ∧ putS (calm s n) G = calm (G.foldl setI s) (n + sumL G) := by
  induction G with
  | nil => intro s n _; exact ⟨rfl, rfl⟩
  | cons g r ih =>
    intro s n h
    obtain ⟨h1, h2, h3⟩ := calm_group s n g (h g (by simp))
    obtain ⟨i1, i2⟩ := ih (setI s g) (n + g.length) (fun g' hg' => by rw [setI_length]; exact h g' (by simp [hg']))
    constructor
    · rw [putE, if_pos h1, if_pos h2, h3]
      exact i1
    · rw [putS, if_pos h1, if_pos h2, h3, i2]
      have e : sumL (g :: r) = g.length + sumL r := rfl
      rw [e, show n + g.length + sumL r = n + (g.length + sumL r) by omega]
      rfl

theorem setI_home (l : List Wr1) (ts : List Int) {t : Int} : ∀ s : List ByteArray, t ∈ ts → 0 ≤ t → (111 + t).toNat < s.length → (∀ u ∈ ts, 0 ≤ u) → (setI s (homeL l ts))[(111 + t).toNat]? = some (lastB l t) := by
  induction ts with
  | nil => intro s h; cases h
  | cons u r ih =>
    intro s h h0 h1 h2
    have e : homeL l (u :: r) = (111 + u, lastB l u) :: homeL l r := rfl
    rw [e, setI_cons]
    by_cases hr : t ∈ r
    · exact ih _ hr h0 (by simpa using h1) (fun v hv => h2 v (by simp [hv]))
    · have htu : t = u := by
        rcases List.mem_cons.1 h with h | h
        · exact h
        · exact absurd h hr
      subst htu
      rw [setI_far (homeL l r) _ (fun x hx => ?_), List.getElem?_set_self h1]
      unfold homeL at hx
      obtain ⟨v, hv, rfl⟩ := List.mem_map.1 hx
      have := h2 v (by simp [hv])
      simp only
      intro e
      have : v = t := by omega
      exact hr (this ▸ hv)
theorem copies_at (l : List Wr1) (ts : List Int) : ∀ k, ∀ x ∈ copiesL l k ts, ∃ (j : Nat) (t : Int), x = (1 + (j : Int), lastB l t) ∧ k ≤ j ∧ j < k + ts.length ∧ t ∈ ts := by
  induction ts with
  | nil => intro k x hx; cases hx
  | cons t r ih =>
    intro k x hx
    rcases List.mem_cons.1 hx with rfl | hx
    · exact ⟨k, t, rfl, Nat.le_refl _, by simp, by simp⟩
    · obtain ⟨j, u, e, h1, h2, h3⟩ := ih (k + 1) x hx
      exact ⟨j, u, e, by omega, by simp only [List.length_cons]; omega, by simp [h3]⟩
theorem home_at (l : List Wr1) (ts : List Int) {x : Wr1} (h : x ∈ homeL l ts) : ∃ t ∈ ts, x = (111 + t, lastB l t) := by
  unfold homeL at h
  obtain ⟨t, ht, rfl⟩ := List.mem_map.1 h
  exact ⟨t, ht, rfl⟩
theorem lastB_size {l : List Wr1} {t : Int} (h : t ∈ l.map Prod.fst) (hs : ∀ x ∈ l, x.2.size = 256) : (lastB l t).size = 256 := by
  obtain ⟨i, x, _, _, hx, _, e⟩ := lastM_all l h
  rw [← e]
  exact hs x (List.mem_of_getElem? hx)

/-- What is laid in all when nothing goes wrong. -/
def doneB (seq : Int) : ByteArray := bs (HD.mk seq false []).text
def fullB (seq : Int) (T : List Int) : ByteArray := bs (HD.mk seq true T).text
def doneS (s : List ByteArray) (seq : Int) (l : List Wr1) (T : List Int) : List ByteArray := (groupsL seq l T).foldl setI s
theorem doneB_size {q : Int} (h0 : 0 ≤ q) (h1 : q ≤ 1099511627776) : (doneB q).size = 256 := by
  unfold doneB; rw [bs_size, (HD.valid_of (valid_done h0 h1)).text_len]
structure CommitOk (N : Nat) (seq : Int) (l : List Wr1) (T : List Int) : Prop where
  eq : T = putOnce (l.map Prod.fst)
  dim : 111 ≤ N ∧ N ≤ 2000
  few : T.length ≤ 110
  pos : 0 < l.length
  ok : refE ((N : Int) - 111) l = 0
  seqb : 0 ≤ seq ∧ seq < 1099511627776
namespace CommitOk
variable {N : Nat} {seq : Int} {l : List Wr1} {T : List Int}
theorem mem (h : CommitOk N seq l T) (t : Int) : t ∈ T ↔ t ∈ l.map Prod.fst := by rw [h.eq]; exact (putOnce_spec _).2 t
theorem range (h : CommitOk N seq l T) : ∀ t ∈ T, 0 ≤ t ∧ 111 + t < (N : Int) := fun t ht => by
  obtain ⟨x, hx, rfl⟩ := List.mem_map.1 ((h.mem t).1 ht)
  have := refE_ok h.ok x hx
  omega
theorem size (h : CommitOk N seq l T) : ∀ t ∈ T, (lastB l t).size = 256 := fun t ht => lastB_size ((h.mem t).1 ht) (fun x hx => (refE_ok h.ok x hx).2.2)
theorem valid (h : CommitOk N seq l T) : (HD.mk (seq + 1) true T).validB = true := by
  have hN := h.dim
  have := valid_next (l := l.map Prod.fst) h.seqb.1 h.seqb.2 (by rw [List.length_map]; exact h.pos) (fun x hx => by
    obtain ⟨y, hy, rfl⟩ := List.mem_map.1 hx
    have := refE_ok h.ok y hy
    omega) (by rw [← h.eq]; exact h.few)
  rw [← h.eq] at this
  exact this
theorem fits (h : CommitOk N seq l T) : ∀ g ∈ groupsL seq l T, Fit N g := by
  intro g hg x hx
  have hN := h.dim
  unfold groupsL at hg
  simp only [List.mem_cons, List.not_mem_nil, or_false] at hg
  rcases hg with rfl | rfl | rfl | rfl
  · obtain ⟨j, t, rfl, h1, h2, h3⟩ := copies_at l T 0 x hx
    have := h.few
    exact ⟨by simp only; omega, by simp only; omega, h.size t h3⟩
  · rw [List.mem_singleton.1 hx]
    exact ⟨by simp, by simp only; omega, by show (bs _).size = 256; rw [bs_size, (HD.valid_of h.valid).text_len]⟩
  · obtain ⟨t, ht, rfl⟩ := home_at l T hx
    have := h.range t ht
    exact ⟨by simp only; omega, by simp only; omega, h.size t ht⟩
  · rw [List.mem_singleton.1 hx]
    exact ⟨by simp, by simp only; omega, by show (bs _).size = 256; rw [bs_size, (HD.valid_of (valid_done (by have := h.seqb; omega) (by have := h.seqb; omega))).text_len]⟩
theorem done_len (s : List ByteArray) (seq : Int) (l : List Wr1) (T : List Int) : (doneS s seq l T).length = s.length := by
  unfold doneS groupsL
  simp only [List.foldl_cons, List.foldl_nil, setI_length]
theorem done_head (h : CommitOk N seq l T) (s : List ByteArray) (hs : s.length = N) : (doneS s seq l T)[0]? = some (doneB (seq + 1)) := by
  have hN := h.dim
  unfold doneS groupsL
  simp only [List.foldl_cons, List.foldl_nil]
  rw [setI_cons]
  show (setI _ [])[0]? = _
  show ((setI _ _).set 0 _)[0]? = _
  rw [List.getElem?_set_self (by simp only [setI_length]; omega)]
  rfl
theorem done_at (h : CommitOk N seq l T) (s : List ByteArray) (hs : s.length = N) {t : Int} (ht : 0 ≤ t) (htN : 111 + t < (N : Int)) : (doneS s seq l T)[(111 + t).toNat]? = if t ∈ T then some (lastB l t) else s[(111 + t).toNat]? := by
  have hN := h.dim
  unfold doneS groupsL
  simp only [List.foldl_cons, List.foldl_nil]
  rw [setI_far [(0, _)] _ (fun x hx => by rw [List.mem_singleton.1 hx]; simp only; omega)]
  by_cases hm : t ∈ T
  · rw [if_pos hm, setI_home l T _ hm ht (by simp only [setI_length]; omega) (fun u hu => (h.range u hu).1)]
  · rw [if_neg hm, setI_far (homeL l T) _ (fun x hx => ?_), setI_far [(0, _)] _ (fun x hx => by rw [List.mem_singleton.1 hx]; simp only; omega), setI_far (copiesL l 0 T) _ (fun x hx => ?_)]
    · obtain ⟨j, u, rfl, h1, h2, h3⟩ := copies_at l T 0 x hx
      have := h.few
      simp only
      omega
    · obtain ⟨u, hu, rfl⟩ := home_at l T hx
      have := h.range u hu
      simp only
      intro e
      have : u = t := by omega
      exact hm (this ▸ hu)
theorem done_small (h : CommitOk N seq l T) (s : List ByteArray) (hz : ∀ x ∈ s, x.size = 256) : ∀ x ∈ doneS s seq l T, x.size ≤ 256 := by
  have hf := h.fits
  have step : ∀ (g : List Wr1) (s : List ByteArray), Fit N g → (∀ x ∈ s, x.size ≤ 256) → ∀ x ∈ setI s g, x.size ≤ 256 := fun g s hg hs => setI_small g 256 s (fun x hx => by have := (hg x hx).2.2; omega) hs
  unfold doneS groupsL
  unfold groupsL at hf
  simp only [List.foldl_cons, List.foldl_nil]
  refine step _ _ (hf _ (by simp)) (step _ _ (hf _ (by simp)) (step _ _ (hf _ (by simp)) (step _ _ (hf _ (by simp)) (fun x hx => by rw [hz x hx]; omega))))
theorem run (h : CommitOk N seq l T) (s : List ByteArray) (hs : s.length = N) (n : Nat) (k : Int) :
    commitR (calm s n) seq k l = ⟨calm (doneS s seq l T) (n + (2 * T.length + 2)), seq + 1, true, k + 1, 0⟩ := by
  obtain ⟨p1, p2⟩ := calm_put (groupsL seq l T) s n (fun g hg => by rw [hs]; exact h.fits g hg)
  have hl : (calm s n).now.length = N := hs
  unfold commitR
  rw [hl, if_neg (fun hh => hh h.ok), if_neg (by have := h.pos; omega), ← h.eq, if_neg (by have := h.few; omega), if_pos p1, p2]
  have e : sumL (groupsL seq l T) = 2 * T.length + 2 := by
    unfold groupsL sumL
    simp only [List.foldr_cons, List.foldr_nil, copiesL_length, homeL_length, List.length_cons, List.length_nil]
    omega
  rw [e]
  rfl
end CommitOk
end Go.Proofs.YtolbnkpakjdnnaaGreatDoor

namespace Go.Proofs.YtolbnkpakjdnnaaGreatDoor
open Go.RowKit

set_option maxRecDepth 100000 in
set_option maxHeartbeats 1000000 in
theorem wopen_nil (w : World) : Calls Tryz.prog 85 #[.pointer none] w fun e w' => e = .returned (.tuple #[.pointer none, .int .i64 1]) ∧ w = w' := by
  go_enter Tryz.func85, Tryz.ntmps85
  go_wp2_with fail
  go_ret2
  exact ⟨rfl, rfl⟩

section
variable {w : World} {gd : Nat} {O : List Nat} {S : DS}
set_option maxRecDepth 100000 in
set_option maxHeartbeats 1000000 in
theorem wopen_off (hd : DiskAt w O gd S) (hz : ∀ x ∈ S.now, x.size ≤ 100000) (hon : S.on = false) :
    Calls Tryz.prog 85 #[.pointer (some ⟨gd, 0, none⟩)] w fun e w' => e = .returned (.tuple #[.pointer none, .int .i64 14]) ∧ Below w.heap.size w w' := by
  have HR : Hid (Calls Tryz.prog 106 #[.pointer (some ⟨gd, 0, none⟩), .int .i64 0] w fun e w' => ∃ X, e = .returned (.tuple #[.string X, .int .i64 14]) ∧ Below w.heap.size w w') := Lib.hid (by
    refine (dread_any 0 hd hz).mono ?_
    rintro e w' ⟨rfl, hb⟩
    exact ⟨_, by unfold DS.errR; rw [hon]; rfl, hb⟩)
  clear hd hz hon
  go_enter Tryz.func85, Tryz.ntmps85
  go_wp2_with fail
  refine HR.out.mono ?_
  rintro e w1 ⟨X, rfl, hb1⟩
  go_wp2_with fail
  go_ret2
  exact ⟨rfl, hb1⟩

set_option maxRecDepth 100000 in
set_option maxHeartbeats 2000000 in
theorem wopen_bad (hd : DiskAt w O gd S) (hz : ∀ x ∈ S.now, x.size ≤ 100000) (hon : S.on = true) (h1 : 0 < S.now.length) {b : ByteArray} (hb : S.read 0 = b) (hbad : (readHD b.data.toList).2 ≠ 0) :
    Calls Tryz.prog 85 #[.pointer (some ⟨gd, 0, none⟩)] w fun e w' => e = .returned (.tuple #[.pointer none, .int .i64 25]) ∧ Below w.heap.size w w' := by
  have HR : Hid (Calls Tryz.prog 106 #[.pointer (some ⟨gd, 0, none⟩), .int .i64 0] w fun e w' => e = .returned (.tuple #[.string b, .int .i64 0]) ∧ Below w.heap.size w w') := Lib.hid (by
    refine (dread_any 0 hd hz).mono ?_
    rintro e w' ⟨rfl, hb2⟩
    refine ⟨?_, hb2⟩
    rw [hb]
    unfold DS.errR
    rw [if_pos hon, if_pos ⟨by omega, by omega⟩])
  obtain ⟨K, hK⟩ : ∃ K, K = (readHD b.data.toList).2 := ⟨_, rfl⟩
  have HRD : Hid (∀ W, Calls Tryz.prog 129 #[.string b] W fun e w' => ∃ s f A n c, e = .returned (.tuple #[.agg #[.int .i64 s, .bool f, .slice A n c], .int .i64 K]) ∧ Below W.heap.size W w') := Lib.hid (fun W => by
    refine (hread_own b W).mono ?_
    rintro e w' ⟨A, c, rfl, -, -, h3⟩
    rw [← hK]
    exact ⟨_, _, A, _, c, rfl, h3⟩)
  rw [← hK] at hbad
  have hbb : (K != 0) = true := bne_iff_ne.2 hbad
  clear hd hz hon h1 hb hK
  go_enter Tryz.func85, Tryz.ntmps85
  go_wp2_with fail
  refine HR.out.mono ?_
  rintro e w1 ⟨rfl, hb1⟩
  have HB1 := Lib.hid hb1
  clear hb1
  go_wp2_with fail
  refine (HRD.out _).mono ?_
  rintro e w2 ⟨s, f, A, n, c, rfl, hb2⟩
  have HB2 := Lib.hid (HB1.out.trans (hb2.mono HB1.out.size))
  clear hb2
  go_wp2_with fail
  go_ret2
  exact ⟨rfl, HB2.out.alloc HB2.out.size _⟩

set_option maxRecDepth 100000 in
set_option maxHeartbeats 2000000 in
theorem wopen_plain (hd : DiskAt w O gd S) (hz : ∀ x ∈ S.now, x.size ≤ 100000) (hon : S.on = true) (h1 : 0 < S.now.length) {b : ByteArray} (hb : S.read 0 = b) {q : Int}
    (hRD : ∀ W, Calls Tryz.prog 129 #[.string b] W fun e w' => ∃ A c, e = .returned (.tuple #[.agg #[.int .i64 q, .bool false, .slice A 0 c], .int .i64 0]) ∧ Below W.heap.size W w') :
    Calls Tryz.prog 85 #[.pointer (some ⟨gd, 0, none⟩)] w fun e w' => ∃ gw, e = .returned (.tuple #[.pointer (some ⟨gw, 0, none⟩), .int .i64 0]) ∧ Blk w' gw 163 (walC gd q true 0) ∧ w.heap.size ≤ gw ∧ Below w.heap.size w w' := by
  have HR : Hid (Calls Tryz.prog 106 #[.pointer (some ⟨gd, 0, none⟩), .int .i64 0] w fun e w' => e = .returned (.tuple #[.string b, .int .i64 0]) ∧ Below w.heap.size w w') := Lib.hid (by
    refine (dread_any 0 hd hz).mono ?_
    rintro e w' ⟨rfl, hb2⟩
    refine ⟨?_, hb2⟩
    rw [hb]
    unfold DS.errR
    rw [if_pos hon, if_pos ⟨by omega, by omega⟩])
  have HRD := Lib.hid hRD
  have HDN : Hid (∀ W A c, Calls Tryz.prog 126 #[.agg #[.int .i64 q, .bool false, .slice A 0 c]] W fun e w' => e = .returned (.agg #[.int .i64 q, .bool false, .slice none 0 0]) ∧ Below W.heap.size W w') := Lib.hid (fun W A c => hdone_any (HD.mk q false []) A c W)
  clear hd hz hon h1 hb hRD
  go_enter Tryz.func85, Tryz.ntmps85
  go_wp2_with fail
  refine HR.out.mono ?_
  rintro e w1 ⟨rfl, hb1⟩
  have HB1 := Lib.hid hb1
  clear hb1
  go_wp2_with fail
  refine (HRD.out _).mono ?_
  rintro e w2 ⟨A, c, rfl, hb2⟩
  have HB2 := Lib.hid (HB1.out.trans (hb2.mono HB1.out.size))
  clear hb2
  go_upto_region 9 with fail
  obtain ⟨w3, hw3⟩ : ∃ w3, w3 = w2.alloc (.cells #[.int .i64 q, .bool false, .slice A 0 c] 161) := ⟨_, rfl⟩
  obtain ⟨g6, hg6⟩ : ∃ g6, g6 = w2.heap.size := ⟨_, rfl⟩
  rw [← hw3, ← hg6]
  have HH3 : Hid (Blk w3 g6 161 #[.int .i64 q, .bool false, .slice A 0 c]) := Lib.hid (by rw [hw3, hg6]; exact Blk.new w2 _ _)
  have HB3 : Hid (Below w.heap.size w w3) := Lib.hid (by rw [hw3]; exact HB2.out.alloc HB2.out.size _)
  have c0 := HH3.out.cell 0
  have c1 := HH3.out.cell 1
  have c2 := HH3.out.cell 2
  simp at c0 c1 c2
  clear hw3 hg6
  go_wp2_with fail
  refine (HDN.out _ A c).mono ?_
  rintro e w4 ⟨rfl, hb4⟩
  have HH4 := Lib.hid (HH3.out.below hb4 HH3.out.lt)
  have HB4 := Lib.hid (HB3.out.trans (hb4.mono HB3.out.size))
  clear hb4 c0 c1 c2
  go_upto_region 10 with fail
  obtain ⟨w5, hw5⟩ : ∃ w5, w5 = w4.alloc (.cells (walC gd q true 0) 163) := ⟨_, rfl⟩
  obtain ⟨gw, hgw⟩ : ∃ gw, gw = w4.heap.size := ⟨_, rfl⟩
  unfold walC at hw5
  rw [← hw5, ← hgw]
  have HH5 : Hid (Blk w5 gw 163 (walC gd q true 0)) := Lib.hid (by rw [hw5, hgw]; exact Blk.new w4 _ _)
  have HB5 : Hid (Below w.heap.size w w5) := Lib.hid (by rw [hw5]; exact HB4.out.alloc HB4.out.size _)
  have HG5 : Hid (w.heap.size ≤ gw) := Lib.hid (by rw [hgw]; exact HB4.out.size)
  have c1 : w5.cell? ⟨g6, 1, none⟩ = some (.bool false) := by
    have := (HH4.out.below ((Below.refl _ _).alloc (Nat.le_refl _) (.cells (walC gd q true 0) 163)) HH4.out.lt).cell 1
    unfold walC at this
    rw [← hw5] at this
    exact this
  clear hw5 hgw
  go_wp2_with fail
  go_ret2
  exact ⟨gw, rfl, HH5.out, HG5.out, HB5.out⟩
end

theorem read_zero (W : World) : Calls Tryz.prog 129 #[.string (zeroB 256)] W fun e w' => ∃ A c, e = .returned (.tuple #[.agg #[.int .i64 0, .bool false, .slice A 0 c], .int .i64 0]) ∧ Below W.heap.size W w' := by
  have hH : readHD (zeroB 256).data.toList = (HD.mk 0 false [], 0) := by
    have e : (zeroB 256).data.toList = List.replicate 256 0 := zeroB_list 256
    rw [e]
    unfold readHD
    rw [if_neg (fun h => h List.length_replicate), if_pos (List.all_eq_true.2 (fun x hx => by rw [List.eq_of_mem_replicate hx]; rfl))]
    rfl
  refine (hread_own (zeroB 256) W).mono ?_
  rw [hH]
  rintro e w' ⟨A, c, rfl, -, -, h3⟩
  exact ⟨A, c, rfl, h3⟩
theorem read_done {q : Int} (h0 : 0 ≤ q) (h1 : q ≤ 1099511627776) (W : World) : Calls Tryz.prog 129 #[.string (bs (HD.mk q false []).text)] W fun e w' => ∃ A c, e = .returned (.tuple #[.agg #[.int .i64 q, .bool false, .slice A 0 c], .int .i64 0]) ∧ Below W.heap.size W w' := by
  refine (hread_laid (HD.mk q false []) (by unfold HD.validB; simp; exact ⟨h0, h1⟩) W).mono ?_
  rintro e w' ⟨A, c, rfl, -, h3⟩
  exact ⟨A, c, rfl, h3⟩
end Go.Proofs.YtolbnkpakjdnnaaGreatDoor

namespace Go.Proofs.YtolbnkpakjdnnaaGreatDoor
open Go.RowKit

theorem calm_read {s : List ByteArray} {n : Nat} {x : ByteArray} {i : Nat} (h : s[i]? = some x) : (calm s n).read (i : Int) = x ∧ (calm s n).errR (i : Int) = 0 := by
  have hi : i < s.length := by
    rcases Nat.lt_or_ge i s.length with h' | h'
    · exact h'
    · rw [List.getElem?_eq_none h'] at h; cases h
  constructor
  · unfold DS.read
    rw [if_pos ⟨rfl, by omega, by show (i : Int) < (s.length : Int); omega⟩, Int.toNat_natCast, List.getD_eq_getElem?_getD]
    show (s[i]?).getD .empty = _
    rw [h]
    rfl
  · unfold DS.errR
    rw [if_pos (show (calm s n).on = true from rfl), if_pos ⟨by omega, by show (i : Int) < (s.length : Int); omega⟩]
theorem wrts_pair {w : World} {g : Nat} {a b : Int} {X Y : ByteArray} {O : List Nat} (h : Blk w g 100 #[.int .i64 a, .string X, .int .i64 b, .string Y]) (hO : g ∉ O) : Wrts w O (some ⟨g, 0, none⟩) [(a, X), (b, Y)] := fun _ =>
  ⟨g, 0, rfl, h.lt, hO, fun j x hx => by
    match j, hx with
    | 0, hx => injection hx with hx; subst hx; exact ⟨h.cell 0, h.cell 1⟩
    | 1, hx => injection hx with hx; subst hx; exact ⟨h.cell 2, h.cell 3⟩⟩
theorem once_05 : putOnce [0, 5] = [0, 5] := strict_ext _ _ (putOnce_spec _).1 (by decide) (fun x => (putOnce_spec _).2 x)
theorem alive_ok9 {X Y : ByteArray} (hX : X.size = 256) (hY : Y.size = 256) : CommitOk 150 0 [(0, X), (5, Y)] [0, 5] :=
  ⟨once_05.symm, by omega, by decide, by simp, by simp [refE, hX, hY], by omega⟩

end Go.Proofs.YtolbnkpakjdnnaaGreatDoor

namespace Go.Proofs.YtolbnkpakjdnnaaGreatDoor
open Go.RowKit

/-- What redo writes home. -/
def redoL (X : List ByteArray) : Nat → List Int → List Wr1
  | _, [] => []
  | k, t :: r => (111 + t, X.getD (1 + k) .empty) :: redoL X (k + 1) r
theorem redoL_len (X : List ByteArray) (ts : List Int) : ∀ k, (redoL X k ts).length = ts.length := by
  induction ts with
  | nil => intro k; rfl
  | cons t r ih => intro k; simp [redoL, ih]
theorem redoL_snoc (X : List ByteArray) (t : Int) (ts : List Int) : ∀ k, redoL X k (ts ++ [t]) = redoL X k ts ++ [(111 + t, X.getD (1 + (k + ts.length)) .empty)] := by
  induction ts with
  | nil => intro k; simp [redoL]
  | cons u r ih =>
    intro k
    simp only [List.cons_append, redoL, ih, List.length_cons]
    rw [show k + 1 + r.length = k + (r.length + 1) by omega]
theorem redoL_at (X : List ByteArray) (ts : List Int) : ∀ k, ∀ x ∈ redoL X k ts, ∃ (j : Nat) (t : Int), x = (111 + t, X.getD (1 + j) .empty) ∧ k ≤ j ∧ j < k + ts.length ∧ t ∈ ts ∧ ts[j - k]? = some t := by
  induction ts with
  | nil => intro k x hx; cases hx
  | cons t r ih =>
    intro k x hx
    rcases List.mem_cons.1 hx with rfl | hx
    · exact ⟨k, t, rfl, Nat.le_refl _, by simp, by simp, by simp⟩
    · obtain ⟨j, u, e, h1, h2, h3, h4⟩ := ih (k + 1) x hx
      refine ⟨j, u, e, by omega, by simp only [List.length_cons]; omega, by simp [h3], ?_⟩
      rw [show j - k = (j - (k + 1)) + 1 by omega, List.getElem?_cons_succ]
      exact h4
/-- A row of writes as far as it is filled. -/
structure RowTo (w : World) (g tn : Nat) (l : List Wr1) (j : Nat) : Prop where
  ex : ∃ C : List Value, Blk w g 100 C.toArray ∧ C.length = tn * 2 ∧ C.take (j * 2) = flatI (l.take j)
theorem RowTo.below {w w' : World} {g tn j : Nat} {l : List Wr1} (h : RowTo w g tn l j) (hb : Below w.heap.size w w') : RowTo w' g tn l j := by
  obtain ⟨C, h1, h2, h3⟩ := h.ex
  exact ⟨C, h1.below hb h1.lt, h2, h3⟩
theorem RowTo.next {w : World} {g tn j : Nat} {l : List Wr1} {x : Wr1} (h : RowTo w g tn l j) (hx : l[j]? = some x) (hj : j < tn) :
    ∃ u0 u1, w.cell? ⟨g, j * 2, none⟩ = some u0 ∧ w.cell? ⟨g, j * 2 + 1, none⟩ = some u1 ∧ w.frozen? ⟨g, j * 2, none⟩ = false ∧ w.frozen? ⟨g, j * 2 + 1, none⟩ = false ∧ g < w.heap.size ∧
      RowTo ((w.setCell ⟨g, j * 2, none⟩ (.int .i64 x.1)).setCell ⟨g, j * 2 + 1, none⟩ (.string x.2)) g tn l (j + 1) := by
  obtain ⟨C, h1, h2, h3⟩ := h.ex
  refine ⟨C[j * 2]'(by omega), C[j * 2 + 1]'(by omega), ?_, ?_, h1.frozen _, h1.frozen _, h1.lt, (C.set (j * 2) (.int .i64 x.1)).set (j * 2 + 1) (.string x.2), ?_, by simpa using h2, ?_⟩
  · rw [h1.cell, List.getElem?_toArray, List.getElem?_eq_getElem]
  · rw [h1.cell, List.getElem?_toArray, List.getElem?_eq_getElem]
  · have := (h1.put (j * 2) (.int .i64 x.1)).put (j * 2 + 1) (.string x.2)
    simpa using this
  · have e : l.take (j + 1) = l.take j ++ [x] := by rw [List.take_add_one, hx]; rfl
    rw [e, flatI_snoc, ← h3]
    rw [show (j + 1) * 2 = j * 2 + 1 + 1 by omega]
    have hl : j * 2 + 1 < ((C.set (j * 2) (.int .i64 x.1)).set (j * 2 + 1) (.string x.2)).length := by simp; omega
    have hl0 : j * 2 < ((C.set (j * 2) (.int .i64 x.1)).set (j * 2 + 1) (.string x.2)).length := by simp; omega
    rw [List.take_succ_eq_append_getElem hl, List.take_succ_eq_append_getElem hl0]
    rw [List.getElem_set_self, List.getElem_set_ne (by omega), List.getElem_set_self, List.take_set_of_le (by omega), List.take_set_of_le (Nat.le_refl _)]
    simp
theorem RowTo.wrts {w : World} {g tn : Nat} {l : List Wr1} {O : List Nat} (h : RowTo w g tn l tn) (hl : l.length = tn) (hO : g ∉ O) : Wrts w O (some ⟨g, 0, none⟩) l := fun _ => by
  obtain ⟨C, h1, h2, h3⟩ := h.ex
  rw [List.take_of_length_le (by omega), List.take_of_length_le (by omega)] at h3
  subst h3
  refine ⟨g, 0, rfl, h1.lt, hO, fun j x hx => ?_⟩
  obtain ⟨q1, q2⟩ := flatI_get hx
  rw [h1.cell, h1.cell, List.getElem?_toArray, List.getElem?_toArray, show 0 + j * 2 = 2 * j by omega]
  exact ⟨q1, q2⟩

structure RedoOk (N : Nat) (q : Int) (X : List ByteArray) (T : List Int) : Prop where
  len : X.length = N
  dim : 140 ≤ N ∧ N ≤ 2000
  few : T.length ≤ 110
  range : ∀ t ∈ T, 0 ≤ t ∧ 111 + t < (N : Int)
  seq : 0 ≤ q ∧ q ≤ 1099511627776
  size : ∀ k, k < T.length → (X.getD (1 + k) .empty).size = 256
  small : ∀ x ∈ X, x.size ≤ 100000
def redoS (X : List ByteArray) (q : Int) (T : List Int) : List ByteArray := setI (setI X (redoL X 0 T)) [(0, doneB q)]
theorem RedoOk.fits {N : Nat} {q : Int} {X : List ByteArray} {T : List Int} (h : RedoOk N q X T) : ∀ g ∈ [redoL X 0 T, [(0, doneB q)]], Fit N g := by
  intro g hg x hx
  simp only [List.mem_cons, List.not_mem_nil, or_false] at hg
  rcases hg with rfl | rfl
  · obtain ⟨j, t, rfl, h1, h2, h3, h4⟩ := redoL_at X T 0 x hx
    have := h.range t h3
    exact ⟨by simp only; omega, by simp only; omega, h.size j (by omega)⟩
  · rw [List.mem_singleton.1 hx]
    have := h.dim
    exact ⟨by simp, by simp only; omega, doneB_size h.seq.1 h.seq.2⟩

set_option maxRecDepth 100000 in
set_option maxHeartbeats 1000000 in
theorem wredo_any {w : World} {gw gd N c tn n : Nat} {q k : Int} {O : List Nat} {X : List ByteArray} {T : List Int} (A : Option Addr) (hok : RedoOk N q X T) (h : Blk w gw 163 (walC gd q true k)) (hd : DiskAt w O gd (calm X n)) (hgw : gw ∉ O)
    (hT : T.length = tn) (hA : Ints w w.heap.size A T) (hn : n < 800000000000) :
    Calls Tryz.prog 130 #[.pointer (some ⟨gw, 0, none⟩), .agg #[.int .i64 q, .bool true, .slice A tn c]] w fun e w' => e = .returned (.int .i64 0) ∧ Turns O gd (calm (redoS X q T) (n + (tn + 1))) w w' := by
  obtain ⟨i1, hi1, hy0, hy1, hy2⟩ := info_parts clwrites_info
  have HOK := Lib.hid hok
  have HW := Lib.hid h
  have HDK := Lib.hid hd
  have HGW := Lib.hid hgw
  have HT := Lib.hid hT
  have HA := Lib.hid hA
  have HOL : Hid (∀ b ∈ O, b < w.heap.size) := Lib.hid (fun b hb => hd.lt hb)
  have htn : (tn : Int) ≤ 110 := by have := hok.few; omega
  have HI := Lib.hid hi1
  have HN := Lib.hid hn
  have HHAS : Hid (∀ wx, Below w.heap.size w wx → ∀ t ∈ T, Calls Tryz.prog 105 #[.pointer (some ⟨gw, 0, none⟩), .int .i64 t] wx fun e w' => e = .returned (.bool true) ∧ wx = w') := Lib.hid (fun wx hx t ht => by
    have := whas_any t (h.below hx h.lt) (hd.below hx) hok.len (by have := hok.dim; omega) (by have := hok.dim; omega)
    rw [decide_eq_true (by have := hok.range t ht; omega)] at this
    exact this)
  have HREAD : Hid (∀ wx, Below w.heap.size w wx → ∀ j, j < tn → Calls Tryz.prog 106 #[.pointer (some ⟨gd, 0, none⟩), .int .i64 (1 + (j : Int))] wx fun e w' => e = .returned (.tuple #[.string (X.getD (1 + j) .empty), .int .i64 0]) ∧ Below wx.heap.size wx w') := Lib.hid (fun wx hx j hj => by
    have := dread_any (1 + (j : Int)) (hd.below hx) hok.small
    have hlt : 1 + j < X.length := by have := hok.len; have := hok.dim; have := hok.few; omega
    have e := calm_read (n := n) (List.getElem?_eq_getElem hlt)
    rw [show ((1 + j : Nat) : Int) = 1 + (j : Int) by omega] at e
    rw [e.1, e.2] at this
    rw [List.getD_eq_getElem?_getD, List.getElem?_eq_getElem hlt]
    exact this)
  have HDONE : Hid (∀ wx, Calls Tryz.prog 126 #[.agg #[.int .i64 q, .bool true, .slice A tn c]] wx fun e w' => e = .returned (.agg #[.int .i64 q, .bool false, .slice none 0 0]) ∧ Below wx.heap.size wx w') := Lib.hid (fun wx => by
    rw [← hT]
    exact hdone_any (HD.mk q true T) A c wx)
  have HSEC : Hid (∀ wx, Calls Tryz.prog 125 #[.agg #[.int .i64 q, .bool false, .slice none 0 0]] wx fun e w' => ∃ b, e = .returned (.tuple #[.slice (some ⟨b, 0, none⟩) 1 1, .int .i64 0]) ∧ Blk w' b 100 #[.int .i64 0, .string (doneB q)] ∧ wx.heap.size ≤ b ∧ Below wx.heap.size wx w') := Lib.hid (fun wx => by
    refine (wsector_any (HD.mk q false []) none 0 wx ⟨Ints.nil _ _ _, by show 0 ≤ _; omega⟩).mono ?_
    rintro e w' ⟨b, Y, k', rfl, hs, r1, r2, r3⟩
    unfold secIs at hs
    rw [if_pos (valid_done hok.seq.1 hok.seq.2)] at hs
    obtain ⟨rfl, rfl⟩ := hs
    exact ⟨b, rfl, r1, r2, r3⟩)
  clear hok h hd hgw hT hA hi1 hn
  go_enter Tryz.func130, Tryz.ntmps130
  go_upto_region 1 with fail
  obtain ⟨w1, hw1⟩ : ∃ w1, w1 = w.alloc (.cells #[.int .i64 q, .bool true, .slice A tn c] 161) := ⟨_, rfl⟩
  obtain ⟨gb, hgb⟩ : ∃ gb, gb = w.heap.size := ⟨_, rfl⟩
  rw [← hw1, ← hgb]
  have HB1 : Hid (Below w.heap.size w w1) := Lib.hid (by rw [hw1]; exact (Below.refl _ _).alloc (Nat.le_refl _) _)
  have HH1 : Hid (Blk w1 gb 161 #[.int .i64 q, .bool true, .slice A tn c]) := Lib.hid (by rw [hw1, hgb]; exact Blk.new w _ _)
  have HGB : Hid (w.heap.size ≤ gb) := Lib.hid (by omega)
  clear hw1 hgb
  obtain ⟨w2, hmk, hown, hgr⟩ := run_make_full (P := Tryz.prog) w1 w1.heap.size 97 100 i1 (.agg #[.int .i64 0, .string .empty]) 2 Tryz.underlying97 HI.out hy0 hy1 .i64 .i64 tn (by rw [hy2]; omega) (by unfold maxLen; omega) (Nat.le_refl _)
  obtain ⟨ga, hga⟩ : ∃ ga, ga = w1.heap.size := ⟨_, rfl⟩
  rw [← hga] at hmk hown
  have HR2 : Hid (RowTo w2 ga tn (redoL X 0 T) 0) := Lib.hid (by
    rcases hown.2 with ⟨h, _⟩ | ⟨g', cap, cur, h, _, hg, h1, h2, h3, _⟩
    · cases h
    · injection h with h4 _ h5
      injection h4 with h4
      injection h4 with h4 _ _
      subst h4 h5
      exact ⟨cur.toList, by simpa using (show Blk w2 ga _ cur from hg), by simpa using h3, by simp [flatI]⟩)
  have HB12 : Hid (Below w1.heap.size w1 w2) := Lib.hid ⟨hgr.os, hgr.tape, hgr.output, hgr.size, fun b hb => hgr.block b hb (fun e => by cases e)⟩
  have HH2 := Lib.hid (HH1.out.below HB12.out HH1.out.lt)
  have HB2 : Hid (Below w.heap.size w w2) := Lib.hid (HB1.out.trans (HB12.out.mono HB1.out.size))
  have HGA : Hid (w.heap.size ≤ ga ∧ ga ≠ gb) := Lib.hid ⟨by rw [hga]; exact HB1.out.size, by have := HH1.out.lt; omega⟩
  have c2 := HH1.out.cell 2
  simp at c2
  clear hown hgr hga
  go_upto_region 2 with fail
  have c2 := HH2.out.cell 2
  simp at c2
  clear hmk
  go_wp2_with fail
  clear c2
  go_loopw [19] (fun i wr => ∃ j : Nat, j ≤ tn ∧ i = .int .i64 j ∧ RowTo wr ga tn (redoL X 0 T) j ∧ Blk wr gb 161 #[.int .i64 q, .bool true, .slice A tn c] ∧ Below w.heap.size w wr) (fun i _ => tn - (intOf i).toNat)
  case atStart => exact ⟨0, Nat.zero_le _, rfl, HR2.out, HH2.out, HB2.out⟩
  case round =>
    obtain ⟨j, hj, rfl, hr, hh, hb⟩ := hrel
    have HR := Lib.hid hr
    have HH := Lib.hid hh
    have HB := Lib.hid hb
    clear hr hh hb HR2 HH2 HB2
    by_cases hlt : j < tn
    · have hjl : j < T.length := by rw [HT.out]; exact hlt
      obtain ⟨b, off, rfl, hbb, hc⟩ := HA.out (by omega)
      obtain ⟨t, ht⟩ : ∃ t, t = T[j] := ⟨_, rfl⟩
      have htj : T[j]? = some t := by rw [ht]; exact List.getElem?_eq_getElem hjl
      have htm := List.mem_of_getElem? htj
      have hct : wr.cell? ⟨b, off + j, none⟩ = some (.int .i64 t) := (HB.out.cell (p := ⟨b, off + j, none⟩) hbb).trans (hc j t htj)
      have HHJ := Lib.hid (HHAS.out wr HB.out t htm)
      have HRJ := Lib.hid (HREAD.out wr HB.out j hlt)
      obtain ⟨D, hD⟩ : ∃ D, D = X.getD (1 + j) .empty := ⟨_, rfl⟩
      rw [← hD] at HRJ
      have hx : (redoL X 0 T)[j]? = some (111 + t, D) := by
        have h1 : T.take (j + 1) = T.take j ++ [t] := by rw [List.take_add_one, htj]; rfl
        have h2 : T = T.take j ++ (t :: T.drop (j + 1)) := by rw [ht, ← List.drop_eq_getElem_cons hjl, List.take_append_drop]
        have h3 : ∀ (a b : List Int) (k : Nat), redoL X k (a ++ b) = redoL X k a ++ redoL X (k + a.length) b := by
          intro a
          induction a with
          | nil => intro b k; simp [redoL]
          | cons u r ih => intro b k; simp only [List.cons_append, redoL, ih, List.length_cons]; rw [show k + 1 + r.length = k + (r.length + 1) by omega]
        rw [h2, h3, List.getElem?_append_right (by rw [redoL_len, List.length_take]; omega), redoL_len]
        have h4 : (T.take j).length = j := by rw [List.length_take]; omega
        rw [h4, Nat.sub_self]
        show some (111 + t, X.getD (1 + (0 + j)) .empty) = _
        rw [Nat.zero_add, ← hD]
      have HX := Lib.hid hx
      have hwal := HW.out.below HB.out HW.out.lt
      have c0 := hwal.cell 0
      simp [walC] at c0
      have hr := HOK.out.range t htm
      have hd := HOK.out.dim
      obtain ⟨r0, r1⟩ := hr
      have r2 : t ≤ 2000 := by omega
      have hjI : (j : Int) < (tn : Int) := by omega
      clear hx hjl ht htj htm hc hbb hwal hD r1 hd
      go_upto_region 7 with (go_at_call 105; refine HHJ.out.mono ?_; rintro e w3 ⟨rfl, rfl⟩)
      go_wp2_with fail
      refine HRJ.out.mono ?_
      rintro e w3 ⟨rfl, hb3⟩
      have HB3 := Lib.hid (HB.out.trans (hb3.mono HB.out.size))
      have HH3 := Lib.hid (HH.out.below hb3 HH.out.lt)
      obtain ⟨u0, u1, a0, a1, f0, f1, hgal, hrn⟩ := (HR.out.below hb3).next HX.out hlt
      have HRN := Lib.hid hrn
      clear hb3 hrn c0 hct
      go_wp2_with fail
      go_roundw
      case rel =>
        refine ⟨j + 1, by omega, by go_num, HRN.out, ?_, (HB3.out.setCell HGA.out.1 _).setCell HGA.out.1 _⟩
        exact (HH3.out.far (p := ⟨ga, j * 2, none⟩) (fun e => HGA.out.2 e.symm) _).far (p := ⟨ga, j * 2 + 1, none⟩) (fun e => HGA.out.2 e.symm) _
      case measure => simp [intOf]; omega
    · obtain rfl : tn = j := by omega
      have c0 := HH.out.cell 0
      have c1 := HH.out.cell 1
      have c2 := HH.out.cell 2
      simp at c0 c1 c2
      go_wp2_with fail
      refine (HDONE.out _).mono ?_
      rintro e w3 ⟨rfl, hb3⟩
      have HB3 := Lib.hid (HB.out.trans (hb3.mono HB.out.size))
      have HR3 := Lib.hid (HR.out.below hb3)
      clear hb3 c0 c1 c2
      go_wp2_with fail
      refine (HSEC.out _).mono ?_
      rintro e w4 ⟨b2, rfl, hs2, hsb2, hb4⟩
      have HS4 := Lib.hid hs2
      have HSB : Hid (w.heap.size ≤ b2) := Lib.hid (Nat.le_trans HB3.out.size hsb2)
      have HB4 := Lib.hid (HB3.out.trans (hb4.mono HB3.out.size))
      have HR4 := Lib.hid (HR3.out.below hb4)
      clear hs2 hsb2 hb4
      go_wp2_with fail
      obtain ⟨wp, hwp⟩ : ∃ wp, wp = w4.alloc (.cells #[.slice (some ⟨ga, 0, none⟩) tn tn, .slice (some ⟨b2, 0, none⟩) 1 1] 97) := ⟨_, rfl⟩
      obtain ⟨bg, hbg⟩ : ∃ bg, bg = w4.heap.size := ⟨_, rfl⟩
      rw [← hwp, ← hbg]
      have hB4P : Below w4.heap.size w4 wp := by rw [hwp]; exact (Below.refl _ _).alloc (Nat.le_refl _) _
      have hGP : Blk wp bg 97 #[.slice (some ⟨ga, 0, none⟩) tn tn, .slice (some ⟨b2, 0, none⟩) 1 1] := by rw [hwp, hbg]; exact Blk.new w4 _ _
      have hBWP : Below w.heap.size w wp := HB4.out.trans (hB4P.mono HB4.out.size)
      have hrl : (redoL X 0 T).length = tn := by rw [redoL_len]; exact HT.out
      have hput := wput_any (bg := bg) (m := 2) (c := 2) [⟨some ⟨ga, 0, none⟩, tn, redoL X 0 T⟩, ⟨some ⟨b2, 0, none⟩, 1, [(0, doneB q)]⟩] (HW.out.below hBWP HW.out.lt) (HDK.out.below hBWP) (calm_ok X n) HGW.out rfl (fun j x hx => by
        match j, hx with
        | 0, hx =>
          injection hx with hx
          subst hx
          refine ⟨?_, (HR4.out.below hB4P).wrts hrl (fun hm => by have := HOL.out _ hm; have := HGA.out.1; omega), by show (redoL X 0 T).length ≤ _; omega⟩
          unfold WI.val
          simp only
          rw [hrl]
          exact hGP.cell 0
        | 1, hx =>
          injection hx with hx
          subst hx
          exact ⟨hGP.cell 1, blk_wrts (HS4.out.below hB4P HS4.out.lt) HOL.out HSB.out, by show 1 ≤ _; omega⟩) hGP.lt (fun hm => by have := HOL.out _ hm; have := HB4.out.size; omega) (by omega) (show (0 : Nat) ≤ 9223372036854775807 by decide) (show n < 900000000000 by have := HN.out; omega) (show (0 : Nat) < 900000000000 by decide)
      obtain ⟨p1, p2⟩ := calm_put [redoL X 0 T, [(0, doneB q)]] X n (fun g hg => by rw [HOK.out.len]; exact HOK.out.fits g hg)
      simp only [List.map_cons, List.map_nil] at hput
      rw [p1, p2] at hput
      have HPUT := Lib.hid hput
      have HBWP := Lib.hid hBWP
      clear hput p1 p2 hwp hbg hB4P hGP hBWP
      refine HPUT.out.mono ?_
      rintro e w5 ⟨rfl, hT5⟩
      have HT5 := Lib.hid hT5
      clear hT5
      go_wp2_with fail
      go_ret
      refine ⟨rfl, ?_⟩
      have e : n + sumL [redoL X 0 T, [(0, doneB q)]] = n + (tn + 1) := by unfold sumL; simp only [List.foldr_cons, List.foldr_nil, hrl, List.length_cons, List.length_nil]
      have h5 := HT5.out
      rw [e] at h5
      exact Turns.after HBWP.out h5
end Go.Proofs.YtolbnkpakjdnnaaGreatDoor
