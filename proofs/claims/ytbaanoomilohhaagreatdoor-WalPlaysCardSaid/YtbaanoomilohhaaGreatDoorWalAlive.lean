/-
  Package wal: the first call of its laws. No statement is proved here.
-/
import Derived.Test.YtbaanoomilohhaaGreatDoorWalCommit
import Derived.Test.YtbaanoomilohhaaGreatDoorBookWrites
import Derived.Test.YtbaanoomilohhaaGreatDoorHeadReadAny
namespace Go.Proofs.YtbaanoomilohhaaGreatDoor
open Go.RowKit

def setI (s : List ByteArray) (g : List Wr1) : List ByteArray := g.foldl (fun s x => s.set x.1.toNat x.2) s
theorem setI_length (g : List Wr1) : ∀ s, (setI s g).length = s.length := by
  induction g with
  | nil => intro s; rfl
  | cons x r ih => intro s; show (setI (s.set x.1.toNat x.2) r).length = _; rw [ih]; simp
theorem setI_cons (s : List ByteArray) (x : Wr1) (r : List Wr1) : setI s (x :: r) = setI (s.set x.1.toNat x.2) r := rfl
theorem setI_far (g : List Wr1) {i : Nat} : ∀ s, (∀ x ∈ g, x.1.toNat ≠ i) → (setI s g)[i]? = s[i]? := by
  induction g with
  | nil => intro s _; rfl
  | cons x r ih =>
    intro s h
    rw [setI_cons, ih _ (fun y hy => h y (by simp [hy])), List.getElem?_set_ne (h x (by simp))]
theorem setI_small (g : List Wr1) (B : Nat) : ∀ s, (∀ x ∈ g, x.2.size ≤ B) → (∀ x ∈ s, x.size ≤ B) → ∀ x ∈ setI s g, x.size ≤ B := by
  induction g with
  | nil => intro s _ h; exact h
  | cons x r ih =>
    intro s h1 h2
    rw [setI_cons]
    refine ih _ (fun y hy => h1 y (by simp [hy])) (fun y hy => ?_)
    rcases List.mem_or_eq_of_mem_set hy with h | h
    · exact h2 y h
    · rw [h]; exact h1 x (by simp)

/-- A disk with power, unarmed: sectors now, those that are safe, what is dirty, how many writes. -/
def warm (s0 s : List ByteArray) (d : List (Nat × ByteArray)) (n : Nat) : DS := ⟨s, s0, d, true, n, false, 0, []⟩
def calm (s : List ByteArray) (n : Nat) : DS := warm s s [] n
theorem calm_ok (s : List ByteArray) (n : Nat) : (calm s n).Ok := ⟨rfl, (by intro w hw; cases hw)⟩
/-- Writes that may be. -/
def Fit (N : Nat) (g : List Wr1) : Prop := ∀ x ∈ g, 0 ≤ x.1 ∧ x.1 < (N : Int) ∧ x.2.size = 256
theorem warm_writeL (s0 : List ByteArray) (g : List Wr1) : ∀ s d n, Fit s.length g → (warm s0 s d n).errL g = 0 ∧ ∃ d', (warm s0 s d n).writeL g = warm s0 (setI s g) d' (n + g.length) := by
  induction g with
  | nil => intro s d n _; exact ⟨rfl, d, rfl⟩
  | cons x r ih =>
    intro s d n h
    obtain ⟨h1, h2, h3⟩ := h x (by simp)
    have e1 : (warm s0 s d n).err1 x.1 x.2 = 0 := by
      unfold DS.err1
      rw [if_pos ⟨h1, by exact h2⟩, if_pos h3]
      rfl
    have e2 : (warm s0 s d n).write1 x.1 x.2 = warm s0 (s.set x.1.toNat x.2) (d ++ [(x.1.toNat, x.2)]) (n + 1) := by
      unfold DS.write1
      rw [if_pos ⟨h1, h2, h3⟩]
      rfl
    obtain ⟨i1, d', i2⟩ := ih (s.set x.1.toNat x.2) (d ++ [(x.1.toNat, x.2)]) (n + 1) (fun y hy => by rw [List.length_set]; exact h y (by simp [hy]))
    constructor
    · rw [DS.errL, if_pos e1, e2]
      exact i1
    · refine ⟨d', ?_⟩
      rw [DS.writeL, if_pos e1, e2, i2, setI_cons, List.length_cons, show n + 1 + r.length = n + (r.length + 1) by omega]
theorem calm_group (s : List ByteArray) (n : Nat) (g : List Wr1) (h : Fit s.length g) : (calm s n).errW g = 0 ∧ ((calm s n).write g).errF = 0 ∧ ((calm s n).write g).flush = calm (setI s g) (n + g.length) := by
  obtain ⟨h1, d, h2⟩ := warm_writeL s g s [] n h
  have w1 : (calm s n).errW g = 0 := by
    unfold DS.errW
    rw [if_pos (show (calm s n).on = true from rfl)]
    exact h1
  have w2 : (calm s n).write g = warm s (setI s g) d (n + g.length) := by
    unfold DS.write
    rw [if_pos (show (calm s n).on = true from rfl)]
    exact h2
  rw [w2]
  exact ⟨w1, rfl, rfl⟩
theorem calm_put (G : List (List Wr1)) : ∀ s n, (∀ g ∈ G, Fit s.length g) → putE (calm s n) G = 0 ∧ putS (calm s n) G = calm (G.foldl setI s) (n + sumL G) := by
  induction G with
  | nil => intro s n _; exact ⟨rfl, rfl⟩
  | cons g r ih =>
    intro s n h
    obtain ⟨h1, h2, h3⟩ := calm_group s n g (h g (by simp))
    obtain ⟨i1, i2⟩ := ih (setI s g) (n + g.length) (fun g' hg' => by rw [setI_length]; exact h g' (by simp [hg']))
    constructor
    · rw [putE, if_pos h1, if_pos h2, h3]
      exact i1
    · rw [putS, if_pos h1, if_pos h2, h3, i2]
      have e : sumL (g :: r) = g.length + sumL r := rfl
      rw [e, show n + g.length + sumL r = n + (g.length + sumL r) by omega]
      rfl

theorem setI_home (l : List Wr1) (ts : List Int) {t : Int} : ∀ s : List ByteArray, t ∈ ts → 0 ≤ t → (111 + t).toNat < s.length → (∀ u ∈ ts, 0 ≤ u) → (setI s (homeL l ts))[(111 + t).toNat]? = some (lastB l t) := by
  induction ts with
  | nil => intro s h; cases h
  | cons u r ih =>
    intro s h h0 h1 h2
    have e : homeL l (u :: r) = (111 + u, lastB l u) :: homeL l r := rfl
    rw [e, setI_cons]
    by_cases hr : t ∈ r
    · exact ih _ hr h0 (by simpa using h1) (fun v hv => h2 v (by simp [hv]))
    · have htu : t = u := by
        rcases List.mem_cons.1 h with h | h
        · exact h
        · exact absurd h hr
      subst htu
      rw [setI_far (homeL l r) _ (fun x hx => ?_), List.getElem?_set_self h1]
      unfold homeL at hx
      obtain ⟨v, hv, rfl⟩ := List.mem_map.1 hx
      have := h2 v (by simp [hv])
      simp only
      intro e
      have : v = t := by omega
      exact hr (this ▸ hv)
theorem copies_at (l : List Wr1) (ts : List Int) : ∀ k, ∀ x ∈ copiesL l k ts, ∃ (j : Nat) (t : Int), x = (1 + (j : Int), lastB l t) ∧ k ≤ j ∧ j < k + ts.length ∧ t ∈ ts := by
  induction ts with
  | nil => intro k x hx; cases hx
  | cons t r ih =>
    intro k x hx
    rcases List.mem_cons.1 hx with rfl | hx
    · exact ⟨k, t, rfl, Nat.le_refl _, by simp, by simp⟩
    · obtain ⟨j, u, e, h1, h2, h3⟩ := ih (k + 1) x hx
      exact ⟨j, u, e, by omega, by simp only [List.length_cons]; omega, by simp [h3]⟩
theorem home_at (l : List Wr1) (ts : List Int) {x : Wr1} (h : x ∈ homeL l ts) : ∃ t ∈ ts, x = (111 + t, lastB l t) := by
  unfold homeL at h
  obtain ⟨t, ht, rfl⟩ := List.mem_map.1 h
  exact ⟨t, ht, rfl⟩
theorem lastB_size {l : List Wr1} {t : Int} (h : t ∈ l.map Prod.fst) (hs : ∀ x ∈ l, x.2.size = 256) : (lastB l t).size = 256 := by
  obtain ⟨i, x, _, _, hx, _, e⟩ := lastM_all l h
  rw [← e]
  exact hs x (List.mem_of_getElem? hx)

/-- What is laid in all when nothing goes wrong. -/
def doneB (seq : Int) : ByteArray := bs (HD.mk seq false []).text
def fullB (seq : Int) (T : List Int) : ByteArray := bs (HD.mk seq true T).text
def doneS (s : List ByteArray) (seq : Int) (l : List Wr1) (T : List Int) : List ByteArray := (groupsL seq l T).foldl setI s
theorem doneB_size {q : Int} (h0 : 0 ≤ q) (h1 : q ≤ 1099511627776) : (doneB q).size = 256 := by
  unfold doneB; rw [bs_size, (HD.valid_of (valid_done h0 h1)).text_len]
structure CommitOk (N : Nat) (seq : Int) (l : List Wr1) (T : List Int) : Prop where
  eq : T = putOnce (l.map Prod.fst)
  dim : 111 ≤ N ∧ N ≤ 2000
  few : T.length ≤ 110
  pos : 0 < l.length
  ok : refE ((N : Int) - 111) l = 0
  seqb : 0 ≤ seq ∧ seq < 1099511627776
namespace CommitOk
variable {N : Nat} {seq : Int} {l : List Wr1} {T : List Int}
theorem mem (h : CommitOk N seq l T) (t : Int) : t ∈ T ↔ t ∈ l.map Prod.fst := by rw [h.eq]; exact (putOnce_spec _).2 t
theorem range (h : CommitOk N seq l T) : ∀ t ∈ T, 0 ≤ t ∧ 111 + t < (N : Int) := fun t ht => by
  obtain ⟨x, hx, rfl⟩ := List.mem_map.1 ((h.mem t).1 ht)
  have := refE_ok h.ok x hx
  omega
theorem size (h : CommitOk N seq l T) : ∀ t ∈ T, (lastB l t).size = 256 := fun t ht => lastB_size ((h.mem t).1 ht) (fun x hx => (refE_ok h.ok x hx).2.2)
theorem valid (h : CommitOk N seq l T) : (HD.mk (seq + 1) true T).validB = true := by
  have hN := h.dim
  have := valid_next (l := l.map Prod.fst) h.seqb.1 h.seqb.2 (by rw [List.length_map]; exact h.pos) (fun x hx => by
    obtain ⟨y, hy, rfl⟩ := List.mem_map.1 hx
    have := refE_ok h.ok y hy
    omega) (by rw [← h.eq]; exact h.few)
  rw [← h.eq] at this
  exact this
theorem fits (h : CommitOk N seq l T) : ∀ g ∈ groupsL seq l T, Fit N g := by
  intro g hg x hx
  have hN := h.dim
  unfold groupsL at hg
  simp only [List.mem_cons, List.not_mem_nil, or_false] at hg
  rcases hg with rfl | rfl | rfl | rfl
  · obtain ⟨j, t, rfl, h1, h2, h3⟩ := copies_at l T 0 x hx
    have := h.few
    exact ⟨by simp only; omega, by simp only; omega, h.size t h3⟩
  · rw [List.mem_singleton.1 hx]
    exact ⟨by simp, by simp only; omega, by show (bs _).size = 256; rw [bs_size, (HD.valid_of h.valid).text_len]⟩
  · obtain ⟨t, ht, rfl⟩ := home_at l T hx
    have := h.range t ht
    exact ⟨by simp only; omega, by simp only; omega, h.size t ht⟩
  · rw [List.mem_singleton.1 hx]
    exact ⟨by simp, by simp only; omega, by show (bs _).size = 256; rw [bs_size, (HD.valid_of (valid_done (by have := h.seqb; omega) (by have := h.seqb; omega))).text_len]⟩
theorem done_len (s : List ByteArray) (seq : Int) (l : List Wr1) (T : List Int) : (doneS s seq l T).length = s.length := by
  unfold doneS groupsL
  simp only [List.foldl_cons, List.foldl_nil, setI_length]
theorem done_head (h : CommitOk N seq l T) (s : List ByteArray) (hs : s.length = N) : (doneS s seq l T)[0]? = some (doneB (seq + 1)) := by
  have hN := h.dim
  unfold doneS groupsL
  simp only [List.foldl_cons, List.foldl_nil]
  rw [setI_cons]
  show (setI _ [])[0]? = _
  show ((setI _ _).set 0 _)[0]? = _
  rw [List.getElem?_set_self (by simp only [setI_length]; omega)]
  rfl
theorem done_at (h : CommitOk N seq l T) (s : List ByteArray) (hs : s.length = N) {t : Int} (ht : 0 ≤ t) (htN : 111 + t < (N : Int)) : (doneS s seq l T)[(111 + t).toNat]? = if t ∈ T then some (lastB l t) else s[(111 + t).toNat]? := by
  have hN := h.dim
  unfold doneS groupsL
  simp only [List.foldl_cons, List.foldl_nil]
  rw [setI_far [(0, _)] _ (fun x hx => by rw [List.mem_singleton.1 hx]; simp only; omega)]
  by_cases hm : t ∈ T
  · rw [if_pos hm, setI_home l T _ hm ht (by simp only [setI_length]; omega) (fun u hu => (h.range u hu).1)]
  · rw [if_neg hm, setI_far (homeL l T) _ (fun x hx => ?_), setI_far [(0, _)] _ (fun x hx => by rw [List.mem_singleton.1 hx]; simp only; omega), setI_far (copiesL l 0 T) _ (fun x hx => ?_)]
    · obtain ⟨j, u, rfl, h1, h2, h3⟩ := copies_at l T 0 x hx
      have := h.few
      simp only
      omega
    · obtain ⟨u, hu, rfl⟩ := home_at l T hx
      have := h.range u hu
      simp only
      intro e
      have : u = t := by omega
      exact hm (this ▸ hu)
theorem done_small (h : CommitOk N seq l T) (s : List ByteArray) (hz : ∀ x ∈ s, x.size = 256) : ∀ x ∈ doneS s seq l T, x.size ≤ 256 := by
  have hf := h.fits
  have step : ∀ (g : List Wr1) (s : List ByteArray), Fit N g → (∀ x ∈ s, x.size ≤ 256) → ∀ x ∈ setI s g, x.size ≤ 256 := fun g s hg hs => setI_small g 256 s (fun x hx => by have := (hg x hx).2.2; omega) hs
  unfold doneS groupsL
  unfold groupsL at hf
  simp only [List.foldl_cons, List.foldl_nil]
  refine step _ _ (hf _ (by simp)) (step _ _ (hf _ (by simp)) (step _ _ (hf _ (by simp)) (step _ _ (hf _ (by simp)) (fun x hx => by rw [hz x hx]; omega))))
theorem run (h : CommitOk N seq l T) (s : List ByteArray) (hs : s.length = N) (n : Nat) (k : Int) :
    commitR (calm s n) seq k l = ⟨calm (doneS s seq l T) (n + (2 * T.length + 2)), seq + 1, true, k + 1, 0⟩ := by
  obtain ⟨p1, p2⟩ := calm_put (groupsL seq l T) s n (fun g hg => by rw [hs]; exact h.fits g hg)
  have hl : (calm s n).now.length = N := hs
  unfold commitR
  rw [hl, if_neg (fun hh => hh h.ok), if_neg (by have := h.pos; omega), ← h.eq, if_neg (by have := h.few; omega), if_pos p1, p2]
  have e : sumL (groupsL seq l T) = 2 * T.length + 2 := by
    unfold groupsL sumL
    simp only [List.foldr_cons, List.foldr_nil, copiesL_length, homeL_length, List.length_cons, List.length_nil]
    omega
  rw [e]
  rfl
end CommitOk
end Go.Proofs.YtbaanoomilohhaaGreatDoor

namespace Go.Proofs.YtbaanoomilohhaaGreatDoor
open Go.RowKit

set_option maxRecDepth 100000 in
set_option maxHeartbeats 1000000 in
theorem wopen_nil (w : World) : Calls Tryz.prog 7 #[.pointer none] w fun e w' => e = .returned (.tuple #[.pointer none, .int .i64 1]) ∧ w = w' := by
  go_enter Tryz.func7, Tryz.ntmps7
  go_wp2_with fail
  go_ret2
  exact ⟨rfl, rfl⟩

section
variable {w : World} {gd : Nat} {O : List Nat} {S : DS}
set_option maxRecDepth 100000 in
set_option maxHeartbeats 1000000 in
theorem wopen_off (hd : DiskAt w O gd S) (hz : ∀ x ∈ S.now, x.size ≤ 100000) (hon : S.on = false) :
    Calls Tryz.prog 7 #[.pointer (some ⟨gd, 0, none⟩)] w fun e w' => e = .returned (.tuple #[.pointer none, .int .i64 14]) ∧ Below w.heap.size w w' := by
  have HR : Hid (Calls Tryz.prog 29 #[.pointer (some ⟨gd, 0, none⟩), .int .i64 0] w fun e w' => ∃ X, e = .returned (.tuple #[.string X, .int .i64 14]) ∧ Below w.heap.size w w') := Lib.hid (by
    refine (dread_any 0 hd hz).mono ?_
    rintro e w' ⟨rfl, hb⟩
    exact ⟨_, by unfold DS.errR; rw [hon]; rfl, hb⟩)
  clear hd hz hon
  go_enter Tryz.func7, Tryz.ntmps7
  go_wp2_with fail
  refine HR.out.mono ?_
  rintro e w1 ⟨X, rfl, hb1⟩
  go_wp2_with fail
  go_ret2
  exact ⟨rfl, hb1⟩

set_option maxRecDepth 100000 in
set_option maxHeartbeats 2000000 in
theorem wopen_bad (hd : DiskAt w O gd S) (hz : ∀ x ∈ S.now, x.size ≤ 100000) (hon : S.on = true) (h1 : 0 < S.now.length) {b : ByteArray} (hb : S.read 0 = b) (hbad : (readHD b.data.toList).2 ≠ 0) :
    Calls Tryz.prog 7 #[.pointer (some ⟨gd, 0, none⟩)] w fun e w' => e = .returned (.tuple #[.pointer none, .int .i64 25]) ∧ Below w.heap.size w w' := by
  have HR : Hid (Calls Tryz.prog 29 #[.pointer (some ⟨gd, 0, none⟩), .int .i64 0] w fun e w' => e = .returned (.tuple #[.string b, .int .i64 0]) ∧ Below w.heap.size w w') := Lib.hid (by
    refine (dread_any 0 hd hz).mono ?_
    rintro e w' ⟨rfl, hb2⟩
    refine ⟨?_, hb2⟩
    rw [hb]
    unfold DS.errR
    rw [if_pos hon, if_pos ⟨by omega, by omega⟩])
  obtain ⟨K, hK⟩ : ∃ K, K = (readHD b.data.toList).2 := ⟨_, rfl⟩
  have HRD : Hid (∀ W, Calls Tryz.prog 30 #[.string b] W fun e w' => ∃ s f A n c, e = .returned (.tuple #[.agg #[.int .i64 s, .bool f, .slice A n c], .int .i64 K]) ∧ Below W.heap.size W w') := Lib.hid (fun W => by
    refine (hread_own b W).mono ?_
    rintro e w' ⟨A, c, rfl, -, -, h3⟩
    rw [← hK]
    exact ⟨_, _, A, _, c, rfl, h3⟩)
  rw [← hK] at hbad
  have hbb : (K != 0) = true := bne_iff_ne.2 hbad
  clear hd hz hon h1 hb hK
  go_enter Tryz.func7, Tryz.ntmps7
  go_wp2_with fail
  refine HR.out.mono ?_
  rintro e w1 ⟨rfl, hb1⟩
  have HB1 := Lib.hid hb1
  clear hb1
  go_wp2_with fail
  refine (HRD.out _).mono ?_
  rintro e w2 ⟨s, f, A, n, c, rfl, hb2⟩
  have HB2 := Lib.hid (HB1.out.trans (hb2.mono HB1.out.size))
  clear hb2
  go_wp2_with fail
  go_ret2
  exact ⟨rfl, HB2.out.alloc HB2.out.size _⟩

set_option maxRecDepth 100000 in
set_option maxHeartbeats 2000000 in
theorem wopen_plain (hd : DiskAt w O gd S) (hz : ∀ x ∈ S.now, x.size ≤ 100000) (hon : S.on = true) (h1 : 0 < S.now.length) {b : ByteArray} (hb : S.read 0 = b) {q : Int}
    (hRD : ∀ W, Calls Tryz.prog 30 #[.string b] W fun e w' => ∃ A c, e = .returned (.tuple #[.agg #[.int .i64 q, .bool false, .slice A 0 c], .int .i64 0]) ∧ Below W.heap.size W w') :
    Calls Tryz.prog 7 #[.pointer (some ⟨gd, 0, none⟩)] w fun e w' => ∃ gw, e = .returned (.tuple #[.pointer (some ⟨gw, 0, none⟩), .int .i64 0]) ∧ Blk w' gw 66 (walC gd q true 0) ∧ w.heap.size ≤ gw ∧ Below w.heap.size w w' := by
  have HR : Hid (Calls Tryz.prog 29 #[.pointer (some ⟨gd, 0, none⟩), .int .i64 0] w fun e w' => e = .returned (.tuple #[.string b, .int .i64 0]) ∧ Below w.heap.size w w') := Lib.hid (by
    refine (dread_any 0 hd hz).mono ?_
    rintro e w' ⟨rfl, hb2⟩
    refine ⟨?_, hb2⟩
    rw [hb]
    unfold DS.errR
    rw [if_pos hon, if_pos ⟨by omega, by omega⟩])
  have HRD := Lib.hid hRD
  have HDN : Hid (∀ W A c, Calls Tryz.prog 31 #[.agg #[.int .i64 q, .bool false, .slice A 0 c]] W fun e w' => e = .returned (.agg #[.int .i64 q, .bool false, .slice none 0 0]) ∧ Below W.heap.size W w') := Lib.hid (fun W A c => hdone_any (HD.mk q false []) A c W)
  clear hd hz hon h1 hb hRD
  go_enter Tryz.func7, Tryz.ntmps7
  go_wp2_with fail
  refine HR.out.mono ?_
  rintro e w1 ⟨rfl, hb1⟩
  have HB1 := Lib.hid hb1
  clear hb1
  go_wp2_with fail
  refine (HRD.out _).mono ?_
  rintro e w2 ⟨A, c, rfl, hb2⟩
  have HB2 := Lib.hid (HB1.out.trans (hb2.mono HB1.out.size))
  clear hb2
  go_upto_region 9 with fail
  obtain ⟨w3, hw3⟩ : ∃ w3, w3 = w2.alloc (.cells #[.int .i64 q, .bool false, .slice A 0 c] 61) := ⟨_, rfl⟩
  obtain ⟨g6, hg6⟩ : ∃ g6, g6 = w2.heap.size := ⟨_, rfl⟩
  rw [← hw3, ← hg6]
  have HH3 : Hid (Blk w3 g6 61 #[.int .i64 q, .bool false, .slice A 0 c]) := Lib.hid (by rw [hw3, hg6]; exact Blk.new w2 _ _)
  have HB3 : Hid (Below w.heap.size w w3) := Lib.hid (by rw [hw3]; exact HB2.out.alloc HB2.out.size _)
  have c0 := HH3.out.cell 0
  have c1 := HH3.out.cell 1
  have c2 := HH3.out.cell 2
  simp at c0 c1 c2
  clear hw3 hg6
  go_wp2_with fail
  refine (HDN.out _ A c).mono ?_
  rintro e w4 ⟨rfl, hb4⟩
  have HH4 := Lib.hid (HH3.out.below hb4 HH3.out.lt)
  have HB4 := Lib.hid (HB3.out.trans (hb4.mono HB3.out.size))
  clear hb4 c0 c1 c2
  go_upto_region 10 with fail
  obtain ⟨w5, hw5⟩ : ∃ w5, w5 = w4.alloc (.cells (walC gd q true 0) 66) := ⟨_, rfl⟩
  obtain ⟨gw, hgw⟩ : ∃ gw, gw = w4.heap.size := ⟨_, rfl⟩
  unfold walC at hw5
  rw [← hw5, ← hgw]
  have HH5 : Hid (Blk w5 gw 66 (walC gd q true 0)) := Lib.hid (by rw [hw5, hgw]; exact Blk.new w4 _ _)
  have HB5 : Hid (Below w.heap.size w w5) := Lib.hid (by rw [hw5]; exact HB4.out.alloc HB4.out.size _)
  have HG5 : Hid (w.heap.size ≤ gw) := Lib.hid (by rw [hgw]; exact HB4.out.size)
  have c1 : w5.cell? ⟨g6, 1, none⟩ = some (.bool false) := by
    have := (HH4.out.below ((Below.refl _ _).alloc (Nat.le_refl _) (.cells (walC gd q true 0) 66)) HH4.out.lt).cell 1
    unfold walC at this
    rw [← hw5] at this
    exact this
  clear hw5 hgw
  go_wp2_with fail
  go_ret2
  exact ⟨gw, rfl, HH5.out, HG5.out, HB5.out⟩
end

theorem read_zero (W : World) : Calls Tryz.prog 30 #[.string (zeroB 256)] W fun e w' => ∃ A c, e = .returned (.tuple #[.agg #[.int .i64 0, .bool false, .slice A 0 c], .int .i64 0]) ∧ Below W.heap.size W w' := by
  have hH : readHD (zeroB 256).data.toList = (HD.mk 0 false [], 0) := by
    have e : (zeroB 256).data.toList = List.replicate 256 0 := zeroB_list 256
    rw [e]
    unfold readHD
    rw [if_neg (fun h => h List.length_replicate), if_pos (List.all_eq_true.2 (fun x hx => by rw [List.eq_of_mem_replicate hx]; rfl))]
    rfl
  refine (hread_own (zeroB 256) W).mono ?_
  rw [hH]
  rintro e w' ⟨A, c, rfl, -, -, h3⟩
  exact ⟨A, c, rfl, h3⟩
theorem read_done {q : Int} (h0 : 0 ≤ q) (h1 : q ≤ 1099511627776) (W : World) : Calls Tryz.prog 30 #[.string (bs (HD.mk q false []).text)] W fun e w' => ∃ A c, e = .returned (.tuple #[.agg #[.int .i64 q, .bool false, .slice A 0 c], .int .i64 0]) ∧ Below W.heap.size W w' := by
  refine (hread_laid (HD.mk q false []) (by unfold HD.validB; simp; exact ⟨h0, h1⟩) W).mono ?_
  rintro e w' ⟨A, c, rfl, -, h3⟩
  exact ⟨A, c, rfl, h3⟩
end Go.Proofs.YtbaanoomilohhaaGreatDoor

namespace Go.Proofs.YtbaanoomilohhaaGreatDoor
open Go.RowKit

theorem calm_read {s : List ByteArray} {n : Nat} {x : ByteArray} {i : Nat} (h : s[i]? = some x) : (calm s n).read (i : Int) = x ∧ (calm s n).errR (i : Int) = 0 := by
  have hi : i < s.length := by
    rcases Nat.lt_or_ge i s.length with h' | h'
    · exact h'
    · rw [List.getElem?_eq_none h'] at h; cases h
  constructor
  · unfold DS.read
    rw [if_pos ⟨rfl, by omega, by show (i : Int) < (s.length : Int); omega⟩, Int.toNat_natCast, List.getD_eq_getElem?_getD]
    show (s[i]?).getD .empty = _
    rw [h]
    rfl
  · unfold DS.errR
    rw [if_pos (show (calm s n).on = true from rfl), if_pos ⟨by omega, by show (i : Int) < (s.length : Int); omega⟩]
theorem wrts_pair {w : World} {g : Nat} {a b : Int} {X Y : ByteArray} {O : List Nat} (h : Blk w g 39 #[.int .i64 a, .string X, .int .i64 b, .string Y]) (hO : g ∉ O) : Wrts w O (some ⟨g, 0, none⟩) [(a, X), (b, Y)] := fun _ =>
  ⟨g, 0, rfl, h.lt, hO, fun j x hx => by
    match j, hx with
    | 0, hx => injection hx with hx; subst hx; exact ⟨h.cell 0, h.cell 1⟩
    | 1, hx => injection hx with hx; subst hx; exact ⟨h.cell 2, h.cell 3⟩⟩
theorem once_05 : putOnce [0, 5] = [0, 5] := strict_ext _ _ (putOnce_spec _).1 (by decide) (fun x => (putOnce_spec _).2 x)
theorem alive_ok9 {X Y : ByteArray} (hX : X.size = 256) (hY : Y.size = 256) : CommitOk 150 0 [(0, X), (5, Y)] [0, 5] :=
  ⟨once_05.symm, by omega, by decide, by simp, by simp [refE, hX, hY], by omega⟩

set_option maxRecDepth 100000 in
set_option maxHeartbeats 4000000 in
theorem alive9_any (w : World) : Calls Tryz.prog 5 #[] w fun e w' => e = .returned (.bool true) ∧ Below w.heap.size w w' := by
  obtain ⟨z, hz⟩ : ∃ z, z = zeroB 256 := ⟨_, rfl⟩
  have hzs : z.size = 256 := by rw [hz]; exact zeroB_size 256
  obtain ⟨X, hX⟩ : ∃ X, X = fillB ⟨#[97]⟩ := ⟨_, rfl⟩
  obtain ⟨Y, hY⟩ : ∃ Y, Y = fillB ⟨#[98]⟩ := ⟨_, rfl⟩
  have hXs : X.size = 256 := by rw [hX]; exact fillB_size _
  have hYs : Y.size = 256 := by rw [hY]; exact fillB_size _
  obtain ⟨s, hs⟩ : ∃ s, s = List.replicate 150 z := ⟨_, rfl⟩
  have hsl : s.length = 150 := by rw [hs, List.length_replicate]
  have hs0 : s[0]? = some z := by rw [hs, List.getElem?_replicate, if_pos (by omega)]
  have hsz : ∀ x ∈ s, x.size = 256 := fun x hx => by rw [hs] at hx; rw [List.eq_of_mem_replicate hx]; exact hzs
  have hok := alive_ok9 hXs hYs
  obtain ⟨t, ht⟩ : ∃ t, t = doneS s 0 [(0, X), (5, Y)] [0, 5] := ⟨_, rfl⟩
  have htl : t.length = 150 := by rw [ht, CommitOk.done_len, hsl]
  have ht0 : t[0]? = some (doneB 1) := by rw [ht]; exact hok.done_head s hsl
  have ht5 : t[116]? = some Y := by
    have := hok.done_at s hsl (t := 5) (by omega) (by omega)
    rw [if_pos (by simp)] at this
    rw [ht]
    exact this
  have htz : ∀ x ∈ t, x.size ≤ 100000 := fun x hx => by have := hok.done_small s hsz x (by rw [← ht]; exact hx); omega
  have HRUN : Hid (∀ k, commitR (calm s 0) 0 k [(0, X), (5, Y)] = ⟨calm t 6, 1, true, k + 1, 0⟩) := Lib.hid (fun k => by rw [hok.run s hsl 0 k, ht]; rfl)
  have HN : Hid (Calls Tryz.prog 6 #[.int .i64 150] w fun e w' => ∃ g O, e = .returned (.tuple #[.pointer (some ⟨g, 0, none⟩), .int .i64 0]) ∧ DiskAt w' O g (calm s 0) ∧ (∀ b ∈ O, w.heap.size ≤ b) ∧ Below w.heap.size w w') := Lib.hid (by
    rw [hs, hz]
    exact dnew_yes 150 150 w rfl (by omega) (by omega))
  have HF : Hid (∀ w, Calls Tryz.prog 9 #[.string ⟨#[97]⟩] w fun e w' => e = .returned (.string X) ∧ Below w.heap.size w w') := Lib.hid (fun w => by rw [hX]; exact fill_any _ w (by decide))
  have HF2 : Hid (∀ w, Calls Tryz.prog 9 #[.string ⟨#[98]⟩] w fun e w' => e = .returned (.string Y) ∧ Below w.heap.size w w') := Lib.hid (fun w => by rw [hY]; exact fill_any _ w (by decide))
  have HO1 : Hid (∀ W O g, DiskAt W O g (calm s 0) → Calls Tryz.prog 7 #[.pointer (some ⟨g, 0, none⟩)] W fun e w' => ∃ gw, e = .returned (.tuple #[.pointer (some ⟨gw, 0, none⟩), .int .i64 0]) ∧ Blk w' gw 66 (walC g 0 true 0) ∧ W.heap.size ≤ gw ∧ Below W.heap.size W w') := Lib.hid (fun W O g hd => wopen_plain hd (fun x hx => by have := hsz x hx; omega) rfl (by show 0 < s.length; omega) (calm_read (n := 0) hs0).1 (by rw [hz]; exact read_zero))
  have HO2 : Hid (∀ W O g, DiskAt W O g (calm t 6) → Calls Tryz.prog 7 #[.pointer (some ⟨g, 0, none⟩)] W fun e w' => ∃ gw, e = .returned (.tuple #[.pointer (some ⟨gw, 0, none⟩), .int .i64 0]) ∧ Blk w' gw 66 (walC g 1 true 0) ∧ W.heap.size ≤ gw ∧ Below W.heap.size W w') := Lib.hid (fun W O g hd => wopen_plain hd htz rfl (by show 0 < t.length; omega) (calm_read (n := 6) ht0).1 (read_done (by omega) (by omega)))
  have HC : Hid (∀ W O g gw b, Blk W gw 66 (walC g 0 true 0) → DiskAt W O g (calm s 0) → gw ∉ O → Blk W b 39 #[.int .i64 0, .string X, .int .i64 5, .string Y] → b ∉ O → Calls Tryz.prog 12 #[.pointer (some ⟨gw, 0, none⟩), .slice (some ⟨b, 0, none⟩) 2 2] W fun e w' => e = .returned (.int .i64 0) ∧ WTurns O gw g ⟨calm t 6, 1, true, 1, 0⟩ W w') := Lib.hid (fun W O g gw b h1 h2 h3 h4 h5 => by
    refine (wcommit_any (some ⟨b, 0, none⟩) [(0, X), (5, Y)] h1 h2 (calm_ok s 0) h3 (by show 111 ≤ s.length; omega) (by show s.length ≤ 2000; omega) ⟨by omega, by omega⟩ ⟨by omega, by omega⟩ rfl (wrts_pair h4 h5) (show 2 ≤ 100000 by omega) (show (0 : Nat) ≤ 9223372036854775807 by decide) (show (0 : Nat) < 900000000000 by decide) (show (0 : Nat) < 900000000000 by decide)).mono ?_
    rw [HRUN.out]
    intro e w' h
    exact h)
  have HR : Hid (∀ W O g gw, Blk W gw 66 (walC g 1 true 0) → DiskAt W O g (calm t 6) → Calls Tryz.prog 22 #[.pointer (some ⟨gw, 0, none⟩), .int .i64 5] W fun e w' => e = .returned (.tuple #[.string Y, .int .i64 0]) ∧ Below W.heap.size W w') := Lib.hid (fun W O g gw h1 h2 => by
    have := wread_any 5 h1 h2 htl (by omega) (by omega) htz
    rw [if_pos ⟨by omega, by omega⟩] at this
    have e := calm_read (n := 6) ht5
    rw [show (111 : Int) + 5 = ((116 : Nat) : Int) by omega, e.1, e.2] at this
    exact this)
  have HSZ : Hid (∀ W O g gw q k, Blk W gw 66 (walC g q true k) → DiskAt W O g (calm t 6) → Calls Tryz.prog 24 #[.pointer (some ⟨gw, 0, none⟩)] W fun e w' => e = .returned (.int .i64 39) ∧ W = w') := Lib.hid (fun W O g gw q k h1 h2 => by
    have := wsize_any h1 h2 htl (by omega) (by omega)
    exact this)
  clear hz hzs hX hY hXs hYs hs hsl hs0 hsz hok ht htl ht0 ht5 htz HRUN
  go_enter Tryz.func5, Tryz.ntmps5
  go_wp2_with fail
  refine HN.out.mono ?_
  rintro e w1 ⟨g, O, rfl, hD, hO, hb⟩
  have HD := Lib.hid hD
  have HO := Lib.hid hO
  have HB := Lib.hid hb
  clear hD hO hb
  go_wp2_with fail
  refine (HO1.out _ _ _ HD.out).mono ?_
  rintro e w2 ⟨gw, rfl, hw, hgw, hb2⟩
  have HW2 := Lib.hid hw
  have HD2 := Lib.hid (HD.out.below hb2)
  have HB2 := Lib.hid (HB.out.trans (hb2.mono HB.out.size))
  have HGN : Hid (gw ∉ O) := Lib.hid (fun hm => by have := HD.out.lt hm; omega)
  have HGW : Hid (w.heap.size ≤ gw) := Lib.hid (Nat.le_trans HB.out.size hgw)
  clear hw hgw hb2 HD HB
  go_wp2_with fail
  refine (HF.out _).mono ?_
  rintro e w3 ⟨rfl, hb3⟩
  have HW3 := Lib.hid (HW2.out.below hb3 HW2.out.lt)
  have HD3 := Lib.hid (HD2.out.below hb3)
  have HB3 := Lib.hid (HB2.out.trans (hb3.mono HB2.out.size))
  clear hb3 HW2 HD2 HB2
  go_wp2_with fail
  refine (HF2.out _).mono ?_
  rintro e w4 ⟨rfl, hb4⟩
  have HW4 := Lib.hid (HW3.out.below hb4 HW3.out.lt)
  have HD4 := Lib.hid (HD3.out.below hb4)
  have HB4 := Lib.hid (HB3.out.trans (hb4.mono HB3.out.size))
  clear hb4 HW3 HD3 HB3
  go_wp2_with fail
  obtain ⟨W, hW⟩ : ∃ W, W = w4.alloc (.cells #[.int .i64 0, .string X, .int .i64 5, .string Y] 39) := ⟨_, rfl⟩
  obtain ⟨gb, hgb⟩ : ∃ gb, gb = w4.heap.size := ⟨_, rfl⟩
  have bW : Blk W gb 39 #[.int .i64 0, .string X, .int .i64 5, .string Y] := by rw [hW, hgb]; exact Blk.new _ _ _
  have hWb : Below w4.heap.size w4 W := by rw [hW]; exact (Below.refl _ _).alloc (Nat.le_refl _) _
  rw [← hW, ← hgb]
  have hn : gb ∉ O := fun hm => by have := HD4.out.lt hm; omega
  refine (HC.out W O g gw gb (HW4.out.below hWb HW4.out.lt) (HD4.out.below hWb) HGN.out bW hn).mono ?_
  rintro e w5 ⟨rfl, O5, d1, d2, d3, d4⟩
  have hB5 : Below w.heap.size w w5 := (HB4.out.trans (hWb.mono HB4.out.size)).trans (d3.below (fun b hb => by
    rcases List.mem_cons.1 hb with rfl | hb
    · exact HGW.out
    · exact HO.out b hb) (Nat.le_trans HB4.out.size hWb.size))
  have HD5 := Lib.hid d1
  have HW5 := Lib.hid d4
  have HB5 := Lib.hid hB5
  clear hW hgb bW hWb hn d1 d2 d3 d4 hB5 HW4 HD4 HB4
  go_wp2_with fail
  refine (HO2.out _ _ _ HD5.out).mono ?_
  rintro e w6 ⟨gv, rfl, hv, hgv, hb6⟩
  have HV6 := Lib.hid hv
  have HW6 := Lib.hid (HW5.out.below hb6 HW5.out.lt)
  have HD6 := Lib.hid (HD5.out.below hb6)
  have HB6 := Lib.hid (HB5.out.trans (hb6.mono HB5.out.size))
  clear hv hgv hb6 HW5 HD5 HB5
  go_wp2_with fail
  refine (HR.out _ _ _ _ HV6.out HD6.out).mono ?_
  rintro e w7 ⟨rfl, hb7⟩
  have HV7 := Lib.hid (HV6.out.below hb7 HV6.out.lt)
  have HW7 := Lib.hid (HW6.out.below hb7 HW6.out.lt)
  have HD7 := Lib.hid (HD6.out.below hb7)
  have HB7 := Lib.hid (HB6.out.trans (hb7.mono HB6.out.size))
  clear hb7 HW6 HD6 HB6 HV6
  go_wp2_with (first
    | (go_at_call 15; refine (wseq_any HV7.out).mono ?_; rintro e w8 ⟨rfl, rfl⟩)
    | (go_at_call 24; refine (HSZ.out _ _ _ _ _ _ HV7.out HD7.out).mono ?_; rintro e w8 ⟨rfl, rfl⟩)
    | (go_at_call 25; refine (wcommits_any HW7.out).mono ?_; rintro e w8 ⟨rfl, rfl⟩)
    | (go_at_call 17; refine (wup_any HW7.out).mono ?_; rintro e w8 ⟨rfl, rfl⟩))
  go_ret
  exact ⟨rfl, HB7.out⟩
end Go.Proofs.YtbaanoomilohhaaGreatDoor
