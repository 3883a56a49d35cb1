/-
  Rows that are held beside a Desk: each call on it leaves them. No statement is proved here.
-/
import Derived.Test.YtnamokngiebicaaGreatDoorLinkGone
import Derived.Test.YtnamokngiebicaaGreatDoorChainRingsWalk
namespace Go.Proofs.YtnamokngiebicaaGreatDoor
open Go.RowKit

/-- A chain that is there. -/
structure CH where
  gen : Int
  tag : Int
  refs : Int
  data : ByteArray
  ps : List Int
def CH.at_ (c : CH) : Int := c.ps.getD 0 0
def CH.vals (c : CH) : List Value := [.int .i64 c.at_, .int .i64 c.gen, .int .i64 c.tag, .int .i64 c.refs, .string c.data]
def secsOf (cs : List CH) : List Int := cs.flatMap (·.ps)
/-- The same chain, used otherwise. -/
def CH.use (c : CH) (r : Int) : CH := ⟨c.gen, c.tag, r, c.data, c.ps⟩
structure St12 (K : KD) (cs : List CH) : Prop where
  on : ∀ c ∈ cs, ChainOn K.F c.gen c.tag c.refs c.data c.ps
  once : (secsOf cs).Nodup
  mem : ∀ z, z ∈ K.H ↔ (z = 0 ∨ z = 1) ∨ z ∈ secsOf cs
  cnt : K.H.length = 2 + (secsOf cs).length
section
variable {N : Nat} {K K' : KD} {cs l1 l2 : List CH} {c : CH}
theorem ChainOn.moved {F F' : Int → ByteArray} {gen tag refs : Int} {b : ByteArray} {ps : List Int} (h : ChainOn F gen tag refs b ps) (hk : ∀ p ∈ ps, F' p = F p) : ChainOn F' gen tag refs b ps :=
  ⟨h.fit, h.used, h.few, h.len, h.range, fun i hi => by rw [hk _ (h.mem hi)]; exact h.laid i hi⟩
theorem secs_mem {c : CH} (hc : c ∈ cs) {p : Int} (hp : p ∈ c.ps) : p ∈ secsOf cs := List.mem_flatMap.2 ⟨c, hc, hp⟩
theorem secs_app (l1 l2 : List CH) : secsOf (l1 ++ l2) = secsOf l1 ++ secsOf l2 := by simp [secsOf]
theorem secs_cons (c : CH) (l : List CH) : secsOf (c :: l) = c.ps ++ secsOf l := by simp [secsOf]
theorem secs_mid (l1 : List CH) (c : CH) (l2 : List CH) : secsOf (l1 ++ c :: l2) = secsOf l1 ++ (c.ps ++ secsOf l2) := by rw [secs_app, secs_cons]
theorem St12.used (s : St12 K cs) (hc : c ∈ cs) : ∀ p ∈ c.ps, p ∈ K.H := fun _ hp => (s.mem _).2 (.inr (secs_mem hc hp))
theorem St12.fresh {N : Nat} {h : List ByteArray} (f : Fresh11 N K h) : St12 K [] := by
  refine ⟨(fun c hc => by cases hc), List.nodup_nil, fun z => ?_, fresh_len f⟩
  rw [f.H]
  simp [secsOf]
theorem St12.put {gen tag nx t : Int} {b : ByteArray} {j : Nat} {ps : List Int} (s : St12 K cs) (hc : ChainOn K'.F gen tag 1 b ps) (q : PutOn N gen tag b j K nx K' t ps) : St12 K' (cs ++ [⟨gen, tag, 1, b, ps⟩]) := by
  have hno : ∀ z, z ∈ secsOf cs → z ∉ ps := fun z hz hp => (q.fresh z hp).1 ((s.mem z).2 (.inr hz))
  have e : secsOf (cs ++ [⟨gen, tag, 1, b, ps⟩]) = secsOf cs ++ ps := by simp [secsOf]
  refine ⟨fun c hcm => ?_, ?_, fun z => ?_, ?_⟩
  · rcases List.mem_append.1 hcm with hcm | hcm
    · exact (s.on c hcm).moved (fun p hp => q.rest p (hno p (secs_mem hcm hp)))
    · rw [List.mem_singleton.1 hcm]
      exact hc
  · rw [e, List.nodup_append]
    exact ⟨s.once, q.once, fun a ha b hb e => hno a ha (e ▸ hb)⟩
  · rw [e, q.mem, s.mem, List.mem_append, or_assoc]
  · rw [e, q.cnt, s.cnt, List.length_append, q.len]
    omega
theorem mid_not (hn : (secsOf (l1 ++ c :: l2)).Nodup) : ∀ c' ∈ l1 ++ l2, ∀ p ∈ c'.ps, p ∉ c.ps := by
  rw [secs_mid, List.nodup_append] at hn
  obtain ⟨_, h2, h3⟩ := hn
  rw [List.nodup_append] at h2
  obtain ⟨_, _, h4⟩ := h2
  intro c' hc' p hp hq
  rcases List.mem_append.1 hc' with h | h
  · exact h3 p (secs_mem h hp) p (List.mem_append.2 (.inl hq)) rfl
  · exact h4 p hq p (secs_mem h hp) rfl
theorem St12.drop {H' : List Int} (s : St12 K (l1 ++ c :: l2)) (hl : H'.length + c.ps.length = K.H.length) (hH : ∀ z, z ∈ H' ↔ z ∈ K.H ∧ z ∉ c.ps) : St12 (useK K H') (l1 ++ l2) := by
  have hno := mid_not s.once
  have hsub : ∀ c' ∈ l1 ++ l2, c' ∈ l1 ++ c :: l2 := fun c' h => by
    simp only [List.mem_append, List.mem_cons] at h ⊢
    rcases h with h | h
    · exact .inl h
    · exact .inr (.inr h)
  have hc := s.on c (by simp)
  refine ⟨fun c' hc' => ?_, ?_, fun z => ?_, ?_⟩
  · refine (s.on c' (hsub c' hc')).moved (fun p hp => ?_)
    show keepF H' K.F p = K.F p
    unfold keepF
    rw [if_pos ((hH p).2 ⟨s.used (hsub c' hc') p hp, hno c' hc' p hp⟩)]
  · have := s.once
    rw [secs_mid, List.nodup_append, List.nodup_append] at this
    obtain ⟨a1, ⟨_, a2, _⟩, a3⟩ := this
    rw [secs_app, List.nodup_append]
    exact ⟨a1, a2, fun a ha b hb => a3 a ha b (List.mem_append.2 (.inr hb))⟩
  · show z ∈ H' ↔ _
    rw [hH, s.mem, secs_mid, secs_app]
    simp only [List.mem_append]
    constructor
    · rintro ⟨h1 | h1 | h1 | h1, h2⟩
      · exact .inl h1
      · exact .inr (.inl h1)
      · exact absurd h1 h2
      · exact .inr (.inr h1)
    · rintro (h1 | h1 | h1)
      · refine ⟨.inl h1, fun hp => ?_⟩
        have := (hc.range z hp).1
        omega
      · obtain ⟨c', q1, q2⟩ := List.mem_flatMap.1 h1
        exact ⟨.inr (.inl h1), hno c' (List.mem_append.2 (.inl q1)) z q2⟩
      · obtain ⟨c', q1, q2⟩ := List.mem_flatMap.1 h1
        exact ⟨.inr (.inr (.inr h1)), hno c' (List.mem_append.2 (.inr q1)) z q2⟩
  · show H'.length = _
    have := s.cnt
    rw [secs_mid] at this
    rw [secs_app]
    simp only [List.length_append] at this ⊢
    omega
/-- The Desk with a chain used otherwise. -/
def usedK (K : KD) (c : CH) (r : Int) : KD := layK K c.at_ (bs (linkAt c.gen c.tag r c.data c.ps 0).text)
theorem link_later {gen tag r r' : Int} {b : ByteArray} {ps : List Int} {i : Nat} (hi : i ≠ 0) : linkAt gen tag r b ps i = linkAt gen tag r' b ps i := by
  unfold linkAt
  rw [if_neg hi, if_neg hi]
theorem nodup_mid (hn : (secsOf (l1 ++ c :: l2)).Nodup) : c.ps.Nodup := by
  rw [secs_mid, List.nodup_append, List.nodup_append] at hn
  exact hn.2.1.1
theorem St12.refs {r : Int} (s : St12 K (l1 ++ c :: l2)) (hr : 0 ≤ r ∧ r ≤ 60000) : St12 (usedK K c r) (l1 ++ c.use r :: l2) := by
  have hno := mid_not s.once
  have hc := s.on c (by simp)
  have hn := nodup_mid s.once
  have h0 := hc.mem (i := 0) (by have := hc.count; omega)
  have hrest : ∀ z, z ≠ c.at_ → (usedK K c r).F z = K.F z := fun z hz => updF_other _ _ hz
  have e : secsOf (l1 ++ c.use r :: l2) = secsOf (l1 ++ c :: l2) := by rw [secs_mid, secs_mid]; rfl
  have hsub : ∀ c' ∈ l1 ++ l2, c' ∈ l1 ++ c :: l2 := fun c' h => by
    simp only [List.mem_append, List.mem_cons] at h ⊢
    rcases h with h | h
    · exact .inl h
    · exact .inr (.inr h)
  have hold : ∀ c' ∈ l1 ++ l2, ChainOn (usedK K c r).F c'.gen c'.tag c'.refs c'.data c'.ps := fun c' hc' =>
    (s.on c' (hsub c' hc')).moved (fun p hp => hrest p (fun e => hno c' hc' p hp (by rw [e]; exact h0)))
  refine ⟨fun c' hc' => ?_, ?_, fun z => ?_, ?_⟩
  · simp only [List.mem_append, List.mem_cons] at hc'
    rcases hc' with h | rfl | h
    · exact hold c' (List.mem_append.2 (.inl h))
    · refine ⟨hc.fit, hr, hc.few, hc.len, hc.range, fun i hi => ?_⟩
      have hi : i < c.ps.length := hi
      show (usedK K c r).F (c.ps.getD i 0) = bs (linkAt c.gen c.tag r c.data c.ps i).text
      rcases Nat.eq_zero_or_pos i with rfl | h'
      · exact updF_same _ _ _
      · rw [hrest _ (fun e => by have := getD_inj hn hi (by omega) e; omega), hc.laid i hi, link_later (by omega)]
    · exact hold c' (List.mem_append.2 (.inr h))
  · rw [e]; exact s.once
  · rw [e]; exact s.mem z
  · rw [e]; exact s.cnt
/-- What Refs tells of a chain, and leaves. -/
theorem on_refs {gen tag refs by_ : Int} {b : ByteArray} {ps : List Int} (hc : ChainOn K.F gen tag refs b ps) (hH : ∀ p ∈ ps, p ∈ K.H) :
    (by_ < -refs ∨ 60000 - refs < by_ → refsE K (ps.getD 0 0) by_ = (0, 15) ∧ refsK K (ps.getD 0 0) by_ = K) ∧
    (¬ (by_ < -refs ∨ 60000 - refs < by_) → refsE K (ps.getD 0 0) by_ = (refs + by_, 0) ∧ refsK K (ps.getD 0 0) by_ = layK K (ps.getD 0 0) (bs (linkAt gen tag (refs + by_) b ps 0).text)) := by
  have hf := on_firstC hc
  have e2 : (chainR K (ps.getD 0 0)).2 = 0 := by rw [on_chainR hc]
  have hfr : (firstC K (ps.getD 0 0)).refs = refs := by rw [hf]; rfl
  have hl0 : 0 < ps.length := by have := hc.count; omega
  unfold refsE refsK
  have e3 : ¬ (chainR K (ps.getD 0 0)).2 ≠ 0 := by rw [e2]; simp
  rw [if_neg e3, if_neg e3, hfr]
  constructor
  · intro h
    rw [if_pos h, if_pos h]
    exact ⟨rfl, rfl⟩
  · intro h
    have hx : (refsX (firstC K (ps.getD 0 0)) by_).text = (linkAt gen tag (refs + by_) b ps 0).text := by rw [hf]; rfl
    have hu := hc.used
    have hok : (linkAt gen tag (refs + by_) b ps 0).Ok := by
      have := hc.ok hl0
      exact ⟨this.fit, this.num, (by show 0 ≤ refs + by_ ∧ refs + by_ ≤ 60000; omega), this.next, this.data⟩
    obtain ⟨t1, t2⟩ := lay_ok hc hH hl0 (s := bs (linkAt gen tag (refs + by_) b ps 0).text) (by rw [bs_size, hok.text_len])
    rw [if_neg h, if_neg h, hx, t1, t2, if_neg (by simp)]
    exact ⟨rfl, rfl⟩
/-- All sectors that are in use. -/
theorem St12.all (s : St12 K cs) (hr : K.H.Pairwise (· < ·)) : K.H = [0, 1] ++ putEach (secsOf cs) := by
  obtain ⟨p1, p2⟩ := putEach_spec (secsOf cs)
  have h2 : ∀ z ∈ putEach (secsOf cs), 2 ≤ z := fun z hz => by
    obtain ⟨c, hc, hp⟩ := List.mem_flatMap.1 ((p2 z).1 hz)
    exact ((s.on c hc).range z hp).1
  refine strict_ext _ _ hr ?_ (fun z => ?_)
  · rw [List.pairwise_append]
    refine ⟨by decide, p1, fun a ha b hb => ?_⟩
    have := h2 b hb
    simp only [List.mem_cons, List.not_mem_nil, or_false] at ha
    omega
  · rw [s.mem, List.mem_append, p2]
    simp
theorem putEach_add (l : List Int) (x : Int) : putEach (l ++ [x]) = putL x (putEach l) := by
  unfold putEach
  rw [List.foldl_append]
  rfl
theorem take_mid {j : Nat} (hj : cs[j]? = some c) : cs = cs.take j ++ c :: cs.drop (j + 1) ∧ cs.take (j + 1) = cs.take j ++ [c] := by
  obtain ⟨h1, h2⟩ := List.getElem?_eq_some_iff.1 hj
  subst h2
  refine ⟨?_, List.take_succ_eq_append_getElem h1⟩
  rw [List.getElem_cons_drop, List.take_append_drop]
/-- No sector comes twice. -/
theorem St12.new (s : St12 K cs) {j v : Nat} {p : Int} (hj : cs[j]? = some c) (hv : c.ps[v]? = some p) : p ∉ putEach (secsOf (cs.take j) ++ c.ps.take v) := by
  rw [(putEach_spec _).2]
  have hn := s.once
  rw [(take_mid hj).1, secs_mid, List.nodup_append, List.nodup_append] at hn
  obtain ⟨_, ⟨h2, _, _⟩, h4⟩ := hn
  obtain ⟨g1, g2⟩ := List.getElem?_eq_some_iff.1 hv
  intro hp
  rcases List.mem_append.1 hp with hp | hp
  · exact h4 p hp p (List.mem_append.2 (.inl (by rw [← g2]; exact List.getElem_mem g1))) rfl
  · rw [← List.take_append_drop v c.ps, List.nodup_append] at h2
    refine h2.2.2 p hp p ?_ rfl
    rw [← g2]
    rw [← List.getElem_cons_drop g1]
    exact List.mem_cons_self
theorem step_take {l : List Int} {v : Nat} {p : Int} (hv : l[v]? = some p) (a : List Int) : putEach (a ++ l.take (v + 1)) = putL p (putEach (a ++ l.take v)) := by
  obtain ⟨g1, g2⟩ := List.getElem?_eq_some_iff.1 hv
  subst g2
  rw [List.take_succ_eq_append_getElem g1, ← List.append_assoc, putEach_add]
theorem secs_step {j : Nat} (hj : cs[j]? = some c) : secsOf (cs.take (j + 1)) = secsOf (cs.take j) ++ c.ps := by
  rw [(take_mid hj).2, secs_app]
  simp [secsOf]
end
end Go.Proofs.YtnamokngiebicaaGreatDoor

namespace Go.Proofs.YtnamokngiebicaaGreatDoor
open Go.RowKit

/-- A row whose block is held. -/
def HeldRow (Ms : List MK) (base : Nat) (e : TypeId) (size : Nat) (v : Value) (n : Nat) (xs : List Value) : Prop :=
  xs.length = n * size ∧
  ((v = .slice none 0 0 ∧ n = 0) ∨
   ∃ g cap cur, v = .slice (some ⟨g, 0, none⟩) n cap ∧ base ≤ g ∧ MK.held g (.cells cur e (0, 0)) ∈ Ms ∧ n ≤ cap ∧ cap ≤ maxLen ∧ cur.size = cap * size ∧ cur.toList.take (n * size) = xs)
section
variable {w0 w w' : World} {g gd m N : Nat} {K : KD} {Ms Ms' : List MK} {base : Nat} {e : TypeId} {size : Nat} {v : Value} {n : Nat} {xs : List Value}
theorem HeldRow.nil : HeldRow Ms base e size (.slice none 0 0) 0 [] := ⟨by simp, .inl ⟨rfl, rfl⟩⟩
theorem HeldRow.row (h : HeldRow Ms base e size v n xs) (s : DMk w0 w g gd m N K Ms) : w.ownsRow base e size v n xs := by
  refine ⟨h.1, ?_⟩
  rcases h.2 with h | ⟨b, cap, cur, h1, h2, h3, h4⟩
  · exact .inl h
  · exact .inr ⟨b, cap, cur, h1, h2, s.held h3, h4⟩
theorem HeldRow.more (h : HeldRow Ms base e size v n xs) (hs : ∀ M ∈ Ms, M ∈ Ms') : HeldRow Ms' base e size v n xs := by
  refine ⟨h.1, ?_⟩
  rcases h.2 with h | ⟨b, cap, cur, h1, h2, h3, h4⟩
  · exact .inl h
  · exact .inr ⟨b, cap, cur, h1, h2, hs _ h3, h4⟩
theorem HeldRow.low {base' : Nat} (h : HeldRow Ms base e size v n xs) (hb : base' ≤ base) : HeldRow Ms base' e size v n xs := by
  refine ⟨h.1, ?_⟩
  rcases h.2 with h | ⟨b, cap, cur, h1, h2, h3, h4⟩
  · exact .inl h
  · exact .inr ⟨b, cap, cur, h1, Nat.le_trans hb h2, h3, h4⟩
/-- A new row is held from now on. -/
theorem DMk.holdRow (s : DMk w0 w g gd m N K Ms) (hb : Below w.heap.size w w') (hr : w'.ownsRow w.heap.size e size v n xs) : ∃ Ms', DMk w0 w' g gd m N K Ms' ∧ HeldRow Ms' w.heap.size e size v n xs ∧ ∀ M ∈ Ms, M ∈ Ms' := by
  rcases hr.2 with h | ⟨b, cap, cur, h1, h2, h3, h4⟩
  · exact ⟨Ms, s.below hb, ⟨hr.1, .inl h⟩, fun _ h => h⟩
  · exact ⟨.held b (.cells cur e (0, 0)) :: Ms, s.hold hb h2 h3, ⟨hr.1, .inr ⟨b, cap, cur, h1, h2, by simp, h4⟩⟩, fun _ h => List.mem_cons_of_mem _ h⟩
/-- A row that came in, or stands since before the Desk. -/
theorem DMk.drewN {Ms : List MK} (s : DMk w0 w g gd m N K Ms) (d : Nat) : DMk w0 (w.drewN d) g gd m N K Ms := s.below ⟨rfl, rfl, rfl, Nat.le_refl _, fun _ _ => rfl⟩
end
section
def flatH (l : List CH) : List Value := l.flatMap CH.vals
theorem CH.vals_len (x : CH) : x.vals.length = 5 := rfl
theorem flatH_len (l : List CH) : (flatH l).length = l.length * 5 := by
  induction l with
  | nil => rfl
  | cons x r ih =>
    show (x.vals ++ flatH r).length = _
    rw [List.length_append, ih, x.vals_len, List.length_cons]
    omega
theorem flatH_app (l r : List CH) : flatH (l ++ r) = flatH l ++ flatH r := by simp [flatH]
theorem flatH_snoc (l : List CH) (x : CH) : flatH (l ++ [x]) = flatH l ++ x.vals := by simp [flatH]
theorem flatH_take (l : List CH) (j : Nat) (hj : j ≤ l.length) : (flatH l).take (j * 5) = flatH (l.take j) := by
  conv => lhs; rw [← List.take_append_drop j l, flatH_app]
  rw [List.take_append_of_le_length (by rw [flatH_len, List.length_take]; omega), List.take_of_length_le (by rw [flatH_len, List.length_take]; omega)]
theorem flatH_drop (l : List CH) (j : Nat) (hj : j ≤ l.length) : (flatH l).drop (j * 5) = flatH (l.drop j) := by
  conv => lhs; rw [← List.take_append_drop j l, flatH_app]
  have e : (flatH (l.take j)).length = j * 5 := by rw [flatH_len, List.length_take]; omega
  rw [← e, List.drop_left]
theorem flatH_get {l : List CH} {j : Nat} {x : CH} (h : l[j]? = some x) {i : Nat} (hi : i < 5) : (flatH l)[j * 5 + i]? = x.vals[i]? := by
  induction l generalizing j with
  | nil => cases h
  | cons y r ih =>
    have e : flatH (y :: r) = y.vals ++ flatH r := rfl
    rw [e]
    cases j with
    | zero =>
      rw [List.getElem?_cons_zero] at h
      injection h with h
      subst h
      rw [List.getElem?_append_left (by rw [CH.vals_len]; omega), Nat.zero_mul, Nat.zero_add]
    | succ j =>
      rw [List.getElem?_append_right (by rw [CH.vals_len]; omega), CH.vals_len, show (j + 1) * 5 + i - 5 = j * 5 + i by omega]
      exact ih (by simpa using h)
structure ThereCells (w : World) (g o : Nat) (x : CH) : Prop where
  c0 : w.cell? ⟨g, o, none⟩ = some (.int .i64 x.at_)
  c1 : w.cell? ⟨g, o + 1, none⟩ = some (.int .i64 x.gen)
  c2 : w.cell? ⟨g, o + 2, none⟩ = some (.int .i64 x.tag)
  c3 : w.cell? ⟨g, o + 3, none⟩ = some (.int .i64 x.refs)
  c4 : w.cell? ⟨g, o + 4, none⟩ = some (.string x.data)
theorem there_cells {w : World} {base n c : Nat} {p : Option Addr} {l : List CH} (h : w.ownsRow base 75 5 (.slice p n c) n (flatH l)) (hn : 0 < n) : ∃ g, p = some ⟨g, 0, none⟩ ∧ base ≤ g ∧ g < w.heap.size ∧ ∀ (j : Nat) (x : CH), l[j]? = some x → ThereCells w g (j * 5) x := by
  obtain ⟨g, cap, e1, hb, hlt⟩ := h.form hn
  injection e1 with e1 _ e3
  subst e1 e3
  have f : ∀ (j : Nat) (x : CH), l[j]? = some x → ∀ i u, i < 5 → x.vals[i]? = some u → w.cell? ⟨g, j * 5 + i, none⟩ = some u := fun j x hx i u hi hu => row_cell h ((flatH_get hx hi).trans hu)
  exact ⟨g, rfl, hb, hlt, fun j x hx => ⟨f j x hx 0 _ (by omega) rfl, f j x hx 1 _ (by omega) rfl, f j x hx 2 _ (by omega) rfl, f j x hx 3 _ (by omega) rfl, f j x hx 4 _ (by omega) rfl⟩⟩
theorem there_info : (Tryz.prog.info? 75).map (fun i => (i.zero, i.size, i.bytes)) = some (some (.agg #[.int .i64 0, .int .i64 0, .int .i64 0, .int .i64 0, .string .empty]), 5, 48) := by kernel_rfl
end
end Go.Proofs.YtnamokngiebicaaGreatDoor
