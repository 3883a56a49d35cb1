/-
  A chain's sector as plain data: its bytes, what is read out of any bytes, a walk along a chain. No statement is proved here.
-/
import Derived.Test.YtolbnkpakjdnnaaGreatDoorDeskMarks
import Derived.Test.YtolbnkpakjdnnaaGreatDoorHeadReadAny
namespace Go.Proofs.YtolbnkpakjdnnaaGreatDoor
open Go.RowKit

/-- A link: a sector of a chain, and where it stands. -/
structure LK where
  gen : Int
  tag : Int
  num : Int
  refs : Int
  next : Int
  data : ByteArray
  at_ : Int
def LK.vals (x : LK) : List Value := [.int .i64 x.gen, .int .i64 x.tag, .int .i64 x.num, .int .i64 x.refs, .int .i64 x.next, .string x.data, .int .i64 x.at_]
def LK.val (x : LK) : Value := .agg #[.int .i64 x.gen, .int .i64 x.tag, .int .i64 x.num, .int .i64 x.refs, .int .i64 x.next, .string x.data, .int .i64 x.at_]
/-- The same link, told to stand somewhere. -/
def LK.put (x : LK) (t : Int) : LK := ⟨x.gen, x.tag, x.num, x.refs, x.next, x.data, t⟩
def LK.zero : LK := ⟨0, 0, 0, 0, 0, .empty, 0⟩
def fitsC (gen tag : Int) : Bool := decide (1 ≤ gen ∧ gen ≤ 3 ∧ 0 ≤ tag ∧ tag ≤ 200)
/-- A link that can be laid. -/
structure LK.Ok (x : LK) : Prop where
  fit : 1 ≤ x.gen ∧ x.gen ≤ 3 ∧ 0 ≤ x.tag ∧ x.tag ≤ 200
  num : 0 ≤ x.num ∧ x.num < 256
  refs : 0 ≤ x.refs ∧ x.refs ≤ 60000
  next : 0 ≤ x.next ∧ x.next < 65536
  data : x.data.size ≤ 236
def LK.bytes (x : LK) : List UInt8 := lowBytes 1 2 ++ (lowBytes 1 x.gen.toNat ++ (lowBytes 1 x.tag.toNat ++ (lowBytes 1 x.num.toNat ++ (lowBytes 2 x.refs.toNat ++ (lowBytes 2 x.next.toNat ++ textBytes x.data)))))
theorem LK.len (x : LK) : x.bytes.length = 10 + x.data.size := by
  unfold LK.bytes
  simp only [List.length_append, lowBytes_length, textBytes_len]
  omega
def LK.text (x : LK) : List UInt8 := body 256 x.bytes ++ lowBytes 4 (crc (body 256 x.bytes))
theorem LK.Ok.small {x : LK} (h : x.Ok) : (x.bytes.length : Int) ≤ 256 - 4 := by rw [x.len]; have := h.data; omega
theorem LK.Ok.body_len {x : LK} (h : x.Ok) : (body 256 x.bytes).length = 252 := by have := body_length h.small; omega
theorem LK.Ok.text_len {x : LK} (h : x.Ok) : x.text.length = 256 := by unfold LK.text; rw [List.length_append, h.body_len, lowBytes_length]
theorem LK.Ok.sealed {x : LK} (h : x.Ok) : sealB 256 x.bytes = (x.text, 0) := sealB_ok (by omega) (by omega) h.small
theorem LK.opened (x : LK) : openB x.text = (body 256 x.bytes, 0) := openB_back _

/-- The reader behind each of read's calls. -/
def stepR : Nat → Rd → Rd
  | 0, s => (s.num 1).2
  | 1, s => (s.num 1).2
  | 2, s => (s.num 1).2
  | 3, s => (s.num 1).2
  | 4, s => (s.num 2).2
  | 5, s => (s.num 2).2
  | _, s => s.text.2
def rdC (b : ByteArray) : Nat → Rd
  | 0 => ⟨bs (openB b.data.toList).1, 0⟩
  | n + 1 => stepR n (rdC b n)
def lkR (b : ByteArray) : LK := ⟨((rdC b 1).num 1).1, ((rdC b 2).num 1).1, ((rdC b 3).num 1).1, ((rdC b 4).num 2).1, ((rdC b 5).num 2).1, (rdC b 6).text.1, 0⟩
def okR (b : ByteArray) : Bool := decide ((rdC b 7).fin.1 = 0) && decide (((rdC b 0).num 1).1 = 2) && fitsC (lkR b).gen (lkR b).tag && decide ((lkR b).refs ≤ 60000) && decide ((lkR b).data.size ≤ 236)
/-- What read answers. -/
def readL (b : ByteArray) : LK × Bool := if (openB b.data.toList).2 ≠ 0 then (LK.zero, false) else (lkR b, okR b)

theorem num_fit {k : Nat} {n : Int} (r : List UInt8) (h0 : 0 ≤ n) (h1 : n.toNat < 256 ^ k) (h2 : n ≤ 9223372036854775807) : (Rd.mk (bs (lowBytes k n.toNat ++ r)) 0).num k = (n, (⟨bs r, 0⟩ : Rd)) := by
  rw [num_bs k n.toNat r h1 (by omega), Int.toNat_of_nonneg h0]
theorem LK.Ok.reads {x : LK} (h : x.Ok) : readL (bs x.text) = ((x.put 0), true) := by
  obtain ⟨⟨f1, f2, f3, f4⟩, ⟨n1, n2⟩, ⟨u1, u2⟩, ⟨x1, x2⟩, hd⟩ := h
  obtain ⟨z, hz⟩ : ∃ z, body 256 x.bytes = x.bytes ++ List.replicate z 0 := ⟨_, rfl⟩
  have e0 : rdC (bs x.text) 0 = ⟨bs (x.bytes ++ List.replicate z 0), 0⟩ := by
    show (⟨bs (openB (bs x.text).data.toList).1, 0⟩ : Rd) = _
    rw [bs_list, LK.opened, hz]
  have hb : x.bytes ++ List.replicate z 0 = lowBytes 1 (2 : Int).toNat ++ (lowBytes 1 x.gen.toNat ++ (lowBytes 1 x.tag.toNat ++ (lowBytes 1 x.num.toNat ++ (lowBytes 2 x.refs.toNat ++ (lowBytes 2 x.next.toNat ++ (textBytes x.data ++ List.replicate z 0)))))) := by
    unfold LK.bytes
    simp only [List.append_assoc]
    rfl
  rw [hb] at e0
  have k0 : ∃ r, (rdC (bs x.text) 0).num 1 = (2, r) ∧ r = ⟨bs (lowBytes 1 x.gen.toNat ++ (lowBytes 1 x.tag.toNat ++ (lowBytes 1 x.num.toNat ++ (lowBytes 2 x.refs.toNat ++ (lowBytes 2 x.next.toNat ++ (textBytes x.data ++ List.replicate z 0)))))), 0⟩ := ⟨_, by rw [e0]; exact num_fit _ (by omega) (by decide) (by omega), rfl⟩
  obtain ⟨r0, k0, g0⟩ := k0
  have e1 : rdC (bs x.text) 1 = r0 := congrArg Prod.snd k0
  have k1 : ∃ r, (rdC (bs x.text) 1).num 1 = (x.gen, r) ∧ r = ⟨bs (lowBytes 1 x.tag.toNat ++ (lowBytes 1 x.num.toNat ++ (lowBytes 2 x.refs.toNat ++ (lowBytes 2 x.next.toNat ++ (textBytes x.data ++ List.replicate z 0))))), 0⟩ := ⟨_, by rw [e1, g0]; exact num_fit _ (by omega) (by omega) (by omega), rfl⟩
  obtain ⟨r1, k1, g1⟩ := k1
  have e2 : rdC (bs x.text) 2 = r1 := congrArg Prod.snd k1
  have k2 : ∃ r, (rdC (bs x.text) 2).num 1 = (x.tag, r) ∧ r = ⟨bs (lowBytes 1 x.num.toNat ++ (lowBytes 2 x.refs.toNat ++ (lowBytes 2 x.next.toNat ++ (textBytes x.data ++ List.replicate z 0)))), 0⟩ := ⟨_, by rw [e2, g1]; exact num_fit _ (by omega) (by omega) (by omega), rfl⟩
  obtain ⟨r2, k2, g2⟩ := k2
  have e3 : rdC (bs x.text) 3 = r2 := congrArg Prod.snd k2
  have k3 : ∃ r, (rdC (bs x.text) 3).num 1 = (x.num, r) ∧ r = ⟨bs (lowBytes 2 x.refs.toNat ++ (lowBytes 2 x.next.toNat ++ (textBytes x.data ++ List.replicate z 0))), 0⟩ := ⟨_, by rw [e3, g2]; exact num_fit _ (by omega) (by omega) (by omega), rfl⟩
  obtain ⟨r3, k3, g3⟩ := k3
  have e4 : rdC (bs x.text) 4 = r3 := congrArg Prod.snd k3
  have k4 : ∃ r, (rdC (bs x.text) 4).num 2 = (x.refs, r) ∧ r = ⟨bs (lowBytes 2 x.next.toNat ++ (textBytes x.data ++ List.replicate z 0)), 0⟩ := ⟨_, by rw [e4, g3]; exact num_fit _ (by omega) (by omega) (by omega), rfl⟩
  obtain ⟨r4, k4, g4⟩ := k4
  have e5 : rdC (bs x.text) 5 = r4 := congrArg Prod.snd k4
  have k5 : ∃ r, (rdC (bs x.text) 5).num 2 = (x.next, r) ∧ r = ⟨bs (textBytes x.data ++ List.replicate z 0), 0⟩ := ⟨_, by rw [e5, g4]; exact num_fit _ (by omega) (by omega) (by omega), rfl⟩
  obtain ⟨r5, k5, g5⟩ := k5
  have e6 : rdC (bs x.text) 6 = r5 := congrArg Prod.snd k5
  have k6 : (rdC (bs x.text) 6).text = (x.data, ⟨bs (List.replicate z 0), 0⟩) := by rw [e6, g5]; exact text_bs _ _ (by omega)
  have e7 : rdC (bs x.text) 7 = ⟨bs (List.replicate z 0), 0⟩ := congrArg Prod.snd k6
  have k7 : (rdC (bs x.text) 7).fin.1 = 0 := by rw [e7]; exact congrArg Prod.fst (fin_bs z)
  have eL : lkR (bs x.text) = (x.put 0) := by
    unfold lkR
    rw [k1, k2, k3, k4, k5, k6]
    rfl
  have eO : okR (bs x.text) = true := by
    unfold okR
    rw [eL, k7, k0]
    simp only [fitsC, LK.put]
    simp [f1, f2, f3, f4, u2, hd]
  unfold readL
  rw [bs_list, LK.opened, if_neg (by simp), eL, eO]

def agreeC (x : LK) : List LK → Bool
  | [] => true
  | a :: _ => decide (x.gen = a.gen ∧ x.tag = a.tag ∧ x.refs = 0 ∧ x.data ≠ .empty)
def followsC (x : LK) (l : List LK) : Bool := if x.num ≠ (l.length : Int) ∨ x.next ≠ 0 ∧ x.data.size ≠ 236 then false else agreeC x l
/-- A walk along a chain, of so many sectors at most, behind those ahead. -/
def walkC (G : Int → ByteArray × Int) : Nat → List LK → Int → List LK × Int
  | 0, _, _ => ([], 25)
  | n + 1, l, t =>
    if (G t).2 ≠ 0 then ([], (G t).2)
    else if (readL (G t).1).2 = false ∨ followsC (readL (G t).1).1 l = false then ([], 25)
    else if (readL (G t).1).1.next = 0 then (l ++ [((readL (G t).1).1.put t)], 0)
    else walkC G n (l ++ [((readL (G t).1).1.put t)]) (readL (G t).1).1.next
theorem walkC_len (G : Int → ByteArray × Int) : ∀ (n : Nat) (l : List LK) (t : Int), (walkC G n l t).1.length ≤ l.length + n
  | 0, l, t => by simp [walkC]
  | n + 1, l, t => by
    unfold walkC
    split
    · simp
    · split
      · simp
      · split
        · rw [List.length_append]
          simp only [List.length_cons, List.length_nil]
          omega
        · have := walkC_len G n (l ++ [((readL (G t).1).1.put t)]) (readL (G t).1).1.next
          simp only [List.length_append, List.length_cons, List.length_nil] at this
          omega
theorem walkC_ok (G : Int → ByteArray × Int) : ∀ (n : Nat) (l : List LK) (t : Int), (walkC G n l t).2 = 0 → l.length < (walkC G n l t).1.length
  | 0, l, t => by simp [walkC]
  | n + 1, l, t => by
    unfold walkC
    split
    · rename_i h; intro h'; exact absurd h' h
    · split
      · intro h; exact absurd h (by decide)
      · split
        · intro _; simp
        · intro h
          have := walkC_ok G n (l ++ [((readL (G t).1).1.put t)]) (readL (G t).1).1.next h
          simp only [List.length_append, List.length_cons, List.length_nil] at this
          omega
def chainR (K : KD) (t : Int) : List LK × Int := walkC (getR K) 40 [] t

/-- A piece of a chain's bytes. -/
def pieceC (b : ByteArray) (i : Nat) : ByteArray := b.extract (i * 236) (min b.size ((i + 1) * 236))
theorem pieceC_size (b : ByteArray) (i : Nat) : (pieceC b i).size = min b.size ((i + 1) * 236) - i * 236 := by
  unfold pieceC
  rw [ByteArray.size_extract]
  omega
def needN (n : Nat) : Nat := if n = 0 then 1 else (n - 1) / 236 + 1
def joinC (l : List LK) : ByteArray := ⟨(l.flatMap fun x => x.data.data.toList).toArray⟩
/-- The links of a chain that stands at ps. -/
def linkAt (gen tag refs : Int) (b : ByteArray) (ps : List Int) (i : Nat) : LK := ⟨gen, tag, i, if i = 0 then refs else 0, ps.getD (i + 1) 0, pieceC b i, 0⟩
/-- A chain on a Desk: each of its sectors as it was laid. -/
structure ChainOn (F : Int → ByteArray) (gen tag refs : Int) (b : ByteArray) (ps : List Int) : Prop where
  fit : 1 ≤ gen ∧ gen ≤ 3 ∧ 0 ≤ tag ∧ tag ≤ 200
  used : 0 ≤ refs ∧ refs ≤ 60000
  few : b.size ≤ 9440
  len : ps.length = needN b.size
  range : ∀ p ∈ ps, 2 ≤ p ∧ p < 65536
  laid : ∀ i, i < ps.length → F (ps.getD i 0) = bs (linkAt gen tag refs b ps i).text
section
variable {F : Int → ByteArray} {gen tag refs : Int} {b : ByteArray} {ps : List Int}
theorem needN_le {n : Nat} (h : n ≤ 9440) : 1 ≤ needN n ∧ needN n ≤ 40 := by unfold needN; split <;> omega
theorem ChainOn.count (h : ChainOn F gen tag refs b ps) : 1 ≤ ps.length ∧ ps.length ≤ 40 := by rw [h.len]; exact needN_le h.few
theorem ChainOn.mem (_ : ChainOn F gen tag refs b ps) {i : Nat} (hi : i < ps.length) : ps.getD i 0 ∈ ps := by
  rw [List.getD_eq_getElem?_getD, List.getElem?_eq_getElem hi]
  exact List.getElem_mem hi
theorem ChainOn.next0 (_ : ChainOn F gen tag refs b ps) {i : Nat} (hi : ps.length ≤ i + 1) : ps.getD (i + 1) 0 = 0 := by
  rw [List.getD_eq_getElem?_getD, List.getElem?_eq_none hi]
  rfl
theorem ChainOn.ok (h : ChainOn F gen tag refs b ps) {i : Nat} (hi : i < ps.length) : (linkAt gen tag refs b ps i).Ok := by
  have hc := h.count
  refine ⟨h.fit, ⟨by show 0 ≤ (i : Int); omega, by show (i : Int) < 256; omega⟩, ?_, ?_, ?_⟩
  · show 0 ≤ (if i = 0 then refs else 0) ∧ (if i = 0 then refs else 0) ≤ 60000
    split
    · exact h.used
    · omega
  · show 0 ≤ ps.getD (i + 1) 0 ∧ ps.getD (i + 1) 0 < 65536
    rcases Nat.lt_or_ge (i + 1) ps.length with h' | h'
    · have := h.range _ (h.mem h')
      omega
    · rw [h.next0 h']
      omega
  · show (pieceC b i).size ≤ 236
    rw [pieceC_size]
    omega
/-- The links as a walk tells them. -/
def linksC (gen tag refs : Int) (b : ByteArray) (ps : List Int) (n : Nat) : List LK := (List.range n).map fun i => ((linkAt gen tag refs b ps i).put (ps.getD i 0))
theorem linksC_snoc (n : Nat) : linksC gen tag refs b ps (n + 1) = linksC gen tag refs b ps n ++ [((linkAt gen tag refs b ps n).put (ps.getD n 0))] := by
  unfold linksC
  rw [List.range_succ, List.map_append]
  rfl
theorem linksC_len (n : Nat) : (linksC gen tag refs b ps n).length = n := by simp [linksC]
theorem ChainOn.full (h : ChainOn F gen tag refs b ps) {i : Nat} (hi : i + 1 < ps.length) : (pieceC b i).size = 236 := by
  have hl := h.len
  rw [pieceC_size]
  unfold needN at hl
  split at hl
  · omega
  · omega
theorem ChainOn.some_ (h : ChainOn F gen tag refs b ps) {i : Nat} (h0 : 0 < i) (hi : i < ps.length) : pieceC b i ≠ .empty := by
  intro e
  have e2 := pieceC_size b i
  have hl := h.len
  rw [e] at e2
  have : ByteArray.empty.size = 0 := rfl
  unfold needN at hl
  split at hl
  · omega
  · omega
theorem ChainOn.follows (h : ChainOn F gen tag refs b ps) {i : Nat} (hi : i < ps.length) : followsC ((linkAt gen tag refs b ps i).put (0)) (linksC gen tag refs b ps i) = true := by
  unfold followsC
  rw [linksC_len, if_neg]
  · cases i with
    | zero => rfl
    | succ i =>
      have e : linksC gen tag refs b ps (i + 1) = ((linkAt gen tag refs b ps 0).put (ps.getD 0 0)) :: ((List.range i).map (· + 1)).map (fun i => ((linkAt gen tag refs b ps i).put (ps.getD i 0))) := by
        unfold linksC
        rw [List.range_succ_eq_map, List.map_cons, List.map_map]
      rw [e]
      refine decide_eq_true ⟨rfl, rfl, ?_, h.some_ (by omega) hi⟩
      show (if i + 1 = 0 then refs else 0) = 0
      rw [if_neg (by omega)]
  · rintro (h1 | ⟨h1, h2⟩)
    · exact h1 rfl
    · apply h2
      refine h.full ?_
      rcases Nat.lt_or_ge (i + 1) ps.length with h' | h'
      · exact h'
      · exact absurd (h.next0 h') h1
theorem ChainOn.read (h : ChainOn F gen tag refs b ps) {i : Nat} (hi : i < ps.length) : readL (F (ps.getD i 0)) = (((linkAt gen tag refs b ps i).put (0)), true) := by
  rw [h.laid i hi, (h.ok hi).reads]
/-- Of the first sectors of a chain a walk is at the next one. -/
theorem walk_to {G : Int → ByteArray × Int} (h : ChainOn F gen tag refs b ps) : ∀ i, i < ps.length → (∀ j, j < i → G (ps.getD j 0) = (F (ps.getD j 0), 0)) → walkC G 40 [] (ps.getD 0 0) = walkC G (40 - i) (linksC gen tag refs b ps i) (ps.getD i 0)
  | 0, _, _ => rfl
  | i + 1, hi, hG => by
    rw [walk_to h i (by omega) (fun j hj => hG j (by omega))]
    have hc := h.count
    obtain ⟨n, hn⟩ : ∃ n, 40 - i = n + 1 := ⟨40 - i - 1, by omega⟩
    have e1 := hG i (by omega)
    have e2 := h.read (i := i) (by omega)
    have e3 := h.follows (i := i) (by omega)
    rw [hn]
    rw [walkC, e1, if_neg (by simp), e2, if_neg (by simp [e3]), if_neg]
    · rw [linksC_snoc]
      rw [show 40 - (i + 1) = n by omega]
      rfl
    · show ps.getD (i + 1) 0 ≠ 0
      have := h.range _ (h.mem hi)
      omega
theorem walk_all {G : Int → ByteArray × Int} (h : ChainOn F gen tag refs b ps) (hG : ∀ j, j < ps.length → G (ps.getD j 0) = (F (ps.getD j 0), 0)) : walkC G 40 [] (ps.getD 0 0) = (linksC gen tag refs b ps ps.length, 0) := by
  have hc := h.count
  obtain ⟨i, hi⟩ : ∃ i, ps.length = i + 1 := ⟨ps.length - 1, by omega⟩
  rw [walk_to h i (by omega) (fun j hj => hG j (by omega)), hi]
  obtain ⟨n, hn⟩ : ∃ n, 40 - i = n + 1 := ⟨40 - i - 1, by omega⟩
  have e1 := hG i (by omega)
  have e2 := h.read (i := i) (by omega)
  have e3 := h.follows (i := i) (by omega)
  rw [hn]
  rw [walkC, e1, if_neg (by simp), e2, if_neg (by simp [e3]), if_pos (show ((linkAt gen tag refs b ps i).put 0, true).fst.next = 0 from h.next0 (by omega)), linksC_snoc]
  rfl
/-- .. but for one that is no such link: broken. -/
theorem walk_broken {G : Int → ByteArray × Int} (h : ChainOn F gen tag refs b ps) {i : Nat} (hi : i < ps.length) (hG : ∀ j, j < i → G (ps.getD j 0) = (F (ps.getD j 0), 0)) {s : ByteArray} (hs : G (ps.getD i 0) = (s, 0))
    (hb : (readL s).2 = false ∨ (readL s).1.num ≠ i) : walkC G 40 [] (ps.getD 0 0) = ([], 25) := by
  have hc := h.count
  rw [walk_to h i hi hG]
  obtain ⟨n, hn⟩ : ∃ n, 40 - i = n + 1 := ⟨40 - i - 1, by omega⟩
  rw [hn, walkC, hs, if_neg (by simp), if_pos]
  rcases hb with hb | hb
  · exact .inl hb
  · refine .inr ?_
    unfold followsC
    rw [if_pos (.inl (by rw [linksC_len]; exact hb))]
end
/-- The bytes of a chain, out of its links. -/
theorem join_all {gen tag refs : Int} {b : ByteArray} {ps : List Int} : ∀ n, n * 236 ≤ b.size + 235 → joinC (linksC gen tag refs b ps n) = b.extract 0 (min b.size (n * 236))
  | 0, _ => by
    apply ByteArray.ext
    simp [joinC, linksC]
  | n + 1, hn => by
    have ih := join_all (gen := gen) (tag := tag) (refs := refs) (b := b) (ps := ps) n (by omega)
    have e1 : joinC (linksC gen tag refs b ps (n + 1)) = joinC (linksC gen tag refs b ps n) ++ pieceC b n := by
      rw [linksC_snoc]
      apply ByteArray.ext
      simp [joinC, linkAt, LK.put]
    rw [e1, ih]
    unfold pieceC
    apply ByteArray.ext
    apply Array.toList_inj.1
    simp only [ByteArray.data_append, ByteArray.data_extract, Array.toList_append, Array.toList_extract, List.extract_eq_take_drop]
    simp only [List.drop_zero, Nat.sub_zero]
    have hm : min b.size (n * 236) = n * 236 := by omega
    rw [hm]
    have hsp : min b.size ((n + 1) * 236) = n * 236 + (min b.size ((n + 1) * 236) - n * 236) := by omega
    obtain ⟨z, hz⟩ : ∃ z, z = min b.size ((n + 1) * 236) - n * 236 := ⟨_, rfl⟩
    rw [← hz] at hsp ⊢
    rw [hsp, List.take_add]
theorem join_whole {gen tag refs : Int} {b : ByteArray} {ps : List Int} (hl : ps.length = needN b.size) : joinC (linksC gen tag refs b ps ps.length) = b := by
  by_cases h0 : b.size = 0
  · have e : needN b.size = 1 := by unfold needN; rw [if_pos h0]
    have hb : b = .empty := ByteArray.ext (Array.eq_empty_of_size_eq_zero (show b.data.size = 0 from h0))
    rw [hl, e]
    subst hb
    apply ByteArray.ext
    simp [joinC, linksC, linkAt, LK.put, pieceC]
  · have : needN b.size = (b.size - 1) / 236 + 1 := by unfold needN; rw [if_neg h0]
    rw [hl, this, join_all _ (by omega), Nat.min_eq_left (by omega)]
    apply ByteArray.ext
    simp
end Go.Proofs.YtolbnkpakjdnnaaGreatDoor
