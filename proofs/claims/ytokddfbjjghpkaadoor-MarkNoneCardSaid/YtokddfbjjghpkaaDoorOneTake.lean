/-
  Texts taken in by the code's digest.
-/
import Derived.Test.YtokddfbjjghpkaaDoorOneMix
import Derived.Test.YtokddfbjjghpkaaDoorDrawn
import Derived.Test.YtokddfbjjghpkaaDoorKept
import Derived.Lib.Bytes
import Derived.Lib.BufferWrite
namespace Go.Proofs.YtokddfbjjghpkaaDoor
open Go.RowKit

/-- The digest's cells: the state, the part of a block, how many bytes. -/
def digL (s : St) (p : Nat → UInt8) (n : Nat) : List Value := (stCells s).toList ++ (byteCells' p 64 ++ [.int .i64 (n : Int)])
def digCells (s : St) (p : Nat → UInt8) (n : Nat) : Array Value := (digL s p n).toArray
theorem digL_length (s : St) (p : Nat → UInt8) (n : Nat) : (digL s p n).length = 70 := by unfold digL byteCells' stCells; simp
theorem digCells_size (s : St) (p : Nat → UInt8) (n : Nat) : (digCells s p n).size = 70 := by unfold digCells; simp [digL_length]
theorem bytes_len (p : Nat → UInt8) (n : Nat) : (byteCells' p n).length = n := by unfold byteCells'; simp
theorem bytes_at (p : Nat → UInt8) {i n : Nat} (hi : i < n) : (byteCells' p n)[i]? = some (.int .u8 ((p i).toNat : Int)) := by
  have := bytes_get p hi
  rwa [List.getElem?_toArray] at this
theorem digL_state {s : St} {p : Nat → UInt8} {n i : Nat} (h : i < 5) : (digL s p n)[i]? = (stCells s).toList[i]? := by
  unfold digL
  rw [List.getElem?_append_left (by unfold stCells; simpa using h)]
theorem digL_part {s : St} {p : Nat → UInt8} {n i : Nat} (h : i < 64) : (digL s p n)[5 + i]? = some (.int .u8 ((p i).toNat : Int)) := by
  unfold digL
  rw [List.getElem?_append_right (by unfold stCells; simp), List.getElem?_append_left (by rw [bytes_len]; unfold stCells; simp; omega), ← bytes_at p h]
  congr 1
  unfold stCells; simp
theorem digL_count {s : St} {p : Nat → UInt8} {n : Nat} : (digL s p n)[69]? = some (.int .i64 (n : Int)) := by
  unfold digL
  rw [List.getElem?_append_right (by unfold stCells; simp), List.getElem?_append_right (by rw [bytes_len]; unfold stCells; simp), bytes_len]
  unfold stCells; rfl
/-- A part with bytes laid over it. -/
def over (p : Nat → UInt8) (r k : Nat) (l : List UInt8) : Nat → UInt8 := fun t => if r ≤ t ∧ t < r + k then l.getD (t - r) 0 else p t
theorem digL_over (s : St) (p : Nat → UInt8) (n r k : Nat) (l : List UInt8) (hr : r + k ≤ 64) (hk : k ≤ l.length) :
    (digL s p n).take (5 + r) ++ Lib.byteCells (l.take k) ++ (digL s p n).drop (5 + r + k) = digL s (over p r k l) n := by
  have hl := digL_length s p n
  have hb : (Lib.byteCells (l.take k)).length = k := by unfold Lib.byteCells; rw [List.length_map, List.length_take]; omega
  apply List.ext_getElem?
  intro i
  by_cases h1 : i < 5
  · rw [List.append_assoc, List.getElem?_append_left (by rw [List.length_take]; omega), List.getElem?_take, if_pos (by omega), digL_state h1, digL_state h1]
  · obtain ⟨j, rfl⟩ : ∃ j, i = 5 + j := ⟨i - 5, by omega⟩
    by_cases h2 : j < r
    · rw [List.append_assoc, List.getElem?_append_left (by rw [List.length_take]; omega), List.getElem?_take, if_pos (by omega), digL_part (by omega), digL_part (by omega)]
      unfold over
      rw [if_neg (by omega)]
    · by_cases h3 : j < r + k
      · rw [List.append_assoc, List.getElem?_append_right (by rw [List.length_take]; omega), List.getElem?_append_left (by rw [List.length_take, hb]; omega), digL_part (by omega)]
        unfold over Lib.byteCells
        rw [if_pos (by omega), List.getElem?_map, List.getElem?_take, if_pos (by rw [List.length_take]; omega)]
        have e : 5 + j - (List.take (5 + r) (digL s p n)).length = j - r := by rw [List.length_take]; omega
        rw [e, List.getElem?_eq_getElem (by omega), List.getD_eq_getElem?_getD, List.getElem?_eq_getElem (by omega)]
        rfl
      · rw [List.getElem?_append_right (by rw [List.length_append, List.length_take, hb]; omega), List.getElem?_drop]
        have e : 5 + r + k + (5 + j - (List.take (5 + r) (digL s p n) ++ Lib.byteCells (l.take k)).length) = 5 + j := by rw [List.length_append, List.length_take, hb]; omega
        rw [e]
        by_cases h4 : j < 64
        · rw [digL_part h4, digL_part h4]
          unfold over
          rw [if_neg (by omega)]
        · by_cases h5 : j = 64
          · subst h5
            exact digL_count.trans digL_count.symm
          · rw [List.getElem?_eq_none (by omega), List.getElem?_eq_none (by rw [digL_length]; omega)]
theorem digCells_over {s : St} {p : Nat → UInt8} {n r k : Nat} {l : List UInt8} (hr : r + k ≤ 64) (hk : k ≤ l.length) :
    ((digCells s p n).toList.take (5 + r) ++ Lib.byteCells (l.take k) ++ (digCells s p n).toList.drop (5 + r + k)).toArray = digCells s (over p r k l) n := by
  unfold digCells
  rw [List.toList_toArray, digL_over s p n r k l hr hk]
theorem digCells_count (s : St) (p : Nat → UInt8) (n n' : Nat) : (digCells s p n).setIfInBounds 69 (.int .i64 (n' : Int)) = digCells s p n' := by
  unfold digCells digL
  have e : (stCells s).toList.length + (byteCells' p 64).length = 69 := by rw [bytes_len]; unfold stCells; rfl
  rw [List.setIfInBounds_toArray, ← List.append_assoc, ← List.append_assoc, List.set_append_right _ _ (by rw [List.length_append, e]; exact Nat.le_refl _), List.length_append, e]
  rfl
theorem digCells_state (s s' : St) (p : Nat → UInt8) (n : Nat) : ((digCells s p n).toList.take 0 ++ (stCells s').toList ++ (digCells s p n).toList.drop (0 + (stCells s').size)).toArray = digCells s' p n := by
  unfold digCells digL
  rfl

/-- The digest at g has taken in the bytes m. -/
def DigAt (w : World) (g : Nat) (m : List UInt8) : Prop :=
  ∃ p : Nat → UInt8, (∀ t, t < m.length % 64 → p t = m.getD (64 * (m.length / 64) + t) 0) ∧ Blk w g 55 (digCells (hashB m (m.length / 64)) p m.length)
theorem over_part {m l : List UInt8} {p : Nat → UInt8} {k : Nat} (hp : ∀ t, t < m.length % 64 → p t = m.getD (64 * (m.length / 64) + t) 0) :
    ∀ t, t < m.length % 64 + k → over p (m.length % 64) k l t = (m ++ l.take k).getD (64 * (m.length / 64) + t) 0 := by
  intro t ht
  have hm : 64 * (m.length / 64) + m.length % 64 = m.length := Nat.div_add_mod _ _
  unfold over
  by_cases h : t < m.length % 64
  · rw [if_neg (by omega), hp t h, getD_app _ _ _ (by omega)]
  · rw [if_pos (by omega), getD_app' _ _ _ (by omega), List.getD_eq_getElem?_getD, List.getD_eq_getElem?_getD, List.getElem?_take, if_pos (by omega)]
    congr 2
    omega
theorem dig_less {w : World} {g : Nat} {m l : List UInt8} {p : Nat → UInt8} {k : Nat} (hp : ∀ t, t < m.length % 64 → p t = m.getD (64 * (m.length / 64) + t) 0) (hk : k ≤ l.length) (hr : m.length % 64 + k < 64)
    (hB : Blk w g 55 (digCells (hashB m (m.length / 64)) (over p (m.length % 64) k l) (m.length + k))) : DigAt w g (m ++ l.take k) := by
  have hlen : (m ++ l.take k).length = m.length + k := by rw [List.length_append, List.length_take]; omega
  have hq : (m.length + k) / 64 = m.length / 64 := by omega
  have hm : (m.length + k) % 64 = m.length % 64 + k := by omega
  refine ⟨over p (m.length % 64) k l, fun t ht => ?_, ?_⟩
  · rw [hlen, hm] at ht
    rw [hlen, hq]
    exact over_part hp t ht
  · rw [hlen, hq, hashB_app m _ _ (by omega)]
    exact hB
theorem dig_whole {w : World} {g : Nat} {m l : List UInt8} {p : Nat → UInt8} {k : Nat} (hp : ∀ t, t < m.length % 64 → p t = m.getD (64 * (m.length / 64) + t) 0) (hk : k ≤ l.length) (hr : m.length % 64 + k = 64)
    (hB : Blk w g 55 (digCells (mixB (over p (m.length % 64) k l) (hashB m (m.length / 64))) (over p (m.length % 64) k l) (m.length + k))) : DigAt w g (m ++ l.take k) := by
  have hlen : (m ++ l.take k).length = m.length + k := by rw [List.length_append, List.length_take]; omega
  have hq : (m.length + k) / 64 = m.length / 64 + 1 := by omega
  have hm : (m.length + k) % 64 = 0 := by omega
  refine ⟨over p (m.length % 64) k l, fun t ht => ?_, ?_⟩
  · rw [hlen, hm] at ht
    cases ht
  · rw [hlen, hq, hashB_next, hashB_app m _ _ (by omega), mixB_congr (q := over p (m.length % 64) k l)]
    · exact hB
    · intro t ht
      exact (over_part hp t (by omega)).symm

theorem run_copy_text {P : Program} (w : World) (dT sT ty elem : TypeId) (g o dLen dCap : Nat) (s : ByteArray) (cur : Array Value) (t : TypeId) (k : Nat) (hk : Nat.min s.size dLen = k)
    (hu : P.underlying dT = some (.slice elem)) (hs : (P.info? elem).map (·.size) = some 1) (hg : Blk w g t cur) (hfit : o + k ≤ cur.size) :
    (Builtin.copy_ #[dT, sT] ty #[.slice (some ⟨g, o, none⟩) dLen dCap, .string s]).run P w =
      .ok (goInt k) (w.setRow g (cur.toList.take o ++ Lib.byteCells (s.data.toList.take k) ++ cur.toList.drop (o + k)).toArray) := by
  have hks : k ≤ s.size := by rw [← hk]; exact Nat.min_le_left _ _
  have hlen : (Lib.byteCells (s.data.toList.take k)).length = k := by unfold Lib.byteCells; rw [List.length_map, List.length_take, ← Lib.size_eq]; omega
  have hst := run_storeCells_part (P := P) (g := g) (off := o) t (Lib.byteCells (s.data.toList.take k)) 0 cur w hg (by rw [hlen]; simpa using hfit) (Lib.byteCells_one _)
  have htk : List.take k (List.map (fun b : UInt8 => Value.int IntKind.u8 (b.toNat : Int)) s.data.toList) = Lib.byteCells (s.data.toList.take k) := by
    rw [← List.map_take]
    rfl
  rw [hlen] at hst
  simp only [Nat.add_zero] at hst
  cases hq : P.info? elem with
  | none => simp [hq] at hs
  | some i =>
    simp [Builtin.copy_, run_underlying hu, Builtin.lenOf, Builtin.firstCells, sizeOf, typeInfo, hq, hk]
    rw [htk, hst]
    simp [Result.andThen]
theorem wpList_copy_text {P : Program} {w : World} {ops : Array Oper} {rest : List Oper} {o : Oper} {a : Act} {Q : Exit → Act → World → Prop} (hgd : o.guard = none) (d x : Operand) (dT sT elem : TypeId) (g off dLen dCap : Nat) (s : ByteArray) (cur : Array Value) (t : TypeId) (k : Nat)
    (ho : o.op = .call { callee := .builtin .copy, args := #[d, x], argTypes := #[dT, sT] }) (hd : a.eval d = .slice (some ⟨g, off, none⟩) dLen dCap) (hx : a.eval x = .string s)
    (hk : Nat.min s.size dLen = k) (hu : P.underlying dT = some (.slice elem)) (hs : (P.info? elem).map (·.size) = some 1) (hg : Blk w g t cur) (hfit : off + k ≤ cur.size)
    (h : wpList P ops Q rest (a.put o.dst (.int .i64 (k : Int))) (w.setRow g (cur.toList.take off ++ Lib.byteCells (s.data.toList.take k) ++ cur.toList.drop (off + k)).toArray)) : wpList P ops Q (o :: rest) a w := by
  refine wpList_plain hgd fun K hK => ?_
  have hrun := run_copy_text (P := P) w dT sT o.type elem g off dLen dCap s cur t k hk hu hs hg hfit
  unfold Oper.wp
  simp [execOp, ho, resolve, invoke, builtin, hd, hx, hrun, Result.andThen]
  rw [List.append_assoc] at h
  exact hK _ _ h
def strLen : Value → Nat
  | .string b => b.size
  | _ => 0

theorem extract_drop (r : ByteArray) (k : Nat) : (r.extract k r.size).data.toList = r.data.toList.drop k := by
  rw [ByteArray.data_extract, Array.toList_extract, List.extract_eq_take_drop, List.take_of_length_le (by rw [List.length_drop, ← Lib.size_eq]; exact Nat.le_refl _)]
theorem dig_state_get {s : St} {p : Nat → UInt8} {n j : Nat} {v : Value} (h : (stCells s)[j]? = some v) : (digCells s p n)[0 + j]? = some v := by
  have hj : j < 5 := (Array.getElem?_eq_some_iff.1 h).1
  unfold digCells
  rw [Nat.zero_add, List.getElem?_toArray, digL_state hj, Array.getElem?_toList]
  exact h
theorem dig_part_get {s : St} {p : Nat → UInt8} {n j : Nat} {v : Value} (h : (byteCells' p 64).toArray[j]? = some v) : (digCells s p n)[5 + j]? = some v := by
  have hj : j < 64 := by have := (Array.getElem?_eq_some_iff.1 h).1; simpa [bytes_len] using this
  rw [bytes_get p hj] at h
  unfold digCells
  rw [List.getElem?_toArray, digL_part hj]
  exact h
section
variable (w1 : World) (g : Nat) (C C' : Array Value) (hv pv xv : Value) (F : Act)
/-- What operation i of the region that mixes a block in leaves in its slot. -/
def tkFact (i : Nat) (v : Value) : Prop :=
  match i with
  | 4 => v = hv
  | 7 => v = .pointer (some ⟨g, 5, none⟩)
  | 8 => v = pv
  | 9 => v = xv
  | _ => v = .pointer (some ⟨g, 0, none⟩)
def tkInv (L : Nat → Bool) (x : Act) (w : World) : Prop :=
  FrameKept F 35 46 x ∧ Left 12 35 (tkFact g hv pv xv) L x ∧ (L 11 = true → L 10 = true) ∧ (L 12 = true → (∀ i, i < 12 → L i = true) ∧ Blk w g 55 C') ∧ (L 12 = false → Blk w g 55 C) ∧ w1.grownBy w (some g)
theorem tk_open {L : Nat → Bool} {x : Act} {w : World} (h : tkInv w1 g C C' hv pv xv F L x w) {i : Nat} (hi : i < 12) (hL : L i = false) : L 12 = false ∧ Blk w g 55 C := by
  obtain ⟨_, _, _, h4, h5, _⟩ := h
  cases h12 : L 12 with
  | false => exact ⟨rfl, h5 h12⟩
  | true =>
    have := (h4 h12).1 i hi
    rw [hL] at this
    cases this
theorem tk_next {L : Nat → Bool} {x : Act} {w w' : World} (hF : F.tmps.size = 47) (h : tkInv w1 g C C' hv pv xv F L x w) (i : Nat) (v : Value) (hi : i < 12) (hL : L i = false) (h11 : i = 11 → L 10 = true)
    (hB : Blk w' g 55 C) (hG : w1.grownBy w' (some g)) (hvi : tkFact g hv pv xv i v) : tkInv w1 g C C' hv pv xv F (fun j => if i = j then true else L j) (x.put (some (35 + i)) v) w' := by
  have ho := (tk_open w1 g C C' hv pv xv F h hi hL).1
  obtain ⟨h1, h2, h3, h4, h5, h6⟩ := h
  refine ⟨h1.put _ v (by omega) (by omega), h2.next i v (by rw [h1.2.1, hF]; omega) (fun _ _ _ _ hu => hu) hvi, ?_, ?_, fun _ => hB, hG⟩
  · intro h
    by_cases e : i = 10
    · simp [e]
    · by_cases e' : i = 11
      · simp only [e', show ¬ 11 = 10 by decide, if_false]
        exact h11 e'
      · simp only [if_neg e', if_neg e] at h ⊢
        exact h3 h
  · intro h
    simp only [if_neg (show ¬ i = 12 by omega), ho] at h
    cases h
theorem tk_last {L : Nat → Bool} {x : Act} {w w' : World} (h : tkInv w1 g C C' hv pv xv F L x w) (ha : ∀ i, i < 12 → i ≠ 10 → L i = true) (hB : Blk w' g 55 C') (hG : w1.grownBy w' (some g)) :
    tkInv w1 g C C' hv pv xv F (fun j => if 12 = j then true else L j) (x.put none undef) w' := by
  obtain ⟨h1, h2, h3, h4, h5, h6⟩ := h
  have hall : ∀ i, i < 12 → L i = true := fun i hi => by
    by_cases e : i = 10
    · subst e; exact h3 (ha 11 (by omega) (by omega))
    · exact ha i hi e
  refine ⟨h1, fun i hi hL => h2 i hi (hall i hi), fun _ => by simp [hall 10 (by omega)], fun _ => ⟨fun i hi => by simp [hall i hi], hB⟩, fun h => ?_, hG⟩
  simp at h
end

set_option maxRecDepth 100000 in
set_option maxHeartbeats 2000000 in
theorem otake_any (g : Nat) (m : List UInt8) (s : ByteArray) (w : World) (h : DigAt w g m) (hs : m.length + s.size ≤ 4000000000000) :
    Calls Tryd.prog 21 #[.pointer (some ⟨g, 0, none⟩), .string s] w fun e w' => e = .returned (.tuple #[]) ∧ DigAt w' g (m ++ s.data.toList) ∧ w.grownBy w' (some g) := by
  have H := Lib.hid h
  have HS := Lib.hid hs
  clear h hs
  go_enter Tryd.func21, Tryd.ntmps21
  go_wp2_with fail
  go_loopw [1] (fun v1 wr => ∃ (m' : List UInt8) (r : ByteArray), v1 = .string r ∧ m' ++ r.data.toList = m ++ s.data.toList ∧ DigAt wr g m' ∧ w.grownBy wr (some g)) (fun v1 _ => strLen v1)
  case atStart => exact ⟨m, s, rfl, rfl, H.out, by_refl _ _⟩
  case round =>
    obtain ⟨m', r, rfl, hm, hD, hgr⟩ := hrel
    obtain ⟨p, hp, hB⟩ := hD
    have HM := Lib.hid hm
    have HP := Lib.hid hp
    have HB := Lib.hid hB
    have HG := Lib.hid hgr
    have hlen : m'.length + r.size ≤ 4000000000000 := by
      have := congrArg List.length hm
      rw [List.length_append, List.length_append, ← Lib.size_eq, ← Lib.size_eq] at this
      have := HS.out
      omega
    clear hm hp hB hgr
    by_cases h0 : r.size = 0
    · obtain rfl : r = .empty := by apply ByteArray.ext; exact Array.eq_empty_of_size_eq_zero h0
      go_wp2_with fail
      refine ret_none rfl rfl ⟨rfl, ?_, HG.out⟩
      have e : m ++ s.data.toList = m' := by rw [← HM.out]; exact List.append_nil _
      rw [e]
      exact ⟨p, HP.out, HB.out⟩
    · have hne : r.toList.isEmpty = false := by
        rw [Lib.toList_data, List.isEmpty_eq_false_iff]
        intro e
        have := congrArg List.length e
        rw [← Lib.size_eq] at this
        exact h0 this
      obtain ⟨n, hn⟩ : ∃ n, n = m'.length := ⟨_, rfl⟩
      obtain ⟨q, hq⟩ : ∃ q, q = m'.length % 64 := ⟨_, rfl⟩
      have hq64 : q < 64 := by omega
      have hnq : Int.tmod (n : Int) 64 = (q : Int) := by rw [Int.tmod_eq_emod_of_nonneg (by omega)]; omega
      have hcn : wr.cell? ⟨g, 69, none⟩ = some (.int .i64 (n : Int)) := by
        rw [HB.out.cell, hn]
        unfold digCells
        rw [List.getElem?_toArray]
        exact digL_count
      have hqI : (q : Int) ≤ 64 := by omega
      have HN := Lib.hid (And.intro hn hq)
      clear hn hq
      go_wp2_with fail
      go_still_tail 10, (by kernel_rfl)
      change wpList _ _ _ _ _ wr.drew
      rw [if_neg (show ¬ 64 = q by omega)]
      obtain ⟨k, hk⟩ : ∃ k, Nat.min r.size (64 - q) = k := ⟨_, rfl⟩
      have hk1 : k ≤ r.size := by rw [← hk]; exact Nat.min_le_left _ _
      have hk2 : k ≤ 64 - q := by rw [← hk]; exact Nat.min_le_right _ _
      have hk3 : 0 < k := by rw [← hk]; exact Nat.lt_min.2 ⟨by omega, by omega⟩
      refine wpList_copy_text rfl (.tmp 15) (.tmp 16) 31 9 5 g (5 + q) (64 - q) (64 - q) r _ _ k rfl rfl rfl hk (by kernel_rfl) (by kernel_rfl) HB.out.drew (by rw [digCells_size]; omega) ?_
      rw [digCells_over (by omega) (by rw [← Lib.size_eq]; exact hk1)]
      obtain ⟨po, hpo⟩ : ∃ po, po = over p q k r.data.toList := ⟨_, rfl⟩
      obtain ⟨ho, hho⟩ : ∃ ho, ho = hashB m' (m'.length / 64) := ⟨_, rfl⟩
      have hB2 := blk_setRow HB.out.drew (digCells ho po n)
      have hG2 := by_setRow (by_drew HG.out) (digCells ho po n)
      rw [← hpo, ← hho, ← HN.out.1]
      obtain ⟨W2, hW2⟩ : ∃ W2, W2 = wr.drew.setRow g (digCells ho po n) := ⟨_, rfl⟩
      rw [← hW2] at hB2 hG2
      rw [← hW2]
      have hokh : ho.ok := by rw [hho]; exact hashB_ok _ _
      have HO := Lib.hid (And.intro hpo hho)
      have HB2 := Lib.hid hB2
      have HG2 := Lib.hid hG2
      clear hk hW2 hpo hho hB2 hG2 HB HG hcn hne hnq
      have hkI : (k : Int) ≤ (r.size : Int) := by omega
      have hcn : W2.cell? ⟨g, 69, none⟩ = some (.int .i64 (n : Int)) := by
        rw [HB2.out.cell]
        unfold digCells
        rw [List.getElem?_toArray]
        exact digL_count
      have hfn := HB2.out.frozen 69
      obtain ⟨n2, hn2⟩ : ∃ n2, n2 = n + k := ⟨_, rfl⟩
      have hwn : IntKind.i64.wrap ((n : Int) + (k : Int)) = (n2 : Int) := by
        have := HN.out.1
        rw [IntWalk.i64_in _ (by omega)]
        omega
      obtain ⟨r2, hr2⟩ : ∃ r2, r.extract k r.size = r2 := ⟨_, rfl⟩
      obtain ⟨z, hz⟩ : ∃ z, z = n2 % 64 := ⟨_, rfl⟩
      have hnz : Int.tmod (n2 : Int) 64 = (z : Int) := by rw [Int.tmod_eq_emod_of_nonneg (by omega)]; omega
      have HR := Lib.hid hr2.symm
      have HZ := Lib.hid (And.intro hn2 hz)
      clear hn2 hz
      by_cases hw : z = 0
      · subst hw
        go_upto_region 5 with fail
        clear hcn hfn hwn hnz hqI hkI hlen
        have hB3 : Blk (W2.setCell ⟨g, 69, none⟩ (.int .i64 (n2 : Int))) g 55 (digCells ho po n2) := by
          have := HB2.out.put 69 (.int .i64 (n2 : Int))
          rwa [digCells_count] at this
        have hG3 := by_put HG2.out 69 (.int .i64 (n2 : Int))
        obtain ⟨W3, hW3⟩ : ∃ W3, W3 = W2.setCell ⟨g, 69, none⟩ (.int .i64 (n2 : Int)) := ⟨_, rfl⟩
        rw [← hW3] at hB3 hG3
        rw [← hW3]
        clear hW3
        have HB3 := Lib.hid hB3
        have HG3 := Lib.hid hG3
        clear hB3 hG3 HB2 HG2
        refine wp_region_kept_at (fun F L x wi => tkInv W3 g (digCells ho po n2) (digCells (mixB po ho) po n2) (.agg (stCells ho)) (.agg (byteCells' po 64).toArray) (.agg (stCells (mixB po ho))) F L x wi) (by kernel_rfl) (by kernel_rfl) ?h0 ?hs ?hd
        case h0 => exact ⟨FrameKept.refl _ _ _, (fun _ _ h => by cases h), (fun h => by cases h), (fun h => by cases h), fun _ => HB3.out, by_drew (by_refl _ _)⟩
        case hd =>
          intro L x wi ⟨hF, _, _, h12, _, hG⟩ hall
          have hB4 := (h12 (hall 12 (show 12 < 13 by omega))).2
          clear h12 hall
          have HB4 := Lib.hid hB4
          have HG4 := Lib.hid (by_trans HG3.out hG)
          clear hB4 hG
          obtain ⟨t, d⟩ := x
          obtain ⟨x0, x1, x2, x3, x4, x5, x6, x7, x8, x9, x10, x11, x12, x13, x14, x15, x16, x17, x18, x19, x20, x21, x22, x23, x24, x25, x26, x27, x28, x29, x30, x31, x32, x33, x34, x35, x36, x37, x38, x39, x40, x41, x42, x43, x44, x45, x46, rfl⟩ := arr47 t hF.2.1
          obtain rfl : d = [] := hF.1
          obtain rfl : x0 = .pointer (some ⟨g, 0, none⟩) := Option.some.inj (hF.2.2 0 (by omega))
          obtain rfl : x1 = .string r2 := Option.some.inj (hF.2.2 1 (by omega))
          obtain rfl : x2 = undef := Option.some.inj (hF.2.2 2 (by omega))
          obtain rfl : x3 = undef := Option.some.inj (hF.2.2 3 (by omega))
          clear hF
          go_wp2_with fail
          go_roundw
          case rel =>
            refine ⟨m' ++ r.data.toList.take k, r2, rfl, ?_, ?_, HG4.out⟩
            · rw [← HM.out, List.append_assoc, HR.out, extract_drop, List.take_append_drop]
            · refine dig_whole HP.out (by rw [← Lib.size_eq]; exact hk1) (by have := HN.out; have := HZ.out; omega) ?_
              rw [← HO.out.2, ← HN.out.2, ← HO.out.1, ← HN.out.1, ← HZ.out.1]
              exact HB4.out
          case measure =>
            show r2.size < r.size
            rw [HR.out, ByteArray.size_extract]
            omega
        case hs =>
          intro L x wi i hI hi hL hw
          have hi : i < 13 := hi
          obtain ⟨hF, hfact, _, _, _, hG⟩ := id hI
          by_cases hi12 : i = 12
          · subst hi12
            have e1 : x.tmps[46]?.getD undef = .pointer (some ⟨g, 0, none⟩) := hfact 11 (by omega) (hw 11 (of_decide_eq_true (by kernel_rfl)))
            have e2 : x.tmps[44]?.getD undef = .agg (stCells (mixB po ho)) := hfact 9 (by omega) (hw 9 (of_decide_eq_true (by kernel_rfl)))
            have ho2 : Blk wi g 55 (digCells ho po n2) := hI.2.2.2.2.1 hL
            have HSt := Lib.hid (run_store_part (P := Tryd.prog) (ty := 52) (off := 0) (cs := stCells (mixB po ho)) ho2 (by rw [digCells_size]; show 0 + 5 ≤ 70; decide) (by simp [stCells, Value.oneCell']) (fun w => by rw [show (stCells (mixB po ho)).size = 5 from rfl]; kernel_rfl))
            have hB5 := blk_setRow ho2 (digCells (mixB po ho) po n2)
            rw [digCells_state] at HSt
            have HK := Lib.hid (tk_last W3 g (digCells ho po n2) (digCells (mixB po ho) po n2) (.agg (stCells ho)) (.agg (byteCells' po 64).toArray) (.agg (stCells (mixB po ho))) _ hI (fun j h1 h2 => hw j (by rcases (show j = 0 ∨ j = 1 ∨ j = 2 ∨ j = 3 ∨ j = 4 ∨ j = 5 ∨ j = 6 ∨ j = 7 ∨ j = 8 ∨ j = 9 ∨ j = 11 by omega) with rfl | rfl | rfl | rfl | rfl | rfl | rfl | rfl | rfl | rfl | rfl <;> exact of_decide_eq_true (by kernel_rfl))) hB5 (by_setRow hG (digCells (mixB po ho) po n2)))
            clear hI hF hfact hG ho2 hw hL hi hB5
            exact wpOp_skip rfl rfl (exec_store (p := .pointer (some ⟨g, 0, none⟩)) (v := .agg (stCells (mixB po ho))) rfl (by simp [Act.eval, e1]) (by simp [Act.eval, e2]) HSt.out) HK.out
          have ho2 := (tk_open W3 g _ _ _ _ _ _ hI (show i < 12 by omega) hL).2
          rcases (show i = 0 ∨ i = 1 ∨ i = 2 ∨ i = 3 ∨ i = 4 ∨ i = 5 ∨ i = 6 ∨ i = 7 ∨ i = 8 ∨ i = 9 ∨ i = 10 ∨ i = 11 by omega) with rfl | rfl | rfl | rfl | rfl | rfl | rfl | rfl | rfl | rfl | rfl | rfl
          · have e0 : x.tmps[0]?.getD undef = .pointer (some ⟨g, 0, none⟩) := hF.get 0 (by omega)
            have HK := Lib.hid (tk_next W3 g _ (digCells (mixB po ho) po n2) (.agg (stCells ho)) (.agg (byteCells' po 64).toArray) (.agg (stCells (mixB po ho))) _ rfl hI 0 (v := (.pointer (some ⟨g, 0, none⟩))) (by omega) hL (by omega) ho2 hG rfl)
            clear hI hF hfact hG ho2 hw hL hi
            refine wpOp_value (v := (.pointer (some ⟨g, 0, none⟩))) (w' := wi) rfl rfl ?_ HK.out
            go_simp
          · have e0 : x.tmps[0]?.getD undef = .pointer (some ⟨g, 0, none⟩) := hF.get 0 (by omega)
            have HK := Lib.hid (tk_next W3 g _ (digCells (mixB po ho) po n2) (.agg (stCells ho)) (.agg (byteCells' po 64).toArray) (.agg (stCells (mixB po ho))) _ rfl hI 1 (v := (.pointer (some ⟨g, 0, none⟩))) (by omega) hL (by omega) ho2 hG rfl)
            clear hI hF hfact hG ho2 hw hL hi
            refine wpOp_value (v := (.pointer (some ⟨g, 0, none⟩))) (w' := wi) rfl rfl ?_ HK.out
            go_simp
          · have e1 : x.tmps[36]?.getD undef = .pointer (some ⟨g, 0, none⟩) := hfact 1 (by omega) (hw 1 (of_decide_eq_true (by kernel_rfl)))
            have HK := Lib.hid (tk_next W3 g _ (digCells (mixB po ho) po n2) (.agg (stCells ho)) (.agg (byteCells' po 64).toArray) (.agg (stCells (mixB po ho))) _ rfl hI 2 (v := (.pointer (some ⟨g, 0, none⟩))) (by omega) hL (by omega) ho2 hG rfl)
            clear hI hF hfact hG ho2 hw hL hi
            refine wpOp_value (v := (.pointer (some ⟨g, 0, none⟩))) (w' := wi) rfl rfl ?_ HK.out
            go_simp
          · have e1 : x.tmps[37]?.getD undef = .pointer (some ⟨g, 0, none⟩) := hfact 2 (by omega) (hw 2 (of_decide_eq_true (by kernel_rfl)))
            have HK := Lib.hid (tk_next W3 g _ (digCells (mixB po ho) po n2) (.agg (stCells ho)) (.agg (byteCells' po 64).toArray) (.agg (stCells (mixB po ho))) _ rfl hI 3 (v := (.pointer (some ⟨g, 0, none⟩))) (by omega) hL (by omega) ho2 hG rfl)
            clear hI hF hfact hG ho2 hw hL hi
            refine wpOp_value (v := (.pointer (some ⟨g, 0, none⟩))) (w' := wi) rfl rfl ?_ HK.out
            go_simp
          · have e1 : x.tmps[38]?.getD undef = .pointer (some ⟨g, 0, none⟩) := hfact 3 (by omega) (hw 3 (of_decide_eq_true (by kernel_rfl)))
            have HK := Lib.hid (tk_next W3 g _ (digCells (mixB po ho) po n2) (.agg (stCells ho)) (.agg (byteCells' po 64).toArray) (.agg (stCells (mixB po ho))) _ rfl hI 4 (v := (.agg (stCells ho))) (by omega) hL (by omega) ho2 hG rfl)
            have HLd := Lib.hid (run_load_part (P := Tryd.prog) (ty := 52) (off := 0) (cs := stCells ho) ho2 (fun j v h => dig_state_get h) (fun w => by kernel_rfl) (fun w => by rw [show (stCells ho).size = 5 from rfl]; kernel_rfl))
            clear hI hF hfact hG ho2 hw hL hi
            exact wpOp_value (v := (.agg (stCells ho))) (w' := wi) rfl rfl (exec_load (p := (.pointer (some ⟨g, 0, none⟩))) rfl (by simp [Act.eval, e1]) HLd.out) HK.out
          · have e0 : x.tmps[0]?.getD undef = .pointer (some ⟨g, 0, none⟩) := hF.get 0 (by omega)
            have HK := Lib.hid (tk_next W3 g _ (digCells (mixB po ho) po n2) (.agg (stCells ho)) (.agg (byteCells' po 64).toArray) (.agg (stCells (mixB po ho))) _ rfl hI 5 (v := (.pointer (some ⟨g, 0, none⟩))) (by omega) hL (by omega) ho2 hG rfl)
            clear hI hF hfact hG ho2 hw hL hi
            refine wpOp_value (v := (.pointer (some ⟨g, 0, none⟩))) (w' := wi) rfl rfl ?_ HK.out
            go_simp
          · have e1 : x.tmps[40]?.getD undef = .pointer (some ⟨g, 0, none⟩) := hfact 5 (by omega) (hw 5 (of_decide_eq_true (by kernel_rfl)))
            have HK := Lib.hid (tk_next W3 g _ (digCells (mixB po ho) po n2) (.agg (stCells ho)) (.agg (byteCells' po 64).toArray) (.agg (stCells (mixB po ho))) _ rfl hI 6 (v := (.pointer (some ⟨g, 0, none⟩))) (by omega) hL (by omega) ho2 hG rfl)
            clear hI hF hfact hG ho2 hw hL hi
            refine wpOp_value (v := (.pointer (some ⟨g, 0, none⟩))) (w' := wi) rfl rfl ?_ HK.out
            go_simp
          · have e1 : x.tmps[41]?.getD undef = .pointer (some ⟨g, 0, none⟩) := hfact 6 (by omega) (hw 6 (of_decide_eq_true (by kernel_rfl)))
            have HK := Lib.hid (tk_next W3 g _ (digCells (mixB po ho) po n2) (.agg (stCells ho)) (.agg (byteCells' po 64).toArray) (.agg (stCells (mixB po ho))) _ rfl hI 7 (v := (.pointer (some ⟨g, 5, none⟩))) (by omega) hL (by omega) ho2 hG rfl)
            clear hI hF hfact hG ho2 hw hL hi
            refine wpOp_value (v := (.pointer (some ⟨g, 5, none⟩))) (w' := wi) rfl rfl ?_ HK.out
            go_simp
          · have e1 : x.tmps[42]?.getD undef = .pointer (some ⟨g, 5, none⟩) := hfact 7 (by omega) (hw 7 (of_decide_eq_true (by kernel_rfl)))
            have HK := Lib.hid (tk_next W3 g _ (digCells (mixB po ho) po n2) (.agg (stCells ho)) (.agg (byteCells' po 64).toArray) (.agg (stCells (mixB po ho))) _ rfl hI 8 (v := (.agg (byteCells' po 64).toArray)) (by omega) hL (by omega) ho2 hG rfl)
            have HLd := Lib.hid (run_load_part (P := Tryd.prog) (ty := 53) (off := 5) (cs := (byteCells' po 64).toArray) ho2 (fun j v h => dig_part_get h) (fun w => by kernel_rfl) (fun w => by rw [show (byteCells' po 64).toArray.size = 64 by simp [bytes_len]]; kernel_rfl))
            clear hI hF hfact hG ho2 hw hL hi
            exact wpOp_value (v := (.agg (byteCells' po 64).toArray)) (w' := wi) rfl rfl (exec_load (p := (.pointer (some ⟨g, 5, none⟩))) rfl (by simp [Act.eval, e1]) HLd.out) HK.out
          · have e1 : x.tmps[39]?.getD undef = .agg (stCells ho) := hfact 4 (by omega) (hw 4 (of_decide_eq_true (by kernel_rfl)))
            have e2 : x.tmps[43]?.getD undef = .agg (byteCells' po 64).toArray := hfact 8 (by omega) (hw 8 (of_decide_eq_true (by kernel_rfl)))
            have HC := Lib.hid ((mixed_any po ho wi hokh).mono (fun e w'' ⟨he, h2⟩ => show ∃ v, e = Ending.returned v ∧ tkInv W3 g (digCells ho po n2) (digCells (mixB po ho) po n2) (.agg (stCells ho)) (.agg (byteCells' po 64).toArray) (.agg (stCells (mixB po ho))) _ (fun j => if 9 = j then true else L j) (x.put (some (35 + 9)) v) w'' from
              ⟨_, he, tk_next W3 g _ _ _ _ _ _ rfl hI 9 _ (by omega) hL (by omega) (ho2.below h2 ho2.lt) (by_trans hG (by_any (by_below h2 (Nat.le_refl _)))) rfl⟩))
            clear hI hF hfact hG ho2 hw hL hi
            refine wpOp_call rfl rfl ?_ HC.out
            go_simp
          · have e1 : x.tmps[35]?.getD undef = .pointer (some ⟨g, 0, none⟩) := hfact 0 (by omega) (hw 0 (of_decide_eq_true (by kernel_rfl)))
            have HK := Lib.hid (tk_next W3 g _ (digCells (mixB po ho) po n2) (.agg (stCells ho)) (.agg (byteCells' po 64).toArray) (.agg (stCells (mixB po ho))) _ rfl hI 10 (v := (.pointer (some ⟨g, 0, none⟩))) (by omega) hL (by omega) ho2 hG rfl)
            clear hI hF hfact hG ho2 hw hL hi
            refine wpOp_value (v := (.pointer (some ⟨g, 0, none⟩))) (w' := wi) rfl rfl ?_ HK.out
            go_simp
          · have e1 : x.tmps[45]?.getD undef = .pointer (some ⟨g, 0, none⟩) := hfact 10 (by omega) (hw 10 (of_decide_eq_true (by kernel_rfl)))
            have HK := Lib.hid (tk_next W3 g _ (digCells (mixB po ho) po n2) (.agg (stCells ho)) (.agg (byteCells' po 64).toArray) (.agg (stCells (mixB po ho))) _ rfl hI 11 (v := (.pointer (some ⟨g, 0, none⟩))) (by omega) hL (fun _ => hw 10 (of_decide_eq_true (by kernel_rfl))) ho2 hG rfl)
            clear hI hF hfact hG ho2 hw hL hi
            refine wpOp_value (v := (.pointer (some ⟨g, 0, none⟩))) (w' := wi) rfl rfl ?_ HK.out
            go_simp
      · have hz0 : ((z : Int) == 0) = false := by rw [beq_eq_false_iff_ne]; omega
        go_wp2_with fail
        go_roundw
        case rel =>
          refine ⟨m' ++ r.data.toList.take k, r2, rfl, ?_, ?_, by_put HG2.out 69 _⟩
          · rw [← HM.out, List.append_assoc, HR.out, extract_drop, List.take_append_drop]
          · refine dig_less HP.out (by rw [← Lib.size_eq]; exact hk1) (by have := HN.out; have := HZ.out; omega) ?_
            rw [← HO.out.2, ← HN.out.2, ← HO.out.1, ← HN.out.1, ← HZ.out.1]
            have := HB2.out.put 69 (.int .i64 (n2 : Int))
            rwa [digCells_count] at this
        case measure =>
          show r2.size < r.size
          rw [HR.out, ByteArray.size_extract]
          omega
end Go.Proofs.YtokddfbjjghpkaaDoor
