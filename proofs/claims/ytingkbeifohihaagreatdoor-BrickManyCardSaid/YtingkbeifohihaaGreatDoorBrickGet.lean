/-
  Package brick's Put, Get, Use, Drop on a Desk. No statement is proved here.
-/
import Derived.Test.YtingkbeifohihaaGreatDoorChainRingsWalk
import Derived.Test.YtingkbeifohihaaGreatDoorMarkRef
import Derived.Test.YtingkbeifohihaaGreatDoorBookTexts
import Derived.Test.YtingkbeifohihaaGreatDoorOut
namespace Go.Proofs.YtingkbeifohihaaGreatDoor
open Go.RowKit
structure CH where
 gen : Int
 tag : Int
 refs : Int
 data : ByteArray
 ps : List Int
def CH.at_ (c : CH) : Int := c.ps.getD 0 0
def dA (cs : List CH) : List Int := cs.flatMap (·.ps)
def CH.use (c : CH) (r : Int) : CH := ⟨c.gen, c.tag, r, c.data, c.ps⟩
structure qR (K : KD) (cs : List CH) : Prop where
 on : ∀ c ∈ cs, aZ K.F c.gen c.tag c.refs c.data c.ps
 once : (dA cs).Nodup
 mem : ∀ z, z ∈ K.H ↔ (z = 0 \/ z = 1) \/ z ∈ dA cs
 cnt : K.H.length = 2 + (dA cs).length
section
variable {N : Nat} {K K' : KD} {cs l1 l2 : List CH} {c : CH}
theorem aZ.moved {F F' : Int -> ByteArray} {gen tag refs : Int} {b : ByteArray} {ps : List Int} (h : aZ F gen tag refs b ps) (hk : ∀ p ∈ ps, F' p = F p) : aZ F' gen tag refs b ps :=
 ⟨h.fit, h.used, h.few, h.len, h.range, fun i hi => by rw [hk _ (h.mem hi)]; exact h.laid i hi⟩
theorem rY {c : CH} (hc : c ∈ cs) {p : Int} (hp : p ∈ c.ps) : p ∈ dA cs := List.mem_flatMap.2 ⟨c, hc, hp⟩
theorem rZ (l1 l2 : List CH) : dA (l1 ++ l2) = dA l1 ++ dA l2 := by simp [dA]
theorem Bf (c : CH) (l : List CH) : dA (c :: l) = c.ps ++ dA l := by simp [dA]
theorem kP (l1 : List CH) (c : CH) (l2 : List CH) : dA (l1 ++ c :: l2) = dA l1 ++ (c.ps ++ dA l2) := by rw [rZ, Bf]
theorem qR.used (s : qR K cs) (hc : c ∈ cs) : ∀ p ∈ c.ps, p ∈ K.H := fun _ hp => (s.mem _).2 (.inr (rY hc hp))
theorem qR.fresh {N : Nat} {h : List ByteArray} (f : iY N K h) : qR K [] := by
 refine ⟨(fun c hc => by cases hc), List.nodup_nil, fun z => ?_, Nm f⟩
 rw [f.H]
 simp [dA]
theorem qR.put {gen tag nx t : Int} {b : ByteArray} {j : Nat} {ps : List Int} (s : qR K cs) (hc : aZ K'.F gen tag 1 b ps) (q : Sk N gen tag b j K nx K' t ps) : qR K' (cs ++ [⟨gen, tag, 1, b, ps⟩]) := by
 have hno : ∀ z, z ∈ dA cs -> z ∉ ps := fun z hz hp => (q.fresh z hp).1 ((s.mem z).2 (.inr hz))
 have e : dA (cs ++ [⟨gen, tag, 1, b, ps⟩]) = dA cs ++ ps := by simp [dA]
 refine ⟨fun c hcm => ?_, ?_, fun z => ?_, ?_⟩
 ·rcases List.mem_append.1 hcm with hcm | hcm
  ·exact (s.on c hcm).moved (fun p hp => q.rest p (hno p (rY hcm hp)))
  ·rw [List.mem_singleton.1 hcm]
   exact hc
 ·rw [e, List.nodup_append]
  exact ⟨s.once, q.once, fun a ha b hb e => hno a ha (e ▸ hb)⟩
 ·rw [e, q.mem, s.mem, List.mem_append, or_assoc]
 ·rw [e, q.cnt, s.cnt, List.length_append, q.len]
  omega
theorem Lo (hn : (dA (l1 ++ c :: l2)).Nodup) : ∀ c' ∈ l1 ++ l2, ∀ p ∈ c'.ps, p ∉ c.ps := by
 rw [kP, List.nodup_append] at hn
 obtain ⟨_, h2, h3⟩ := hn
 rw [List.nodup_append] at h2
 obtain ⟨_, _, h4⟩ := h2
 intro c' hc' p hp hq
 rcases List.mem_append.1 hc' with h | h
 ·exact h3 p (rY h hp) p (List.mem_append.2 (.inl hq)) rfl
 ·exact h4 p hq p (rY h hp) rfl
theorem qR.drop {H' : List Int} (s : qR K (l1 ++ c :: l2)) (hl : H'.length + c.ps.length = K.H.length) (hH : ∀ z, z ∈ H' ↔ z ∈ K.H /\ z ∉ c.ps) : qR (Fl K H') (l1 ++ l2) := by
 have hno := Lo s.once
 have hsub : ∀ c' ∈ l1 ++ l2, c' ∈ l1 ++ c :: l2 := fun c' h => by
  simp only [List.mem_append, List.mem_cons] at h ⊢
  rcases h with h | h
  ·exact .inl h
  ·exact .inr (.inr h)
 have hc := s.on c (by simp)
 refine ⟨fun c' hc' => ?_, ?_, fun z => ?_, ?_⟩
 ·refine (s.on c' (hsub c' hc')).moved (fun p hp => ?_)
  show uR H' K.F p = K.F p
  unfold uR
  rw [if_pos ((hH p).2 ⟨s.used (hsub c' hc') p hp, hno c' hc' p hp⟩)]
 ·have := s.once
  rw [kP, List.nodup_append, List.nodup_append] at this
  obtain ⟨a1, ⟨_, a2, _⟩, a3⟩ := this
  rw [rZ, List.nodup_append]
  exact ⟨a1, a2, fun a ha b hb => a3 a ha b (List.mem_append.2 (.inr hb))⟩
 ·show z ∈ H' ↔ _
  rw [hH, s.mem, kP, rZ]
  simp only [List.mem_append]
  constructor
  ·rintro ⟨h1 | h1 | h1 | h1, h2⟩
   ·exact .inl h1
   ·exact .inr (.inl h1)
   ·exact absurd h1 h2
   ·exact .inr (.inr h1)
  ·rintro (h1 | h1 | h1)
   ·refine ⟨.inl h1, fun hp => ?_⟩
    have := (hc.range z hp).1
    omega
   ·obtain ⟨c', q1, q2⟩ := List.mem_flatMap.1 h1
    exact ⟨.inr (.inl h1), hno c' (List.mem_append.2 (.inl q1)) z q2⟩
   ·obtain ⟨c', q1, q2⟩ := List.mem_flatMap.1 h1
    exact ⟨.inr (.inr (.inr h1)), hno c' (List.mem_append.2 (.inr q1)) z q2⟩
 ·show H'.length = _
  have := s.cnt
  rw [kP] at this
  rw [rZ]
  simp only [List.length_append] at this ⊢
  omega
def Lp (K : KD) (c : CH) (r : Int) : KD := Da K c.at_ (bs (cQ c.gen c.tag r c.data c.ps 0).text)
theorem Ik {gen tag r r' : Int} {b : ByteArray} {ps : List Int} {i : Nat} (hi : i ≠ 0) : cQ gen tag r b ps i = cQ gen tag r' b ps i := by
 unfold cQ
 rw [if_neg hi, if_neg hi]
theorem Bg (hn : (dA (l1 ++ c :: l2)).Nodup) : c.ps.Nodup := by
 rw [kP, List.nodup_append, List.nodup_append] at hn
 exact hn.2.1.1
theorem qR.refs {r : Int} (s : qR K (l1 ++ c :: l2)) (hr : 0 <= r /\ r <= 60000) : qR (Lp K c r) (l1 ++ c.use r :: l2) := by
 have hno := Lo s.once
 have hc := s.on c (by simp)
 have hn := Bg s.once
 have h0 := hc.mem (i := 0) (by have := hc.count; omega)
 have hrest : ∀ z, z ≠ c.at_ -> (Lp K c r).F z = K.F z := fun z hz => iQ _ _ hz
 have e : dA (l1 ++ c.use r :: l2) = dA (l1 ++ c :: l2) := by rw [kP, kP]; rfl
 have hsub : ∀ c' ∈ l1 ++ l2, c' ∈ l1 ++ c :: l2 := fun c' h => by
  simp only [List.mem_append, List.mem_cons] at h ⊢
  rcases h with h | h
  ·exact .inl h
  ·exact .inr (.inr h)
 have hold : ∀ c' ∈ l1 ++ l2, aZ (Lp K c r).F c'.gen c'.tag c'.refs c'.data c'.ps := fun c' hc' =>
  (s.on c' (hsub c' hc')).moved (fun p hp => hrest p (fun e => hno c' hc' p hp (by rw [e]; exact h0)))
 refine ⟨fun c' hc' => ?_, ?_, fun z => ?_, ?_⟩
 ·simp only [List.mem_append, List.mem_cons] at hc'
  rcases hc' with h | rfl | h
  ·exact hold c' (List.mem_append.2 (.inl h))
  ·refine ⟨hc.fit, hr, hc.few, hc.len, hc.range, fun i hi => ?_⟩
   have hi : i < c.ps.length := hi
   show (Lp K c r).F (c.ps.getD i 0) = bs (cQ c.gen c.tag r c.data c.ps i).text
   rcases Nat.eq_zero_or_pos i with rfl | h'
   ·exact iP _ _ _
   ·rw [hrest _ (fun e => by have := Vk hn hi (by omega) e; omega), hc.laid i hi, Ik (by omega)]
  ·exact hold c' (List.mem_append.2 (.inr h))
 ·rw [e]; exact s.once
 ·rw [e]; exact s.mem z
 ·rw [e]; exact s.cnt
theorem Lq {gen tag refs by_ : Int} {b : ByteArray} {ps : List Int} (hc : aZ K.F gen tag refs b ps) (hH : ∀ p ∈ ps, p ∈ K.H) :
  (by_ < -refs \/ 60000 - refs < by_ -> sZ K (ps.getD 0 0) by_ = (0, 15) /\ vM K (ps.getD 0 0) by_ = K) /\
  (¬ (by_ < -refs \/ 60000 - refs < by_) -> sZ K (ps.getD 0 0) by_ = (refs + by_, 0) /\ vM K (ps.getD 0 0) by_ = Da K (ps.getD 0 0) (bs (cQ gen tag (refs + by_) b ps 0).text)) := by
 have hf := Nl hc
 have e2 : (aI K (ps.getD 0 0)).2 = 0 := by rw [gQ hc]
 have hfr : (fQ K (ps.getD 0 0)).refs = refs := by rw [hf]; rfl
 have hl0 : 0 < ps.length := by have := hc.count; omega
 unfold sZ vM
 have e3 : ¬ (aI K (ps.getD 0 0)).2 ≠ 0 := by rw [e2]; simp
 rw [if_neg e3, if_neg e3, hfr]
 constructor
 ·intro h
  rw [if_pos h, if_pos h]
  exact ⟨rfl, rfl⟩
 ·intro h
  have hx : (vL (fQ K (ps.getD 0 0)) by_).text = (cQ gen tag (refs + by_) b ps 0).text := by rw [hf]; rfl
  have hu := hc.used
  have hok : (cQ gen tag (refs + by_) b ps 0).Ok := by
   have := hc.ok hl0
   exact ⟨this.fit, this.num, (by show 0 <= refs + by_ /\ refs + by_ <= 60000; omega), this.next, this.data⟩
  obtain ⟨t1, t2⟩ := Vl hc hH hl0 (s := bs (cQ gen tag (refs + by_) b ps 0).text) (by rw [dO, hok.text_len])
  rw [if_neg h, if_neg h, hx, t1, t2, if_neg (by simp)]
  exact ⟨rfl, rfl⟩
end
def cX (g : Int) : Int := if g = 1 then 1 else if g = 2 \/ g = 3 then 2 else 0
def zO (g : Int) (b : ByteArray) : ByteArray := dE (cX g) [b]
def rG (g : Int) (b : ByteArray) : ByteArray := ⟨(pZ (cX g) (zO g b)).toArray⟩
def iI (n : Nat) : Bool := decide (0 < n /\ n <= 128)
theorem tD {g : Int} (h : 1 <= g /\ g <= 3) : cX g = 1 \/ cX g = 2 := by
 unfold cX
 by_cases h1 : g = 1
 ·exact .inl (if_pos h1)
 ·rw [if_neg h1, if_pos (by omega)]; exact .inr rfl
theorem Du {g : Int} (h : ¬ (1 <= g /\ g <= 3)) : cX g = 0 := by
 unfold cX
 rw [if_neg (by omega), if_neg (by omega)]
theorem qK {g : Int} (h : 1 <= g /\ g <= 3) : iJ (cX g) ≠ 0 := by
 rcases tD h with e | e <;> rw [e] <;> decide
theorem Me {g : Int} (h : 1 <= g /\ g <= 3) (b : ByteArray) : kG (cX g) (zO g b) = true := zV (qK h) _
theorem Lf {g : Int} (h : 1 <= g /\ g <= 3) (b : ByteArray) : (zO g b).size <= 32 := by
 have h1 := nF (qK h) [b]
 have h2 := lK (cX g)
 unfold zO
 omega
theorem mJ {g : Int} (h : 1 <= g /\ g <= 3) (b : ByteArray) : (rG g b).size = 33 := tE (Lf h b)
def Ra (gen tag : Int) (s : ByteArray) : Bool := decide (tag = 1) && (decide (33 <= s.size) && (iI (s.size - 33) && decide (s.extract 0 33 = rG gen (s.extract 33 s.size))))
def Ci (gen refs kind : Int) (sum data : ByteArray) : Value := .agg #[.int .i64 gen, .int .i64 refs, .int .i64 kind, .string sum, .string data]
def vZ (R : List LK × Int) : Int := if R.2 ≠ 0 then R.2 else if Ra (fL R).1 (fL R).2.1 (fL R).2.2.2 = true then 0 else 25
def Vt (R : List LK × Int) : Value :=
 if vZ R ≠ 0 then Ci 0 0 0 .empty .empty
 else Ci (fL R).1 (fL R).2.2.1 (cX (fL R).1) (zO (fL R).1 ((fL R).2.2.2.extract 33 (fL R).2.2.2.size)) ((fL R).2.2.2.extract 33 (fL R).2.2.2.size)
def tY (g : Int) (b : ByteArray) : ByteArray := rG g b ++ b
theorem rH {g : Int} (h : 1 <= g /\ g <= 3) (b : ByteArray) : (tY g b).size = 33 + b.size := by unfold tY; rw [ByteArray.size_append, mJ h]
theorem Rb {g : Int} (h : 1 <= g /\ g <= 3) (b : ByteArray) : (tY g b).extract 0 33 = rG g b := by
 apply ByteArray.ext
 apply Array.toList_inj.1
 have := mJ h b
 rw [Lib.size_eq] at this
 unfold tY
 rw [ByteArray.data_extract, Array.toList_extract, ByteArray.data_append, Array.toList_append, List.extract_eq_take_drop, Nat.sub_zero, List.drop_zero, List.take_append_of_le_length (by omega), List.take_of_length_le (by omega)]
theorem Dv {g : Int} (h : 1 <= g /\ g <= 3) (b : ByteArray) : (tY g b).extract 33 (tY g b).size = b := by
 apply ByteArray.ext
 apply Array.toList_inj.1
 have hs := rH h b
 have := mJ h b
 rw [Lib.size_eq] at this
 rw [hs]
 unfold tY
 rw [ByteArray.data_extract, Array.toList_extract, ByteArray.data_append, Array.toList_append, List.extract_eq_take_drop, List.drop_left' this, Nat.add_sub_cancel_left, List.take_of_length_le (by rw [<- Lib.size_eq]; omega)]
theorem Yu {g : Int} (h : 1 <= g /\ g <= 3) {b : ByteArray} (hb : iI b.size = true) : Ra g 1 (tY g b) = true := by
 unfold Ra
 rw [Rb h, Dv h, rH h, Nat.add_sub_cancel_left, hb]
 simp
theorem rI {K : KD} {g refs : Int} {b : ByteArray} {ps : List Int} (hc : aZ K.F g 1 refs (tY g b) ps) (hb : iI b.size = true) : vZ (aI K (ps.getD 0 0)) = 0 /\ Vt (aI K (ps.getD 0 0)) = Ci g refs (cX g) (zO g b) b := by
 have hf : 1 <= g /\ g <= 3 := ⟨hc.fit.1, hc.fit.2.1⟩
 have e2 : (aI K (ps.getD 0 0)).2 = 0 := by rw [gQ hc]
 have e : vZ (aI K (ps.getD 0 0)) = 0 := by
  unfold vZ
  rw [if_neg (by rw [e2]; simp), wE hc, if_pos (Yu hf hb)]
 refine ⟨e, ?_⟩
 unfold Vt
 rw [if_neg (by rw [e]; simp), wE hc]
 simp only
 rw [Dv hf]
theorem Mf {K : KD} {t : Int} (h : (aI K t).2 = 0) : 1 <= (fL (aI K t)).1 /\ (fL (aI K t)).1 <= 3 := by
 have := (Cd h).1.fit
 unfold fL
 rw [if_neg (by rw [h]; simp)]
 exact ⟨this.1, this.2.1⟩
set_option maxRecDepth 100000
set_option maxHeartbeats 400000
theorem mI (g : Int) (w : World) :
  Calls Tryz.prog 18 #[.int .i64 g] w fun e w' => e = .returned (.int .i64 (cX g)) /\ w' = w := by
 by_cases h1 : g = 1
 ·subst h1
  go_enter Tryz.func18, Tryz.ntmps18
  go_wp2
  go_ret
  exact ⟨rfl, rfl⟩
 by_cases h2 : g = 2
 ·subst h2
  go_enter Tryz.func18, Tryz.ntmps18
  go_wp2
  go_ret
  exact ⟨rfl, rfl⟩
 by_cases h3 : g = 3
 ·subst h3
  go_enter Tryz.func18, Tryz.ntmps18
  go_wp2
  go_ret
  exact ⟨rfl, rfl⟩
 rw [Du (by omega)]
 have e1 : (g == 1) = false := beq_eq_false_iff_ne.2 h1
 have e2 : (g == 2) = false := beq_eq_false_iff_ne.2 h2
 have e3 : (g == 3) = false := beq_eq_false_iff_ne.2 h3
 clear h1 h2 h3
 go_enter Tryz.func18, Tryz.ntmps18
 go_wp2
 go_ret
 exact ⟨rfl, rfl⟩
theorem Af (A : Option Addr) (m c : Nat) (xs : List ByteArray) (w : World) (hm : xs.length = m) (hx : dL w w.heap.size A xs) (hl : m <= 1000000) (hsz : ∀ x ∈ xs, x.size <= 140737488351232) :
  Calls Tryz.prog 28 #[.slice A m c] w fun e w' => e = .returned (.bool (iI (aW xs).length)) /\ w' = w := by
 have HX := Lib.hid hx
 have HZ := Lib.hid hsz
 have HM := Lib.hid hm
 clear hx hsz hm
 go_enter Tryz.func28, Tryz.ntmps28
 go_wp2
 go_loop [3, 8] (fun v i => ∃ (j r : Nat), j <= m /\ i = .int .i64 j /\ v = .int .i64 r /\ r = (aW (xs.take j)).length /\ r <= 128) (fun _ i => m - (intOf i).toNat)
 case atStart => exact ⟨0, 0, Nat.zero_le _, rfl, rfl, by simp [aW], by omega⟩
 case round =>
  obtain ⟨j, r, hj, rfl, rfl, hr, hr1⟩ := hrel
  have HR := Lib.hid hr
  clear hr
  by_cases hlt : j < m
  ·have hxl : j < xs.length := by rw [HM.out]; exact hlt
   obtain ⟨b, off, hA, hbB, hc⟩ := HX.out (by omega)
   obtain ⟨x, hx⟩ : ∃ x, x = xs[j] := ⟨_, rfl⟩
   have hxj : xs[j]? = some x := by rw [hx]; exact List.getElem?_eq_getElem hxl
   have hcx : w.cell? ⟨b, off + j, none⟩ = some (.string x) := hc j x hxj
   have hsx := HZ.out x (by rw [hx]; exact List.getElem_mem hxl)
   have E1 := Lib.hid (gM hxj)
   have E2 := Lib.hid (kH hxj)
   clear hxj hc hx
   subst hA
   by_cases hbig : 128 < r + x.size
   ·have HNO : Hid (iI (aW xs).length = false) := Lib.hid (decide_eq_false (by have := E2.out; have := HR.out; omega))
    go_wp2
    go_ret
    rw [HNO.out]
    exact ⟨rfl, rfl⟩
   ·have hsm : r + x.size <= 128 := by omega
    clear hbig
    go_wp2
    go_round
    case rel => exact ⟨j + 1, r + x.size, by omega, by go_num, by go_num, by rw [E1.out, List.length_append, <- Lib.size_eq]; have := HR.out; omega, hsm⟩
    case measure => simp [intOf]; omega
  ·obtain rfl : j = m := by omega
   have HT : Hid (r = (aW xs).length) := Lib.hid (by have := HR.out; rwa [List.take_of_length_le (by rw [HM.out]; exact Nat.le_refl _)] at this)
   have HD : Hid (decide (0 < r) = iI (aW xs).length) := Lib.hid (by
    unfold iI
    rw [<- HT.out, decide_eq_decide]
    omega)
   clear hlt hj
   go_wp2
   go_ret
   rw [<- HD.out]
   exact ⟨rfl, rfl⟩
theorem wN (g : Int) (b : ByteArray) (w : World) (hg : 1 <= g /\ g <= 3) (hb : b.size <= 100000) :
  Calls Tryz.prog 30 #[.int .i64 g, .string b] w fun e w' => e = .returned (.tuple #[.agg #[.int .i64 (cX g), .string (zO g b)], .string (rG g b)]) /\ Below w.heap.size w w' := by
 have HK := Lib.hid (fun w1 => mI g w1)
 have hks := qK hg
 have hv := Me hg b
 have HO : Hid (∀ (w1 : World) (p : Nat), dL w1 w1.heap.size (some ⟨p, 0, none⟩) [b] -> Calls Tryz.prog 59 #[.int .i64 (cX g), .slice (some ⟨p, 0, none⟩) 1 1] w1 fun e w' => e = .returned (.tuple #[.agg #[.int .i64 (cX g), .string (zO g b)], .int .i64 0]) /\ Below w1.heap.size w1 w') := Lib.hid (fun w1 p h => by
  have := Vu (cX g) (some ⟨p, 0, none⟩) 1 1 [b] w1 rfl h (by omega) (by omega) (by rw [eW, <- Lib.size_eq]; exact hb)
  rw [Wt hks] at this
  exact this)
 have HL : Hid (∀ w1, Calls Tryz.prog 60 #[.agg #[.int .i64 (cX g), .string (zO g b)]] w1 fun e w' => e = .returned (.tuple #[.string (rG g b), .int .i64 0]) /\ Below w1.heap.size w1 w') := Lib.hid (fun w1 => by
  have := Sf (cX g) (zO g b) w1
  rw [Sj hv] at this
  exact this)
 generalize cX g = k at *
 generalize zO g b = S at *
 generalize rG g b = L at *
 clear hks hv hb hg
 go_enter Tryz.func30, Tryz.ntmps30
 go_wp2_with fail
 refine (HK.out _).mono ?_
 rintro e w1 ⟨rfl, rfl⟩
 go_wp2_with fail
 refine (HO.out _ _ (jU _ _ _ _ (by simp) rfl)).mono ?_
 rintro e w1 ⟨rfl, hb1⟩
 have b1 : aG w1 w.heap.size 36 #[.int .i64 0, .string ⟨#[]⟩] := ((aG.new w _ _).alloc _).below hb1 (by simp; omega)
 have HB1 : Hid (Below w.heap.size w w1) := Lib.hid ((((Below.refl _ _).alloc (Nat.le_refl _) _).alloc (by simp) _).trans (hb1.mono (by simp; omega)))
 clear hb1
 go_wp2_with fail
 refine (HL.out _).mono ?_
 rintro e w2 ⟨rfl, hb2⟩
 have p2 : aG w2 w1.heap.size 36 #[.int .i64 k, .string S] := (aG.new w1 _ _).below hb2 (by simp)
 have b2 := (b1.alloc (.cells #[.int .i64 k, .string S] 36)).below hb2 (by have := b1.lt; simp; omega)
 have HB2 : Hid (Below w.heap.size w w2) := Lib.hid ((HB1.out.alloc HB1.out.size _).trans (hb2.mono (by have := HB1.out.size; simp; omega)))
 have c0 := p2.cell 0
 have c1 := p2.cell 1
 have d0 := b2.cell 0
 have d1 := b2.cell 1
 have f0 := b2.frozen 0
 have f1 := b2.frozen 1
 simp at c0 c1 d0 d1
 clear hb2 b1
 go_wp2_with fail
 have b3 := (b2.put 0 (.int .i64 k)).put 1 (.string S)
 refine dN rfl rfl (aT (off := 0) b3 (fun j v h => by rw [Nat.zero_add]; exact h) (fun w => by kernel_rfl) (fun w => by kernel_rfl)) rfl rfl ?_
 exact ⟨rfl, (HB2.out.setCell (Nat.le_refl _) _).setCell (Nat.le_refl _) _⟩
set_option maxRecDepth 100000
set_option maxHeartbeats 1000000
section
variable {w0 w : World} {g gd m N : Nat} {K : KD} {Ms : List MK} {h : List ByteArray} {c0 : Nat}
def Vs (gen : Int) (xs : List ByteArray) : Bool := decide (1 <= gen /\ gen <= 3) && iI (aW xs).length
theorem Cg {w' : World} {c : Nat} {gen tag : Int} {b : ByteArray} {e : Ending} (p : wF w0 w' g gd m N K Ms h c gen tag b e) : ∃ t er : Int, e = .returned (.tuple #[.int .i64 t, .int .i64 er]) := by
 cases p with
 | arg _ he _ => exact ⟨_, _, he⟩
 | long _ _ he _ => exact ⟨_, _, he⟩
 | full _ _ _ he _ => exact ⟨_, _, he⟩
 | done _ _ _ _ _ he _ _ => exact ⟨_, _, he⟩
def AC (w0 w' : World) (g gd m N : Nat) (K : KD) (Ms : List MK) (h : List ByteArray) (c : Nat) (gen : Int) (xs : List ByteArray) (e : Ending) : Prop :=
 (Vs gen xs = false /\ e = .returned (.tuple #[.int .i64 0, .int .i64 1]) /\ eK w0 w' g gd m N K Ms) \/ (Vs gen xs = true /\ wF w0 w' g gd m N K Ms h c gen 1 (tY gen (eE xs)) e)
theorem Ds (s : eK w0 w g gd m N K Ms) (r : bU N K h c0) (hm : m <= 900000) (gen : Int) (A : Option Addr) (n c : Nat) (xs : List ByteArray) (hn : xs.length = n) (hx : dL w w.heap.size A xs) (hc : n <= c) (hl : n <= 1000) (hs : (aW xs).length <= 100000) (hz : ∀ x ∈ xs, x.size <= 140737488351232) :
  Calls Tryz.prog 11 #[.pointer (some ⟨g, 0, none⟩), .int .i64 gen, .slice A n c] w fun e w' => AC w0 w' g gd (m + 40) N K Ms h c0 gen xs e := by
 have HK := Lib.hid (fun w1 => mI gen w1)
 have HF := Lib.hid (Af A n c xs w hn hx (by omega) hz)
 have HS := Lib.hid s
 obtain ⟨F, hF⟩ : ∃ F, F = iI (aW xs).length := ⟨_, rfl⟩
 rw [<- hF] at HF
 have HFE := Lib.hid hF
 by_cases hg : 1 <= gen /\ gen <= 3
 rotate_left
 ·have ho : Vs gen xs = false := by unfold Vs; rw [decide_eq_false hg]; rfl
  rw [Du hg] at HK
  have HO := Lib.hid ho
  clear s r hF ho hg hx HF
  go_enter Tryz.func11, Tryz.ntmps11
  go_wp2_with fail
  refine (HK.out _).mono ?_
  rintro e w1 ⟨rfl, rfl⟩
  go_wp2_with fail
  go_ret2
  exact .inl ⟨HO.out, rfl, HS.out.mono (by omega)⟩
 have hk0 : (cX gen == 0) = false := by rcases tD hg with e | e <;> rw [e] <;> rfl
 have HO : Hid (Vs gen xs = F) := Lib.hid (by unfold Vs; rw [decide_eq_true hg, <- hF]; rfl)
 have HLS := Lib.hid (mJ hg (eE xs))
 have HSJ := Lib.hid (Ax A n c xs w hn hx hc (by omega) (by omega))
 have HJS : Hid ((eE xs).size = (aW xs).length) := Lib.hid (jC xs)
 obtain ⟨J, hJ⟩ : ∃ J, J = eE xs := ⟨_, rfl⟩
 have HJ := Lib.hid hJ
 rw [<- hJ] at HSJ HJS HLS
 have HPR := Lib.hid (fun w1 => wN gen J w1 hg (by rw [HJS.out]; exact hs))
 obtain ⟨L, hL⟩ : ∃ L, L = rG gen J := ⟨_, rfl⟩
 have HL := Lib.hid hL
 rw [<- hL] at HPR HLS
 generalize cX gen = k at *
 cases F with
 | false =>
   clear s r hF hx hg hJ hL HSJ HPR
   go_enter Tryz.func11, Tryz.ntmps11
   go_wp2_with fail
   refine (HK.out _).mono ?_
   rintro e w1 ⟨rfl, rfl⟩
   go_wp2_with fail
   refine HF.out.mono ?_
   rintro e w1 ⟨rfl, rfl⟩
   go_wp2_with fail
   go_ret2
   exact .inl ⟨HO.out, rfl, HS.out.mono (by omega)⟩
 | true =>
   have hj : J.size <= 128 := by
    have := of_decide_eq_true hF.symm
    rw [HJS.out]
    exact this.2
   have hls : L.size + J.size <= 9223372036854775807 := by rw [HLS.out]; omega
   have HCP : Hid (∀ w1, Below w.heap.size w w1 -> Calls Tryz.prog 23 #[.pointer (some ⟨g, 0, none⟩), .int .i64 gen, .int .i64 1, .string (L ++ J)] w1 fun e w' => wF w0 w' g gd (m + 40) N K Ms h c0 gen 1 (tY gen J) e) := Lib.hid (fun w1 hb => by
    have hlj : L ++ J = tY gen J := by rw [HL.out]; rfl
    rw [hlj]
    exact xR (HS.out.below hb) r hm gen 1 (tY gen J) (by rw [<- hlj, ByteArray.size_append, HLS.out]; omega))
   clear s r hF hx hg hJ hL
   go_enter Tryz.func11, Tryz.ntmps11
   go_wp2_with fail
   refine (HK.out _).mono ?_
   rintro e w1 ⟨rfl, rfl⟩
   go_wp2_with fail
   refine HF.out.mono ?_
   rintro e w1 ⟨rfl, rfl⟩
   go_wp2_with fail
   refine HSJ.out.mono ?_
   rintro e w1 ⟨rfl, hb1⟩
   have HB1 := Lib.hid hb1
   clear hb1
   go_wp2_with fail
   refine (HPR.out _).mono ?_
   rintro e w2 ⟨rfl, hb2⟩
   have HB2 := Lib.hid (HB1.out.trans (hb2.mono HB1.out.size))
   clear hb2
   go_wp2_with fail
   refine (HCP.out _ (HB2.out.alloc HB2.out.size _)).mono ?_
   rintro e w3 hp
   rw [HJ.out] at hp
   obtain ⟨t, er, rfl⟩ := Cg hp
   have HP := Lib.hid hp
   clear hp
   go_wp2_with fail
   go_ret2
   exact .inr ⟨HO.out, HP.out⟩
theorem oB {b : Nat} {t : TypeId} {x0 x1 x2 x3 x4 : Value} (k : aG w b t #[x0, x1, x2, x3, x4]) :
  (w.cell? ⟨b, 0, none⟩ = some x0 /\ w.cell? ⟨b, 1, none⟩ = some x1 /\ w.cell? ⟨b, 2, none⟩ = some x2 /\ w.cell? ⟨b, 3, none⟩ = some x3 /\ w.cell? ⟨b, 4, none⟩ = some x4) /\
  w.frozen? ⟨b, 0, none⟩ = false /\ w.frozen? ⟨b, 1, none⟩ = false /\ w.frozen? ⟨b, 2, none⟩ = false /\ w.frozen? ⟨b, 3, none⟩ = false /\ w.frozen? ⟨b, 4, none⟩ = false :=
 ⟨⟨k.cell 0, k.cell 1, k.cell 2, k.cell 3, k.cell 4⟩, k.frozen 0, k.frozen 1, k.frozen 2, k.frozen 3, k.frozen 4⟩
theorem tC {fn : Func} {R : Ending -> World -> Prop} {a : Act} {b B : Nat} {x0 x1 x2 x3 x4 v0 v1 v2 v3 v4 u : Value} (hB : B <= b) (hbw : Below B w0 w) (hb : aG w b 38 #[x0, x1, x2, x3, x4]) (hf : fn.results = #[.cell 4 38, .tmp 5])
  (hp : a.tmps.getD 4 undef = .pointer (some ⟨b, 0, none⟩)) (hu : a.tmps.getD 5 undef = u) (hd : a.defers = []) (hR : ∀ w', Below B w0 w' -> R (.returned (.tuple #[.agg #[v0, v1, v2, v3, v4], u])) w') :
  bodyPost Tryz.prog fn R .ret a (((((w.setCell ⟨b, 0, none⟩ v0).setCell ⟨b, 1, none⟩ v1).setCell ⟨b, 2, none⟩ v2).setCell ⟨b, 3, none⟩ v3).setCell ⟨b, 4, none⟩ v4) :=
 dN hf hp (aT (off := 0) (((((hb.put 0 v0).put 1 v1).put 2 v2).put 3 v3).put 4 v4) (fun j v h => by rw [Nat.zero_add]; exact h) (fun w => by kernel_rfl) (fun w => by kernel_rfl)) hu hd
  (hR _ (((((hbw.setCell hB _).setCell hB _).setCell hB _).setCell hB _).setCell hB _))
theorem Dt (R : List LK × Int) : ∃ x0 x1 x2 x3 x4, Vt R = Ci x0 x1 x2 x3 x4 := by
 unfold Vt
 split <;> exact ⟨_, _, _, _, _, rfl⟩
theorem Qy {t : Int} (hG : ∀ t, (gI K t).1.size <= 100000) : (fL (aI K t)).2.2.2.size <= 4000000 := by
 unfold fL
 split
 ·exact Nat.zero_le _
 ·have h2 := Md (rC hG 40 [] t (fun x hx => by cases hx))
  have h3 := zJ K t
  show (pJ (aI K t).1).toArray.size <= _
  unfold aI at h3 ⊢
  rw [List.size_toArray]
  omega
theorem rF (s : Dm w0 w g gd m K) (r : bU N K h c0) {t0 : Int} (ht : nK t0) :
  Calls Tryz.prog 14 #[.pointer (some ⟨g, 0, none⟩), .int .i64 t0] w fun e w' => e = .returned (.tuple #[Vt (aI K t0), .int .i64 (vZ (aI K t0))]) /\ Below w.heap.size w w' := by
 have HC := Lib.hid (fun w1 (hb : Below w.heap.size w w1) => Hc (s.below hb) r ht)
 have hgf := fun e => Mf (K := K) (t := t0) e
 have hsz := Qy (K := K) (t := t0) r.getR_size
 obtain ⟨R, hR⟩ : ∃ R, R = aI K t0 := ⟨_, rfl⟩
 rw [<- hR] at HC hgf hsz ⊢
 have hE : vZ R = if R.2 ≠ 0 then R.2 else if Ra (fL R).1 (fL R).2.1 (fL R).2.2.2 = true then 0 else 25 := rfl
 have hV : Vt R = if vZ R ≠ 0 then Ci 0 0 0 .empty .empty else Ci (fL R).1 (fL R).2.2.1 (cX (fL R).1) (zO (fL R).1 ((fL R).2.2.2.extract 33 (fL R).2.2.2.size)) ((fL R).2.2.2.extract 33 (fL R).2.2.2.size) := rfl
 unfold AQ at HC
 obtain ⟨er, her⟩ : ∃ er, er = R.2 := ⟨_, rfl⟩
 obtain ⟨⟨gen, tag, refs, B⟩, hq⟩ : ∃ q, q = fL R := ⟨_, rfl⟩
 rw [<- her] at HC hgf hE
 rw [<- hq] at HC hgf hE hV hsz
 simp only at HC hgf hE hV hsz
 generalize vZ R = E at *
 generalize Vt R = V at *
 have HGF := Lib.hid hgf
 have HSZ := Lib.hid hsz
 have HE := Lib.hid hE
 have HV := Lib.hid hV
 clear s r ht her hq hR hgf hsz hE hV
 go_enter Tryz.func14, Tryz.ntmps14
 go_wp2_with fail
 refine (HC.out _ ((Below.refl _ _).alloc (Nat.le_refl _) _)).mono ?_
 rintro e w1 ⟨rfl, hb1⟩
 have HB1 : Hid (Below w.heap.size w w1) := Lib.hid (((Below.refl _ _).alloc (Nat.le_refl _) _).trans (hb1.mono (by simp)))
 have KR1 : Hid (aG w1 w.heap.size 38 #[.int .i64 0, .int .i64 0, .int .i64 0, .string ⟨#[]⟩, .string ⟨#[]⟩]) := Lib.hid ((aG.new w _ _).below hb1 (by simp))
 clear hb1 HC
 go_upto_region 2 with fail
 obtain ⟨gc, hgc⟩ : ∃ gc, gc = w1.heap.size := ⟨_, rfl⟩
 obtain ⟨w2, hw2⟩ : ∃ w2, w2 = w1.alloc (.cells #[.int .i64 gen, .int .i64 tag, .int .i64 refs, .string B] 42) := ⟨_, rfl⟩
 have HB2 : Hid (Below w.heap.size w w2) := Lib.hid (by rw [hw2]; exact HB1.out.alloc HB1.out.size _)
 have KR : Hid (aG w2 w.heap.size 38 #[.int .i64 0, .int .i64 0, .int .i64 0, .string ⟨#[]⟩, .string ⟨#[]⟩]) := Lib.hid (by rw [hw2]; exact KR1.out.alloc _)
 have KC : Hid (aG w2 gc 42 #[.int .i64 gen, .int .i64 tag, .int .i64 refs, .string B]) := Lib.hid (by rw [hw2, hgc]; exact aG.new w1 _ _)
 rw [<- hw2, <- hgc]
 obtain ⟨gr, hgr⟩ : ∃ gr, gr = w.heap.size := ⟨_, rfl⟩
 have HGR := Lib.hid (Nat.le_of_eq hgr.symm)
 rw [<- hgr] at KR
 rw [<- hgr]
 clear HB1 KR1 hw2 hgc hgr
 by_cases he : er = 0
 rotate_left
 ·obtain rfl : E = er := by rw [HE.out, if_pos he]
  have HX : Hid (V = Ci 0 0 0 .empty .empty) := Lib.hid (by rw [HV.out, if_pos he])
  have z0 : (E == 0) = false := by simpa using he
  obtain ⟨⟨k0, k1, k2, k3, k4⟩, f0, f1, f2, f3, f4⟩ := oB KR.out
  clear he HE HV
  go_wp2_with fail
  exact tC HGR.out HB2.out KR.out rfl rfl rfl rfl fun w' hb => ⟨by rw [HX.out]; rfl, hb⟩
 subst he
 obtain ⟨ok, hok⟩ : ∃ ok, ok = Ra gen tag B := ⟨_, rfl⟩
 have HOK : Hid (ok = (decide (tag = 1) && (decide (33 <= B.size) && (iI (B.size - 33) && decide (B.extract 0 33 = rG gen (B.extract 33 B.size)))))) := Lib.hid hok
 have HE2 : Hid (E = if ok = true then 0 else 25) := Lib.hid (by rw [HE.out, if_neg (by simp), <- hok])
 have hg := HGF.out rfl
 have HBAD : Hid (ok = false -> E = 25 /\ V = Ci 0 0 0 .empty .empty) := Lib.hid (fun h => by
  have e : E = 25 := by rw [HE2.out, h]; rfl
  exact ⟨e, by rw [HV.out, if_pos (by rw [e]; decide)]⟩)
 clear hok HE HGF
 by_cases ht1 : tag = 1
 rotate_left
 ·obtain ⟨rfl, hv⟩ := HBAD.out (by rw [HOK.out, decide_eq_false ht1]; rfl)
  have HX := Lib.hid hv
  have z1 : (tag == 1) = false := by simpa using ht1
  have z2 : (tag != 1) = true := by simpa using ht1
  have c1 : w2.cell? ⟨gc, 1, none⟩ = some (.int .i64 tag) := KC.out.cell 1
  obtain ⟨⟨k0, k1, k2, k3, k4⟩, f0, f1, f2, f3, f4⟩ := oB KR.out
  clear hv ht1 hg
  go_wp2_with fail
  exact tC HGR.out HB2.out KR.out rfl rfl rfl rfl fun w' hb => ⟨by rw [HX.out]; rfl, hb⟩
 subst ht1
 obtain ⟨n, hn⟩ : ∃ n, n = B.size := ⟨_, rfl⟩
 have hnI : (B.size : Int) = (n : Int) := by rw [hn]
 have HN := Lib.hid hn
 clear hn
 have c1 : w2.cell? ⟨gc, 1, none⟩ = some (.int .i64 1) := KC.out.cell 1
 have c3 : w2.cell? ⟨gc, 3, none⟩ = some (.string B) := KC.out.cell 3
 by_cases hsm : n < 33
 ·obtain ⟨rfl, hv⟩ := HBAD.out (by rw [HOK.out, decide_eq_false (p := 33 <= B.size) (by rw [<- HN.out]; omega)]; simp)
  have HX := Lib.hid hv
  have hsI : (n : Int) < 33 := by omega
  obtain ⟨⟨k0, k1, k2, k3, k4⟩, f0, f1, f2, f3, f4⟩ := oB KR.out
  clear hv hg
  go_wp2_with fail
  exact tC HGR.out HB2.out KR.out rfl rfl rfl rfl fun w' hb => ⟨by rw [HX.out]; rfl, hb⟩
 have hsI : ¬ (n : Int) < 33 := by omega
 obtain ⟨D, hD⟩ : ∃ D, D = B.extract 33 B.size := ⟨_, rfl⟩
 have HD := Lib.hid hD
 have HDS : Hid (D.size = n - 33) := Lib.hid (by rw [hD, ByteArray.size_extract, Nat.min_self, HN.out])
 obtain ⟨F, hF⟩ : ∃ F, F = iI D.size := ⟨_, rfl⟩
 have HFE := Lib.hid hF
 have hsr : ∀ w, (Instr.slice 9 (.string B) (some (.int .i64 33)) none none).run Tryz.prog w = .ok (.string D) w := fun w => kN w B D 33 (by rw [<- HN.out]; omega) hD.symm
 have HFI : Hid (∀ (w1 : World) (p : Nat), dL w1 w1.heap.size (some ⟨p, 0, none⟩) [D] -> Calls Tryz.prog 28 #[.slice (some ⟨p, 0, none⟩) 1 1] w1 fun e w' => e = .returned (.bool F) /\ Below w1.heap.size w1 w') := Lib.hid (fun w1 p h => by
  have := Af (some ⟨p, 0, none⟩) 1 1 [D] w1 rfl h (by omega) (fun x hx => by rw [List.mem_singleton.1 hx, HDS.out]; have := HSZ.out; rw [<- HN.out] at this; omega)
  rw [eW, <- Lib.size_eq, <- HFE.out] at this
  exact this.mono fun e w' h => ⟨h.1, by rw [h.2]; exact Below.refl _ _⟩)
 clear hD hF
 go_wp2_with fail
 refine (HFI.out _ _ (jU _ _ _ _ rfl rfl)).mono ?_
 rintro e w3 ⟨rfl, hb3⟩
 have KR3 := Lib.hid ((KR.out.alloc (.cells #[.string D] 9)).below hb3 (by have := KR.out.lt; simp; omega))
 have KC3 := Lib.hid ((KC.out.alloc (.cells #[.string D] 9)).below hb3 (by have := KC.out.lt; simp; omega))
 have HB3 := Lib.hid ((HB2.out.alloc HB2.out.size (.cells #[.string D] 9)).trans (hb3.mono (by have := HB2.out.size; simp; omega)))
 clear hb3 KR KC HB2 c1 c3 HFI
 cases F with
 | false =>
   obtain ⟨rfl, hv⟩ := HBAD.out (by rw [HOK.out, show iI (B.size - 33) = false by rw [<- HN.out, <- HDS.out, <- HFE.out]]; simp)
   have HX := Lib.hid hv
   obtain ⟨⟨k0, k1, k2, k3, k4⟩, f0, f1, f2, f3, f4⟩ := oB KR3.out
   clear hv hg
   go_wp2_with fail
   exact tC HGR.out HB3.out KR3.out rfl rfl rfl rfl fun w' hb => ⟨by rw [HX.out]; rfl, hb⟩
 | true =>
 have hd1 : D.size <= 128 := (of_decide_eq_true HFE.out.symm).2
 have HPR := Lib.hid (fun w1 => wN gen D w1 hg (by omega))
 have c0 : w3.cell? ⟨gc, 0, none⟩ = some (.int .i64 gen) := KC3.out.cell 0
 have c3 : w3.cell? ⟨gc, 3, none⟩ = some (.string B) := KC3.out.cell 3
 clear hg hd1
 go_wp2_with fail
 refine (HPR.out _).mono ?_
 rintro e w4 ⟨rfl, hb4⟩
 have KR4 := Lib.hid (KR3.out.below hb4 KR3.out.lt)
 have KC4 := Lib.hid (KC3.out.below hb4 KC3.out.lt)
 have HB4 := Lib.hid (HB3.out.trans (hb4.mono HB3.out.size))
 clear hb4 KR3 KC3 HB3 c0 c3 HPR
 go_upto_region 8 with fail
 obtain ⟨kd, hkd⟩ : ∃ kd, kd = cX gen := ⟨_, rfl⟩
 obtain ⟨S, hS⟩ : ∃ S, S = zO gen D := ⟨_, rfl⟩
 obtain ⟨L, hL⟩ : ∃ L, L = rG gen D := ⟨_, rfl⟩
 rw [<- hkd, <- hS, <- hL]
 have HKD := Lib.hid hkd
 have HS := Lib.hid hS
 have HL := Lib.hid hL
 clear hkd hS hL
 obtain ⟨gp, hgp⟩ : ∃ gp, gp = w4.heap.size := ⟨_, rfl⟩
 obtain ⟨w5, hw5⟩ : ∃ w5, w5 = w4.alloc (.cells #[.int .i64 kd, .string S] 36) := ⟨_, rfl⟩
 have HB5 : Hid (Below w.heap.size w w5) := Lib.hid (by rw [hw5]; exact HB4.out.alloc HB4.out.size _)
 have KR : Hid (aG w5 gr _ _) := Lib.hid (by rw [hw5]; exact KR4.out.alloc _)
 have KC : Hid (aG w5 gc _ _) := Lib.hid (by rw [hw5]; exact KC4.out.alloc _)
 have KP : Hid (aG w5 gp 36 #[.int .i64 kd, .string S]) := Lib.hid (by rw [hw5, hgp]; exact aG.new w4 _ _)
 rw [<- hw5, <- hgp]
 clear HB4 KR4 KC4 hw5 hgp
 obtain ⟨H0, hH0⟩ : ∃ H0, H0 = B.extract 0 33 := ⟨_, rfl⟩
 have HH0 := Lib.hid hH0
 have hsh : ∀ w, (Instr.slice 9 (.string B) none (some (.int .i64 33)) none).run Tryz.prog w = .ok (.string H0) w := fun w => nC w B H0 33 (by rw [<- HN.out]; omega) hH0.symm
 have c0 : w5.cell? ⟨gc, 0, none⟩ = some (.int .i64 gen) := KC.out.cell 0
 have c2 : w5.cell? ⟨gc, 2, none⟩ = some (.int .i64 refs) := KC.out.cell 2
 have c3 : w5.cell? ⟨gc, 3, none⟩ = some (.string B) := KC.out.cell 3
 have p0 : w5.cell? ⟨gp, 0, none⟩ = some (.int .i64 kd) := KP.out.cell 0
 have p1 : w5.cell? ⟨gp, 1, none⟩ = some (.string S) := KP.out.cell 1
 obtain ⟨⟨k0, k1, k2, k3, k4⟩, f0, f1, f2, f3, f4⟩ := oB KR.out
 clear hH0 hsr
 by_cases heq : H0 = L
 rotate_left
 ·obtain ⟨rfl, hv⟩ := HBAD.out (by rw [HOK.out, decide_eq_false (p := B.extract 0 33 = _) (by rw [<- HH0.out, <- HD.out, <- HL.out]; exact heq)]; simp)
  have HX := Lib.hid hv
  have hne : (H0.toList == L.toList) = false := by rw [fC]; exact decide_eq_false heq
  clear hv heq
  go_wp2_with fail
  exact tC HGR.out HB5.out KR.out rfl rfl rfl rfl fun w' hb => ⟨by rw [HX.out]; rfl, hb⟩
 ·have hok : ok = true := by
   rw [HOK.out, decide_eq_true (p := B.extract 0 33 = _) (by rw [<- HH0.out, <- HD.out, <- HL.out]; exact heq), show iI (B.size - 33) = true by rw [<- HN.out, <- HDS.out, <- HFE.out], decide_eq_true (p := 33 <= B.size) (by rw [<- HN.out]; omega)]
   rfl
  obtain rfl : E = 0 := by rw [HE2.out, hok]; rfl
  have HX : Hid (V = Ci gen refs kd S D) := Lib.hid (by rw [HV.out, if_neg (by simp), <- HD.out, <- HKD.out, <- HS.out])
  have hne : (H0.toList == L.toList) = true := by rw [fC]; exact decide_eq_true heq
  clear hok heq
  go_wp2_with fail
  exact tC HGR.out HB5.out KR.out rfl rfl rfl rfl fun w' hb => ⟨by rw [HX.out]; rfl, hb⟩
def Qz (K : KD) (t by_ : Int) : (Int × Int) × KD := if vZ (aI K t) ≠ 0 then ((0, vZ (aI K t)), K) else (sZ K t by_, vM K t by_)
theorem wM (s : eK w0 w g gd m N K Ms) (r : bU N K h c0) (hm : m < 1000000) {t0 by_ : Int} (ht : nK t0) (hb : nK by_) :
  Calls Tryz.prog 19 #[.pointer (some ⟨g, 0, none⟩), .int .i64 t0, .int .i64 by_] w fun e w' => e = .returned (.tuple #[.int .i64 (Qz K t0 by_).1.1, .int .i64 (Qz K t0 by_).1.2]) /\ eK w0 w' g gd (m + 1) N (Qz K t0 by_).2 Ms := by
 have HG := Lib.hid (rF s.st r ht)
 have HC := Lib.hid (fun w1 (hb1 : Below w.heap.size w w1) => Qp (s.below hb1) r hm ht hb)
 have HS := Lib.hid s
 have hu : Qz K t0 by_ = if vZ (aI K t0) ≠ 0 then ((0, vZ (aI K t0)), K) else (sZ K t0 by_, vM K t0 by_) := rfl
 obtain ⟨x0, x1, x2, x3, x4, hV⟩ := Dt (aI K t0)
 rw [hV] at HG
 unfold Ci at HG
 generalize vZ (aI K t0) = er at *
 generalize Qz K t0 by_ = U at *
 have HU := Lib.hid hu
 clear s r ht hb hu hV
 by_cases he : er = 0
 ·obtain rfl : U = (sZ K t0 by_, vM K t0 by_) := by rw [HU.out, if_neg (by simpa using he)]
  subst he
  clear HU
  go_enter Tryz.func19, Tryz.ntmps19
  go_wp2_with fail
  refine HG.out.mono ?_
  rintro e w1 ⟨rfl, hb1⟩
  have HB := Lib.hid hb1
  clear hb1
  go_wp2_with fail
  refine (HC.out _ (HB.out.alloc HB.out.size _)).mono ?_
  rintro e w2 ⟨rfl, hs2⟩
  have HS2 := Lib.hid hs2
  clear hs2
  go_wp2_with fail
  go_ret2
  exact ⟨rfl, HS2.out⟩
 ·obtain rfl : U = ((0, er), K) := by rw [HU.out, if_pos he]
  have z0 : (er == 0) = false := by simpa using he
  clear HU he
  go_enter Tryz.func19, Tryz.ntmps19
  go_wp2_with fail
  refine HG.out.mono ?_
  rintro e w1 ⟨rfl, hb1⟩
  have HB := Lib.hid hb1
  clear hb1
  go_wp2_with fail
  go_ret2
  exact ⟨rfl, (HS.out.below (HB.out.alloc HB.out.size _)).mono (by omega)⟩
def Yk (K : KD) (t : Int) : Int × KD := if vZ (aI K t) ≠ 0 then (vZ (aI K t), K) else (rD K t, rE K t)
theorem Ae (s : eK w0 w g gd m N K Ms) (r : bU N K h c0) {t0 : Int} (ht : nK t0) :
  Calls Tryz.prog 20 #[.pointer (some ⟨g, 0, none⟩), .int .i64 t0] w fun e w' => e = .returned (.int .i64 (Yk K t0).1) /\ eK w0 w' g gd m N (Yk K t0).2 Ms := by
 have HG := Lib.hid (rF s.st r ht)
 have HC := Lib.hid (fun w1 (hb1 : Below w.heap.size w w1) => Qo (s.below hb1) r ht)
 have HS := Lib.hid s
 have hu : Yk K t0 = if vZ (aI K t0) ≠ 0 then (vZ (aI K t0), K) else (rD K t0, rE K t0) := rfl
 obtain ⟨x0, x1, x2, x3, x4, hV⟩ := Dt (aI K t0)
 rw [hV] at HG
 unfold Ci at HG
 generalize vZ (aI K t0) = er at *
 generalize Yk K t0 = U at *
 have HU := Lib.hid hu
 clear s r ht hu hV
 by_cases he : er = 0
 ·obtain rfl : U = (rD K t0, rE K t0) := by rw [HU.out, if_neg (by simpa using he)]
  subst he
  clear HU
  go_enter Tryz.func20, Tryz.ntmps20
  go_wp2_with fail
  refine HG.out.mono ?_
  rintro e w1 ⟨rfl, hb1⟩
  have HB := Lib.hid hb1
  clear hb1
  go_wp2_with fail
  refine (HC.out _ (HB.out.alloc HB.out.size _)).mono ?_
  rintro e w2 ⟨rfl, hs2⟩
  have HS2 := Lib.hid hs2
  clear hs2
  go_wp2_with fail
  go_ret
  exact ⟨rfl, HS2.out⟩
 ·obtain rfl : U = (er, K) := by rw [HU.out, if_pos he]
  have z0 : (er == 0) = false := by simpa using he
  clear HU he
  go_enter Tryz.func20, Tryz.ntmps20
  go_wp2_with fail
  refine HG.out.mono ?_
  rintro e w1 ⟨rfl, hb1⟩
  have HB := Lib.hid hb1
  clear hb1
  go_wp2_with fail
  go_ret
  exact ⟨rfl, HS.out.below (HB.out.alloc HB.out.size _)⟩
end
end Go.Proofs.YtingkbeifohihaaGreatDoor
