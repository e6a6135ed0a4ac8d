import PyProof.Rows.All
import Wide.All
import OpenK.AllK
import Wide.FinOn
import HandS.ForExc
import HandS.Comp
import HandS.Iter
import HandS.Codes
import HandS.Wide
import HandS.WideBits
import HandS.EndBits
import HandS.IsInst
import HandS.Defaults
import HandS.ExcInit
import HandS.Style
import HandS.TupAny
import HandS.Rev
import HandS.Conv
import PySem.Challenge.RW_floorward_k10_gaps_of_steps
set_option Elab.async false
set_option linter.all false
set_option maxRecDepth 100000
set_option maxHeartbeats 4000000
namespace Q
open PySem PySem.Spec PyProof.Rows L2
/-! ### heaps -/
/-- all that was tracked is as it was, but at a -/
def SameBut (a : Addr) (H H' : Hp) : Prop := ∀ b o, b ≠ a → H b = some o → H' b = some o
theorem SameBut.refl (a : Addr) (H : Hp) : SameBut a H H := fun _ _ _ h => h
theorem SameBut.trans {a : Addr} {H H1 H2 : Hp} (x : SameBut a H H1) (y : SameBut a H1 H2) : SameBut a H H2 := fun b o n h => y b o n (x b o n h)
theorem Same.but {a : Addr} {H H' : Hp} (x : Same H H') : SameBut a H H' := fun b o _ h => x b o h
theorem SameBut.seq {K : PySem.W.Frag} {a p : Addr} {H H' : Hp} {xs : List V} (x : SameBut a H H') (n : p ≠ a) (h : SqL K H p xs) : SqL K H' p xs := by
  rcases h with (h | ⟨o, h⟩) | h
  · exact .inl (.inl (x _ _ n h))
  · exact .inl (.inr ⟨o, x _ _ n h⟩)
  · exact .inr h
theorem SameBut.seqT {K : PySem.W.Frag} {a p : Addr} {H H' : Hp} {xs : List V} (x : SameBut a H H') (n : p ≠ a) (h : SqT K H p xs) : SqT K H' p xs := by
  rcases h with (h | ⟨o, h⟩) | h
  · exact .inl (.inl (x _ _ n h))
  · exact .inl (.inr ⟨o, x _ _ n h⟩)
  · exact .inr h
theorem Same.seqT {K : PySem.W.Frag} {p : Addr} {H H' : Hp} {xs : List V} (x : Same H H') (h : SqT K H p xs) : SqT K H' p xs := by
  rcases h with (h | ⟨o, h⟩) | h
  · exact .inl (.inl (x _ _ h))
  · exact .inl (.inr ⟨o, x _ _ h⟩)
  · exact .inr h
theorem same_new {H : Hp} {p : Addr} (h : H p = none) (o : HO) : Same H (upd H p o) := fun b u q => by rw [upd_ne (ne_of_none q h)]; exact q
theorem but_new {a : Addr} {H : Hp} {p : Addr} (h : H p = none) (o : HO) : SameBut a H (upd H p o) := Same.but (same_new h o)
theorem but_upd (H : Hp) (a : Addr) (o : HO) : SameBut a H (upd H a o) := fun b u n h => by rw [upd_ne n]; exact h
/-- behind what changes a alone: an address that was free stays apart from what was tracked -/
theorem SameBut.free {a p : Addr} {H H' : Hp} (x : SameBut a H H') (n : p ≠ a) (h : H' p = none) : H p = none := by
  cases q : H p with
  | none => rfl
  | some o =>
    have := x p o n q
    rw [h] at this
    cases this
/-! ### sizes -/
/-- i has at most b bits -/
def Sz (i : Int) (b : Nat) : Prop := i.natAbs < 2 ^ b
instance szDec (i : Int) (b : Nat) : Decidable (Sz i b) := inferInstanceAs (Decidable (i.natAbs < 2 ^ b))
theorem Sz.mono {i : Int} {a b : Nat} (h : Sz i a) (k : a ≤ b) : Sz i b := Nat.lt_of_lt_of_le h (Nat.pow_le_pow_right (by decide) k)
theorem Sz.mul {i j : Int} {a b : Nat} (h : Sz i a) (k : Sz j b) : Sz (i * j) (a + b) := wide_lt h k
theorem Sz.add {i j : Int} {a : Nat} (h : Sz i a) (k : Sz j a) : Sz (i + j) (a + 1) := by
  unfold Sz at *
  rw [Nat.pow_succ]
  omega
theorem Sz.sub {i j : Int} {a : Nat} (h : Sz i a) (k : Sz j a) : Sz (i - j) (a + 1) := by
  unfold Sz at *
  rw [Nat.pow_succ]
  omega
theorem Sz.neg {i : Int} {a : Nat} (h : Sz i a) : Sz (-i) a := by
  unfold Sz at *
  omega
theorem Sz.le {i j : Int} {a : Nat} (h : Sz j a) (h0 : 0 ≤ i) (k : i ≤ j) : Sz i a := by
  unfold Sz at *
  omega
theorem Sz.between {i lo hi : Int} {a : Nat} (h : Sz lo a) (k : Sz hi a) (h0 : lo ≤ i) (h1 : i ≤ hi) : Sz i a := by
  unfold Sz at *
  omega
theorem Sz.pow {i : Int} {a : Nat} (h : Sz i a) (ha : 0 < a) : ∀ k : Nat, Sz (i ^ k) (k * a + 1)
  | 0 => by unfold Sz; simp
  | k + 1 => by
    have ih := Sz.pow h ha k
    rw [Int.pow_succ]
    refine (Sz.mul ih h).mono ?_
    rw [Nat.succ_mul]
    omega
theorem Sz.w {i j : Int} {a b : Nat} (h : Sz i a) (k : Sz j b) (l : a + b ≤ 999998) : CMulW i j :=
  wide_mul (h.mono (Nat.le_succ a)) (k.mono (Nat.le_succ b)) (Nat.succ_pos _) (Nat.succ_pos _) (by omega)
theorem Sz.d {j : Int} {b : Nat} (i : Int) (h0 : 0 < j) (h : Sz j b) (l : b ≤ 8999) : CDivW i j := wide_div h0 (h.mono (Nat.le_succ b)) (Nat.succ_pos _) (by omega)
theorem small (n : Nat) (h : n ≤ 1000) : n ≤ sizeLine := Nat.le_of_lt (small1000 h)
/-! ### the law's stream: a list of three ints -/
def StrAt (H : Hp) (p : Addr) (c : Nat) : Prop := ∃ x y z : Int, H p = some (.lst [.int x, .int y, .int z]) ∧ 0 ≤ x ∧ 0 ≤ y ∧ y < 4294967296 ∧ 0 ≤ z ∧ z ≤ c
theorem StrAt.mono {H : Hp} {p : Addr} {c d : Nat} (h : StrAt H p c) (k : c ≤ d) : StrAt H p d := by
  obtain ⟨x, y, z, h1, h2, h3, h4, h5, h6⟩ := h
  exact ⟨x, y, z, h1, h2, h3, h4, h5, by omega⟩
theorem StrAt.same {H H' : Hp} {p : Addr} {c : Nat} (h : StrAt H p c) (k : Same H H') : StrAt H' p c := by
  obtain ⟨x, y, z, h1, h2⟩ := h
  exact ⟨x, y, z, k _ _ h1, h2⟩
theorem StrAt.but {H H' : Hp} {p a : Addr} {c : Nat} (h : StrAt H p c) (k : SameBut a H H') (n : p ≠ a) : StrAt H' p c := by
  obtain ⟨x, y, z, h1, h2⟩ := h
  exact ⟨x, y, z, k _ _ n h1, h2⟩
theorem StrAt.ne {H : Hp} {p q : Addr} {c : Nat} (h : StrAt H p c) (k : H q = none) : q ≠ p := by
  obtain ⟨x, y, z, h1, _⟩ := h
  exact fun e => by rw [e, h1] at k; cases k
/-! ### the promises of the law's own small defs -/
def spStream (K : PySem.W.Frag) : Sp := fun vs H Q _ => ∃ (a : Addr) (ns : List Int) (k : Nat), vs = [.ref a, .int k] ∧ SqL K H a (ns.map V.int) ∧ ns.length ≤ 63 ∧ k ≤ 1000 ∧
  ∀ (p : Addr) (H' : Hp), H p = none → Same H H' → StrAt H' p 0 → Q (.ref p) H'
def spDraw : Sp := fun vs H Q _ => ∃ (a : Addr) (c : Nat) (m : Int) (b : Nat), vs = [.ref a, .int m] ∧ StrAt H a c ∧ c ≤ 100000 ∧ 0 < m ∧ Sz m b ∧ b ≤ 8999 ∧
  ∀ (r : Int) (H' : Hp), 0 ≤ r → r < m → SameBut a H H' → StrAt H' a (c + 1) → Q (.int r) H'
def spPick (K : PySem.W.Frag) : Sp := fun vs H Q _ => ∃ (a : Addr) (c : Nat) (p : Addr) (xs : List V), vs = [.ref a, .ref p] ∧ StrAt H a c ∧ c ≤ 100000 ∧ p ≠ a ∧ SqL K H p xs ∧ xs ≠ [] ∧ xs.length ≤ 1000 ∧
  ∀ (v : V) (H' : Hp), v ∈ xs → SameBut a H H' → StrAt H' a (c + 1) → Q v H'
def spLPow : Sp := fun vs H Q _ => ∃ (x e : Int) (b : Nat), vs = [.int x, .int e] ∧ 0 ≤ e ∧ Sz x b ∧ 0 < b ∧ (e.toNat + 1) * b + 1 ≤ 999000 ∧ e < 1000 ∧ Q (.int (x ^ e.toNat)) H
/-- the two ways of a choice meet -/
theorem if_join {b : Bool} {ta tb : TE} {σ : L2.St} {H : Hp} {Q : VK} (v : V) (hq : Q v H) (h1 : b = true → ∀ Q : VK, Q v H → ta σ H Q) (h2 : b = false → ∀ Q : VK, Q v H → tb σ H Q) : if b = true then ta σ H Q else tb σ H Q := by
  cases b with
  | true => exact iteT (h1 rfl Q hq)
  | false => exact iteF (h2 rfl Q hq)
/-! ### weights -/
def crow (k a : Int) (j : Nat) : List (Int × Int) := ((([1, 2, 3] : List Int).take j).filter fun c => decide (c * (k - 1) ≤ a) && decide (a + c ≤ 6)).map fun c => (a, c)
def wrow (k a : Int) : List (Int × Int) := (([1, 2, 3] : List Int).filter fun c => decide (c * (k - 1) ≤ a) && decide (a + c ≤ 6)).map fun c => (a, c)
theorem crow_succ {k a z : Int} {j : Nat} (hz : ([1, 2, 3] : List Int)[j]? = some z) : crow k a (j + 1) = crow k a j ++ (if (decide (z * (k - 1) ≤ a) && decide (a + z ≤ 6)) = true then [(a, z)] else []) := by
  unfold crow
  rw [List.take_succ, hz, List.filter_append, List.map_append]
  congr 1
  show List.map _ (List.filter _ [z]) = _
  rw [List.filter_cons]
  split <;> rfl
def wtsTo (k : Int) : Nat → List (Int × Int)
  | 0 => []
  | i + 1 => wtsTo k i ++ wrow k (1 + i)
def wts (k : Int) : List (Int × Int) := wtsTo k 5
theorem wrow_len (k a : Int) : (wrow k a).length ≤ 3 := by
  unfold wrow
  rw [List.length_map]
  exact Nat.le_trans (List.length_filter_le _ _) (by decide)
theorem wtsTo_len (k : Int) : ∀ i, (wtsTo k i).length ≤ 3 * i
  | 0 => Nat.le_refl 0
  | i + 1 => by
    have h1 := wtsTo_len k i
    have h2 := wrow_len k (1 + i)
    unfold wtsTo
    rw [List.length_append]
    omega
theorem wrow_mem {k a : Int} {p : Int × Int} (h : p ∈ wrow k a) : p.1 = a ∧ 1 ≤ p.2 ∧ p.2 ≤ 3 ∧ p.2 * (k - 1) ≤ a ∧ a + p.2 ≤ 6 := by
  unfold wrow at h
  obtain ⟨c, hc, rfl⟩ := List.mem_map.mp h
  obtain ⟨h1, h2⟩ := List.mem_filter.mp hc
  rw [Bool.and_eq_true, decide_eq_true_eq, decide_eq_true_eq] at h2
  have h3 : 1 ≤ c ∧ c ≤ 3 := by
    simp only [List.mem_cons, List.not_mem_nil, or_false] at h1
    omega
  exact ⟨rfl, h3.1, h3.2, h2.1, h2.2⟩
theorem wtsTo_mem {k : Int} {p : Int × Int} : ∀ {i : Nat}, p ∈ wtsTo k i → 1 ≤ p.1 ∧ p.1 ≤ i ∧ 1 ≤ p.2 ∧ p.2 ≤ 3 ∧ p.2 * (k - 1) ≤ p.1 ∧ p.1 + p.2 ≤ 6
  | 0, h => by cases h
  | i + 1, h => by
    unfold wtsTo at h
    rcases List.mem_append.mp h with h | h
    · obtain ⟨h1, h2, h3⟩ := wtsTo_mem h
      exact ⟨h1, by omega, h3⟩
    · obtain ⟨h1, h2, h3, h4, h5⟩ := wrow_mem h
      refine ⟨by omega, by omega, h2, h3, by rw [h1]; exact h4, by omega⟩
theorem wts_mem {k : Int} {p : Int × Int} (h : p ∈ wts k) : 1 ≤ p.1 ∧ p.1 ≤ 5 ∧ 1 ≤ p.2 ∧ p.2 ≤ 3 ∧ p.2 * (k - 1) ≤ p.1 ∧ p.1 + p.2 ≤ 6 := wtsTo_mem h
theorem wts_ne {k : Int} (h0 : 2 ≤ k) (h1 : k ≤ 4) : wts k ≠ [] := by
  have : k = 2 ∨ k = 3 ∨ k = 4 := by omega
  rcases this with rfl | rfl | rfl <;> decide
theorem int_at {ns : List Int} {j : Nat} {x : V} (h : (ns.map V.int)[j]? = some x) : ∃ z, ns[j]? = some z ∧ x = V.int z := by
  rw [List.getElem?_map] at h
  cases e : ns[j]? with
  | none =>
    rw [e] at h
    cases h
  | some z =>
    rw [e] at h
    exact ⟨z, rfl, (Option.some.inj h).symm⟩
/-- a list's items are the tuples of these pairs -/
def Prs (H : Hp) (vs : List V) (ps : List (Int × Int)) : Prop := Paired (fun (v : V) (p : Int × Int) => ∃ r : Addr, v = .ref r ∧ H r = some (.tup [.int p.1, .int p.2])) vs ps
theorem Prs.mono {H H' : Hp} {vs : List V} {ps : List (Int × Int)} (h : Prs H vs ps) (k : ∀ b xs, H b = some (.tup xs) → H' b = some (.tup xs)) : Prs H' vs ps := Paired.mapP h fun v p ⟨r, e, q⟩ => ⟨r, e, k _ _ q⟩
theorem Prs.app {H : Hp} : ∀ {vs ws : List V} {ps qs : List (Int × Int)}, Prs H vs ps → Prs H ws qs → Prs H (vs ++ ws) (ps ++ qs)
  | _, _, _, _, .nil, s => s
  | _, _, _, _, .cons r t, s => .cons r (Prs.app t s)
theorem Prs.mem {H : Hp} : ∀ {vs : List V} {ps : List (Int × Int)} {v : V}, Prs H vs ps → v ∈ vs → ∃ p ∈ ps, ∃ r : Addr, v = .ref r ∧ H r = some (.tup [.int p.1, .int p.2])
  | _, _, v, .nil, h => by cases h
  | _, _, v, .cons (a := a) (b := b) r t, h => by
    rcases List.mem_cons.mp h with rfl | h
    · exact ⟨_, List.mem_cons_self .., r⟩
    · obtain ⟨p, hp, q⟩ := Prs.mem t h
      exact ⟨p, List.mem_cons_of_mem _ hp, q⟩
def spWts : Sp := fun vs H Q _ => ∃ k : Int, vs = [.int k] ∧ 2 ≤ k ∧ k ≤ 4 ∧ ∀ (p : Addr) (acc : List V) (H' : Hp), H p = none → Same H H' → H' p = some (.lst acc) → Prs H' acc (wts k) → Q (.ref p) H'
/-! ### an average loop's parts -/
def stops : List Str := ["notless", "equal", "near1", "near2", "back", "under", "held"]
def looks : List Str := ["under", "held"]
def tellings : List Str := ["old", "new", "less", "more"]
def mendings : List Str := ["none", "down", "up", "both"]
structure Parts where
  k : Int
  a : Int
  c : Int
  d : Int
  stop : Str
  told : Str
  mend : Str
structure Parts.Ok (p : Parts) : Prop where
  k2 : 2 ≤ p.k
  k4 : p.k ≤ 4
  a1 : 1 ≤ p.a
  c1 : 1 ≤ p.c
  ca : p.c * (p.k - 1) ≤ p.a
  m6 : p.a + p.c ≤ 6
  d0 : -p.a ≤ p.d
  d1 : p.d ≤ p.a + p.c
  st : p.stop ∈ stops
  te : p.told ∈ tellings
  lo : p.stop ∈ looks → p.told = "old"
  me : p.mend ∈ mendings
def Parts.vs (p : Parts) : List V := [.int p.k, .int p.a, .int p.c, .int p.d, .str p.stop, .str p.told, .str p.mend]
def spParts : Sp := fun vs H Q _ => ∃ (a : Addr) (c : Nat), vs = [.ref a] ∧ StrAt H a c ∧ c ≤ 90000 ∧ ∀ (p : Addr) (H' : Hp) (L : Parts), H p = none → SameBut a H H' → StrAt H' a (c + 10) → H' p = some (.tup L.vs) → L.Ok → Q (.ref p) H'
theorem inV_str (s : Str) (l : List Str) : inV (.str s) (l.map V.str) = decide (s ∈ l) := by
  unfold inV
  rw [List.any_map]
  induction l with
  | nil => rfl
  | cons x l ih =>
    rw [List.any_cons, ih]
    show ((x == s) || decide (s ∈ l)) = decide (s ∈ x :: l)
    by_cases h : x = s
    · subst h
      simp
    · have h1 : (x == s) = false := by simpa using h
      have h2 : ¬ s = x := fun e => h e.symm
      rw [h1, Bool.false_or]
      simp [h2]
/-- two-argument max and min of ints, as the rules tell them -/
theorem max2 (i j : Int) : (if j > i then j else i) = max i j := by omega
theorem min2 (i j : Int) : (if j < i then j else i) = min i j := by omega
/-! ### is it an integer -/
/-- the value is an int that is no bool (b), or it is none -/
def IsI (K : PySem.W.Frag) (H : Hp) (x : V) (b : Bool) : Prop := ∃ (t : Value) (b1 b2 : Bool), TyX K H x t ∧ PySem.W.kitOne K t (.type "int") = some b1 ∧ PySem.W.kitOne K t (.type "bool") = some b2 ∧ b = (b1 && !b2)
theorem isI_int (K : PySem.W.Frag) (H : Hp) (i : Int) : IsI K H (.int i) true := ⟨_, true, false, .base (.int i), kit_ty (by decide +kernel), kit_ty (by decide +kernel), rfl⟩
theorem isI_bl (K : PySem.W.Frag) (H : Hp) (x : Bool) : IsI K H (.bl x) false := ⟨_, true, true, .base (.bl x), kit_ty (by decide +kernel), kit_ty (by decide +kernel), rfl⟩
theorem isI_non (K : PySem.W.Frag) (H : Hp) : IsI K H .non false := ⟨_, false, false, .base .non, kit_ty (by decide +kernel), kit_ty (by decide +kernel), rfl⟩
theorem isI_str (K : PySem.W.Frag) (H : Hp) (x : Str) : IsI K H (.str x) false := ⟨_, false, false, .base (.str x), kit_ty (by decide +kernel), kit_ty (by decide +kernel), rfl⟩
theorem isI_lst (K : PySem.W.Frag) {H : Hp} {a : Addr} {xs : List V} (h : H a = some (.lst xs)) : IsI K H (.ref a) false := ⟨_, false, false, .base (.lst h), kit_ty (by decide +kernel), kit_ty (by decide +kernel), rfl⟩
theorem isI_tup (K : PySem.W.Frag) {H : Hp} {a : Addr} {xs : List V} (h : H a = some (.tup xs)) : IsI K H (.ref a) false := ⟨_, false, false, .base (.tup h), kit_ty (by decide +kernel), kit_ty (by decide +kernel), rfl⟩
def spIsInt (K : PySem.W.Frag) : Sp := fun vs H Q _ => ∃ (x : V) (b : Bool), vs = [x] ∧ IsI K H x b ∧ Q (.bl b) H
def spIsFrom (K : PySem.W.Frag) : Sp := fun vs H Q _ => ∃ (x : V) (l : Int), vs = [x, .int l] ∧ ((∃ i, x = .int i ∧ Q (.bl (decide (l ≤ i))) H) ∨ (IsI K H x false ∧ Q (.bl false) H))
def spIsWithin (K : PySem.W.Frag) : Sp := fun vs H Q _ => ∃ (x : V) (l m : Int), vs = [x, .int l, .int m] ∧ ((∃ i, x = .int i ∧ Q (.bl (decide (l ≤ i) && decide (i ≤ m))) H) ∨ (IsI K H x false ∧ Q (.bl false) H))
def spIsLP (K : PySem.W.Frag) : Sp := fun vs H Q _ => ∃ (x : V), vs = [x] ∧ ((∃ i, x = .int i ∧ Q (.bl (decide (2 ≤ i) && decide (i ≤ 4))) H) ∨ (IsI K H x false ∧ Q (.bl false) H))
def spGreatC : Sp := fun vs H Q _ => ∃ (k a : Int), vs = [.int k, .int a] ∧ 2 ≤ k ∧ k ≤ 4 ∧ 1 ≤ a ∧ a ≤ 5 ∧ Q (.int (if 6 - a < a / (k - 1) then 6 - a else a / (k - 1))) H
def spReqNum : Sp := fun vs H Q _ => ∃ n : Int, vs = [.int n] ∧ 0 ≤ n ∧ Q .non H
def spReqStart : Sp := fun vs H Q _ => ∃ n : Int, vs = [.int n] ∧ 1 ≤ n ∧ Q .non H
def spPow (n : Nat) : Sp := fun vs H Q _ => ∃ (x e : Int) (b : Nat), vs = [.int x, .int e] ∧ 0 ≤ e ∧ e.toNat < n ∧ Sz x b ∧ 0 < b ∧ (e.toNat + 1) * b + 1 ≤ 499000 ∧ e ≤ 1000 ∧ Q (.int (x ^ e.toNat)) H
def spIsWord (K : PySem.W.Frag) : Sp := fun vs H Q _ => ∃ (x : V) (p : Addr) (l : List Str), vs = [x, .ref p] ∧ SqT K H p (l.map V.str) ∧
  ((∃ s, x = .str s ∧ Q (.bl (decide (s ∈ l))) H) ∨ ((∃ t, TyX K H x t ∧ PySem.W.kitOne K t (.type "str") = some false) ∧ Q (.bl false) H))
def tellingsOf (stop : Str) : List Str := if stop ∈ looks then ["old"] else tellings
def spTellings (K : PySem.W.Frag) : Sp := fun vs H Q _ => ∃ stop : Str, vs = [.str stop] ∧ ∀ (p : Addr) (H' : Hp), Same H H' → SqT K H' p ((tellingsOf stop).map V.str) → Q (.ref p) H'
def spWrongOk : Sp := fun vs H Q _ => ∃ L : Parts, vs = L.vs ∧ L.Ok ∧ ∀ H' : Hp, Same H H' → Q .non H'
theorem Parts.Ok.told_ok {L : Parts} (h : L.Ok) : L.told ∈ tellingsOf L.stop := by
  unfold tellingsOf
  split
  · rename_i c
    rw [h.lo c]
    decide
  · exact h.te
/-! ### the loop as an object -/
structure AvgTxt (K : PySem.W.Frag) (C : Addr) : Prop where
  cl : Cls K C
  nk : NoAttr K C "k"
  na : NoAttr K C "a"
  nc : NoAttr K C "c"
  nd : NoAttr K C "d"
  ns : NoAttr K C "stop"
  nt : NoAttr K C "told"
  nm : NoAttr K C "mend"
def avgF (L : Parts) : List (Str × V) :=
  putF "mend" (.str L.mend) (putF "told" (.str L.told) (putF "stop" (.str L.stop) (putF "d" (.int L.d) (putF "c" (.int L.c) (putF "a" (.int L.a) (putF "k" (.int L.k) []))))))
theorem putF_len (f : Str) (v : V) : ∀ fs : List (Str × V), (putF f v fs).length ≤ fs.length + 1
  | [] => Nat.le_refl 1
  | (g, x) :: r => by
    show (if g = f then (g, v) :: r else (g, x) :: putF f v r).length ≤ r.length + 1 + 1
    split
    · exact Nat.le_succ _
    · exact Nat.succ_le_succ (putF_len f v r)
theorem avgF_no (L : Parts) {m : Str} (h1 : ¬ m = "mend") (h2 : ¬ m = "told") (h3 : ¬ m = "stop") (h4 : ¬ m = "d") (h5 : ¬ m = "c") (h6 : ¬ m = "a") (h7 : ¬ m = "k") : (avgF L).lookup m = none := by
  unfold avgF
  rw [lookup_putF, if_neg h1, lookup_putF, if_neg h2, lookup_putF, if_neg h3, lookup_putF, if_neg h4, lookup_putF, if_neg h5, lookup_putF, if_neg h6, lookup_putF, if_neg h7]
  rfl
theorem avgF_k (L : Parts) : (avgF L).lookup ("k" : Str) = some (.int L.k) := by
  unfold avgF
  rw [lookup_putF, if_neg (by decide +kernel), lookup_putF, if_neg (by decide +kernel), lookup_putF, if_neg (by decide +kernel), lookup_putF, if_neg (by decide +kernel), lookup_putF, if_neg (by decide +kernel), lookup_putF, if_neg (by decide +kernel), lookup_putF, if_pos rfl]
theorem avgF_a (L : Parts) : (avgF L).lookup ("a" : Str) = some (.int L.a) := by
  unfold avgF
  rw [lookup_putF, if_neg (by decide +kernel), lookup_putF, if_neg (by decide +kernel), lookup_putF, if_neg (by decide +kernel), lookup_putF, if_neg (by decide +kernel), lookup_putF, if_neg (by decide +kernel), lookup_putF, if_pos rfl]
theorem avgF_c (L : Parts) : (avgF L).lookup ("c" : Str) = some (.int L.c) := by
  unfold avgF
  rw [lookup_putF, if_neg (by decide +kernel), lookup_putF, if_neg (by decide +kernel), lookup_putF, if_neg (by decide +kernel), lookup_putF, if_neg (by decide +kernel), lookup_putF, if_pos rfl]
theorem avgF_d (L : Parts) : (avgF L).lookup ("d" : Str) = some (.int L.d) := by
  unfold avgF
  rw [lookup_putF, if_neg (by decide +kernel), lookup_putF, if_neg (by decide +kernel), lookup_putF, if_neg (by decide +kernel), lookup_putF, if_pos rfl]
theorem avgF_stop (L : Parts) : (avgF L).lookup ("stop" : Str) = some (.str L.stop) := by
  unfold avgF
  rw [lookup_putF, if_neg (by decide +kernel), lookup_putF, if_neg (by decide +kernel), lookup_putF, if_pos rfl]
theorem avgF_told (L : Parts) : (avgF L).lookup ("told" : Str) = some (.str L.told) := by
  unfold avgF
  rw [lookup_putF, if_neg (by decide +kernel), lookup_putF, if_pos rfl]
theorem avgF_mend (L : Parts) : (avgF L).lookup ("mend" : Str) = some (.str L.mend) := by
  unfold avgF
  rw [lookup_putF, if_pos rfl]
def AvgAt (C : Addr) (H : Hp) (p : Addr) (L : Parts) : Prop := ∃ dx : Addr, H p = some (.ins C dx (avgF L))
def spAvgInit (C : Addr) : Sp := fun vs H Q _ => ∃ (x dx : Addr) (L : Parts), vs = .ref x :: L.vs ∧ L.Ok ∧ H x = some (.ins C dx []) ∧ ∀ H', AvgAt C H' x L → SameBut x H H' → Q .non H'
def stepZ (L : Parts) (n x : Int) : Int := (L.a * x + L.c * (n / x ^ (L.k - 1).toNat) + L.d) / (L.a + L.c)
def spNext (C : Addr) : Sp := fun vs H Q _ => ∃ (p : Addr) (L : Parts) (n x : Int) (b : Nat), vs = [.ref p, .int n, .int x] ∧ AvgAt C H p L ∧ L.Ok ∧ 0 ≤ n ∧ 1 ≤ x ∧ Sz x b ∧ 0 < b ∧ b ≤ 2000 ∧ Q (.int (stepZ L n x)) H
theorem Same.keep {H H1 H2 : Hp} {a : Addr} (s : Same H H1) (n : H a = none) (b : SameBut a H1 H2) : Same H H2 := fun c o e => b c o (ne_of_none e n) (s c o e)
theorem Sz.ub {i : Int} {b : Nat} (h : Sz i b) : i < 2 ^ b := by
  have e : ((2 ^ b : Nat) : Int) = (2 : Int) ^ b := by rw [Int.natCast_pow] <;> rfl
  unfold Sz at h
  omega
theorem Sz.lb {i : Int} {b : Nat} (h : Sz i b) : -(2 ^ b) < i := by
  have e : ((2 ^ b : Nat) : Int) = (2 : Int) ^ b := by rw [Int.natCast_pow] <;> rfl
  unfold Sz at h
  omega
theorem Sz.mk {i : Int} {b : Nat} (h : -(2 ^ b) < i) (k : i < 2 ^ b) : Sz i b := by
  have e : ((2 ^ b : Nat) : Int) = (2 : Int) ^ b := by rw [Int.natCast_pow] <;> rfl
  unfold Sz
  omega
def spLaw (K : PySem.W.Frag) : Sp := fun vs H Q _ => ∃ (a : Addr) (ns : List Int), vs = [.ref a] ∧ SqL K H a (ns.map V.int) ∧ ns.length ≤ 63 ∧ ∀ H', Q (.bl true) H'
/-- a new object and its __init__ -/
theorem made_same {H H3 : Hp} {x dx C : Addr} (nx : H x = none) (nd : H dx = none) (b : SameBut x (upd (upd H dx (.own x)) x (.ins C dx [])) H3) : Same H H3 := fun c o e =>
  b c o (ne_of_none e nx) (by rw [upd_ne (ne_of_none e nx), upd_ne (ne_of_none e nd)]; exact e)
/-! ### gaps (law k10) -/
theorem pw2 (x : Int) : x ^ (2 : Int).toNat = x * x := by
  show x ^ 2 = x * x
  rw [Int.pow_succ, Int.pow_succ, Int.pow_zero, Int.one_mul]
theorem pw1 (x : Int) : x ^ (1 : Int).toNat = x := by
  show x ^ 1 = x
  rw [Int.pow_succ, Int.pow_zero, Int.one_mul]
theorem pw3 (x : Int) : x ^ (3 : Int).toNat = x * x * x := by
  show x ^ 3 = x * x * x
  rw [Int.pow_succ, Int.pow_succ, Int.pow_succ, Int.pow_zero, Int.one_mul]
theorem pw4 (x : Int) : x ^ (4 : Int).toNat = x * x * x * x := by
  show x ^ 4 = x * x * x * x
  rw [Int.pow_succ, Int.pow_succ, Int.pow_succ, Int.pow_succ, Int.pow_zero, Int.one_mul]
/-- the quotient is never below what makes q nought -/
theorem amgm {k r i : Int} (hk : k = 2 ∨ k = 3 ∨ k = 4) (hr : 1 ≤ r) (hx : 1 ≤ r + i) : (r - (k - 1) * i) * (r + i) ^ (k - 1).toNat ≤ r ^ k.toNat := by
  have sq : 0 ≤ i * i := by
    rcases Int.le_total 0 i with h | h
    · exact Int.mul_nonneg h h
    · exact Int.mul_nonneg_of_nonpos_of_nonpos h h
  rcases hk with rfl | rfl | rfl
  · show (r - (2 - 1) * i) * (r + i) ^ (1 : Int).toNat ≤ r ^ (2 : Int).toNat
    rw [pw1, pw2]
    have e : r * r - (r - (2 - 1) * i) * (r + i) = i * i := by grind
    omega
  · show (r - (3 - 1) * i) * (r + i) ^ (2 : Int).toNat ≤ r ^ (3 : Int).toNat
    rw [pw2, pw3]
    have e : r * r * r - (r - (3 - 1) * i) * ((r + i) * (r + i)) = i * i * (r + 2 * (r + i)) := by grind
    have h : 0 ≤ i * i * (r + 2 * (r + i)) := Int.mul_nonneg sq (by omega)
    omega
  · show (r - (4 - 1) * i) * (r + i) ^ (3 : Int).toNat ≤ r ^ (4 : Int).toNat
    rw [pw3, pw4]
    have e : r * r * r * r - (r - (4 - 1) * i) * ((r + i) * (r + i) * (r + i)) = i * i * (6 * (r * r) + 8 * (r * i) + 3 * (i * i)) := by grind
    have sq2 : 0 ≤ (3 * r + 2 * i) * (3 * r + 2 * i) := by
      rcases Int.le_total 0 (3 * r + 2 * i) with h | h
      · exact Int.mul_nonneg h h
      · exact Int.mul_nonneg_of_nonpos_of_nonpos h h
    have e2 : 3 * (6 * (r * r) + 8 * (r * i) + 3 * (i * i)) = 2 * ((3 * r + 2 * i) * (3 * r + 2 * i)) + i * i := by grind
    have h : 0 ≤ i * i * (6 * (r * r) + 8 * (r * i) + 3 * (i * i)) := Int.mul_nonneg sq (by omega)
    omega
def nearZ (k r i j : Int) : Int := (r + i) ^ (k - 1).toNat * (r - (k - 1) * i + j) - r ^ k.toNat
def quoZ (k r i n : Int) : Int := n / (r + i) ^ (k - 1).toNat - r + (k - 1) * i
theorem quo_iff {k r i j s : Int} (hx : 1 ≤ r + i) : j ≤ quoZ k r i (r ^ k.toNat + s) ↔ nearZ k r i j ≤ s := by
  have hp : 0 < (r + i) ^ (k - 1).toNat := Int.pow_pos (by omega)
  unfold quoZ nearZ
  have h := Int.le_ediv_iff_mul_le (a := r - (k - 1) * i + j) (b := r ^ k.toNat + s) hp
  rw [Int.mul_comm (r - (k - 1) * i + j)] at h
  omega
theorem quo_nn {k r i s : Int} (hk : k = 2 ∨ k = 3 ∨ k = 4) (hr : 1 ≤ r) (hx : 1 ≤ r + i) (hs : 0 ≤ s) : 0 ≤ quoZ k r i (r ^ k.toNat + s) := by
  rw [quo_iff hx]
  have h := amgm hk hr hx
  unfold nearZ
  rw [Int.add_zero, Int.mul_comm]
  omega
theorem step_gap {a c d k r i n : Int} (hm : 0 < a + c) : (a * (r + i) + c * (n / (r + i) ^ (k - 1).toNat) + d) / (a + c) = r + ((a - c * (k - 1)) * i + c * quoZ k r i n + d) / (a + c) := by
  unfold quoZ
  generalize n / (r + i) ^ (k - 1).toNat = q
  have e : a * (r + i) + c * q + d = (a - c * (k - 1)) * i + c * (q - r + (k - 1) * i) + d + (a + c) * r := by grind
  rw [e, Int.add_mul_ediv_left _ _ (by omega)]
  omega
def spTurn : Sp := fun vs H Q _ => ∃ (k r i j : Int) (b : Nat), vs = [.int k, .int r, .int i, .int j] ∧ 2 ≤ k ∧ k ≤ 4 ∧ Sz (r + i) b ∧ Sz r b ∧ Sz (r - (k - 1) * i + j) b ∧ 0 < b ∧ b ≤ 1000 ∧ Q (.int (nearZ k r i j)) H
theorem pow_lt_succ {r : Int} {k : Nat} (hr : 0 ≤ r) (hk : 1 ≤ k) : r ^ k < (r + 1) ^ k := by
  induction k with
  | zero => omega
  | succ k ih =>
    rw [Int.pow_succ, Int.pow_succ]
    by_cases h : k = 0
    · subst h
      rw [Int.pow_zero, Int.pow_zero]
      omega
    · have h1 := ih (by omega)
      have h0 : 0 ≤ r ^ k := Int.pow_nonneg hr
      have h2 : r ^ k * r ≤ (r + 1) ^ k * r := Int.mul_le_mul_of_nonneg_right (by omega) hr
      have h3 : (r + 1) ^ k * (r + 1) = (r + 1) ^ k * r + (r + 1) ^ k := by rw [Int.mul_add, Int.mul_one]
      omega
theorem AvgAt.but {C : Addr} {H H' : Hp} {p a : Addr} {L : Parts} (h : AvgAt C H p L) (b : SameBut a H H') (n : p ≠ a) : AvgAt C H' p L := by
  obtain ⟨dx, e⟩ := h
  exact ⟨dx, b _ _ n e⟩
theorem AvgAt.same {C : Addr} {H H' : Hp} {p : Addr} {L : Parts} (h : AvgAt C H p L) (b : Same H H') : AvgAt C H' p L := by
  obtain ⟨dx, e⟩ := h
  exact ⟨dx, b _ _ e⟩
/-- every parameter is given, defaults stand in the tuple at T -/
theorem binds_full {K : PySem.W.Frag} {fd : FuncData} {ps : List Str} {T : Addr} {o : Obj} {its : Array Value} {m : Nat} (lT : K.lookup T = some o) (oT : o.data = .seq its m)
    (h : ∀ us : List Value, us.length = ps.length → ∃ k, bindArgs fd ⟨us, []⟩ = seqItems? (.ref T) >>= k ∧ k (some its) = pure (ps.zip us)) : Binds K fd ps [] := fun s us X hl => by
  rw [List.append_nil] at hl ⊢
  obtain ⟨k, e1, e2⟩ := h us hl
  refine BindsTo.of_looks fun M => ?_
  rw [e1]
  exact looks_items X lT oT (.of_pure e2)
theorem room64 {k : Nat} {A : Around} (r : Room k A) : A.units + 64 < cLine := by
  have := r.un
  omega
/-- go on with any heap of which this is known -/
theorem swap {Φ : Hp → Prop} {H : Hp} (P : Hp → Prop) (h : P H) (q : ∀ G, P G → Φ G) : Φ H := q H h
end Q

set_option Elab.async false
set_option linter.all false
set_option maxRecDepth 100000
set_option maxHeartbeats 4000000
namespace Q
open PySem PySem.Spec PyProof.Rows L2
def top (i : Nat) : Stmt := PySem.Challenge.pw_floorward_k10_gaps_of_steps.main.body.getD i (.Pass ⟨0, 0, 0, 0⟩)
/-! _law_stream: 0:_law_script 1:_law_k 2:_law_cell -/
abbrev s_Lstream : Stmt := top 28
theorem sc_Lstream : FnScope ["_law_script", "_law_k", "_law_cell"] ["_law_script", "_law_k"] (C8.fnScope s_Lstream) := C8.fnScope_by (by decide +kernel)
/-! _law_draw: 0:_law_stream_here 1:_law_many 2:_law_digit 3:_law_spread -/
abbrev s_Ldraw : Stmt := top 29
theorem sc_Ldraw : FnScope ["_law_stream_here", "_law_many", "_law_digit", "_law_spread"] ["_law_stream_here", "_law_many"] (C8.fnScope s_Ldraw) := C8.fnScope_by (by decide +kernel)
/-! _law_pick: 0:_law_stream_here 1:_law_things -/
abbrev s_Lpick : Stmt := top 30
theorem sc_Lpick : FnScope ["_law_stream_here", "_law_things"] ["_law_stream_here", "_law_things"] (C8.fnScope s_Lpick) := C8.fnScope_by (by decide +kernel)
/-! _law_power: 0:_law_x 1:_law_k 2:_law_found 3:_law_turn_here -/
abbrev s_Lpower : Stmt := top 31
theorem sc_Lpower : FnScope ["_law_x", "_law_k", "_law_found", "_law_turn_here"] ["_law_x", "_law_k"] (C8.fnScope s_Lpower) := C8.fnScope_by (by decide +kernel)
/-! _law_weights: 0:_law_k 1:_law_found 2:_law_a 3:_law_c -/
abbrev s_Lweights : Stmt := top 32
theorem sc_Lweights : FnScope ["_law_k", "_law_found", "_law_a", "_law_c"] ["_law_k"] (C8.fnScope s_Lweights) := C8.fnScope_by (by decide +kernel)
/-! _law_parts: 0:_law_stream_here 1:_law_k 2:_law_a 3:_law_c 4:_law_d 5:_law_stop 6:_law_told 7:_law_mend -/
abbrev s_Lparts : Stmt := top 33
theorem sc_Lparts : FnScope ["_law_stream_here", "_law_k", "_law_a", "_law_c", "_law_d", "_law_stop", "_law_told", "_law_mend"] ["_law_stream_here"] (C8.fnScope s_Lparts) := C8.fnScope_by (by decide +kernel)
/-! is_int: 0:value -/
abbrev s_is_int : Stmt := top 7
theorem sc_is_int : FnScope ["value"] ["value"] (C8.fnScope s_is_int) := C8.fnScope_by (by decide +kernel)
/-! is_from: 0:value 1:least -/
abbrev s_is_from : Stmt := top 8
theorem sc_is_from : FnScope ["value", "least"] ["value", "least"] (C8.fnScope s_is_from) := C8.fnScope_by (by decide +kernel)
/-! is_within: 0:value 1:least 2:greatest -/
abbrev s_is_within : Stmt := top 9
theorem sc_is_within : FnScope ["value", "least", "greatest"] ["value", "least", "greatest"] (C8.fnScope s_is_within) := C8.fnScope_by (by decide +kernel)
/-! require_number: 0:n -/
abbrev s_require_number : Stmt := top 10
theorem sc_require_number : FnScope ["n"] ["n"] (C8.fnScope s_require_number) := C8.fnScope_by (by decide +kernel)
/-! require_start: 0:start -/
abbrev s_require_start : Stmt := top 24
theorem sc_require_start : FnScope ["start"] ["start"] (C8.fnScope s_require_start) := C8.fnScope_by (by decide +kernel)
/-! is_word: 0:value 1:words -/
abbrev s_is_word : Stmt := top 13
theorem sc_is_word : FnScope ["value", "words"] ["value", "words"] (C8.fnScope s_is_word) := C8.fnScope_by (by decide +kernel)
/-! possible_tellings: 0:stop -/
abbrev s_possible_tellings : Stmt := top 22
theorem sc_possible_tellings : FnScope ["stop"] ["stop"] (C8.fnScope s_possible_tellings) := C8.fnScope_by (by decide +kernel)
/-! is_loop_power: 0:k -/
abbrev s_is_loop_power : Stmt := top 20
theorem sc_is_loop_power : FnScope ["k"] ["k"] (C8.fnScope s_is_loop_power) := C8.fnScope_by (by decide +kernel)
/-! greatest_c: 0:k 1:a -/
abbrev s_greatest_c : Stmt := top 21
theorem sc_greatest_c : FnScope ["k", "a"] ["k", "a"] (C8.fnScope s_greatest_c) := C8.fnScope_by (by decide +kernel)
/-! wrong_part: 0:k 1:a 2:c 3:d 4:stop 5:told 6:mend -/
abbrev s_wrong_part : Stmt := top 23
theorem sc_wrong_part : FnScope ["k", "a", "c", "d", "stop", "told", "mend"] ["k", "a", "c", "d", "stop", "told", "mend"] (C8.fnScope s_wrong_part) := C8.fnScope_by (by decide +kernel)
/-! Average.__init__: 0:self 1:k 2:a 3:c 4:d 5:stop 6:told 7:mend 8:word -/
abbrev s_Average___init__ : Stmt := inClass (top 25) 0
theorem sc_Average___init__ : FnScope ["self", "k", "a", "c", "d", "stop", "told", "mend", "word"] ["self", "k", "a", "c", "d", "stop", "told", "mend"] (C8.fnScope s_Average___init__) := C8.fnScope_by (by decide +kernel)
/-! power: 0:base 1:k 2:half -/
abbrev s_power : Stmt := top 11
theorem sc_power : FnScope ["base", "k", "half"] ["base", "k"] (C8.fnScope s_power) := C8.fnScope_by (by decide +kernel)
/-! next_guess: 0:loop 1:n 2:x 3:quotient -/
abbrev s_next_guess : Stmt := top 26
theorem sc_next_guess : FnScope ["loop", "n", "x", "quotient"] ["loop", "n", "x"] (C8.fnScope s_next_guess) := C8.fnScope_by (by decide +kernel)
/-! Average.step: 0:self 1:n 2:x -/
abbrev s_Average_step : Stmt := inClass (top 25) 2
theorem sc_Average_step : FnScope ["self", "n", "x"] ["self", "n", "x"] (C8.fnScope s_Average_step) := C8.fnScope_by (by decide +kernel)
/-! _law_turn: 0:_law_k 1:_law_floor 2:_law_i 3:_law_j -/
abbrev s_Lturn : Stmt := top 34
theorem sc_Lturn : FnScope ["_law_k", "_law_floor", "_law_i", "_law_j"] ["_law_k", "_law_floor", "_law_i", "_law_j"] (C8.fnScope s_Lturn) := C8.fnScope_by (by decide +kernel)
/-! law: 0:_law_script 1:_law_turn_here 2:_law_stream_here 3:_law_k 4:_law_a 5:_law_c 6:_law_d 7:_law_stop 8:_law_told 9:_law_mend 10:_law_loop 11:_law_floor 12:_law_end 13:_law_m 14:_law_i 15:_law_j 16:_law_near 17:_law_some 18:_law_s 19:_law_n 20:_law_x 21:_law_q 22:_law_due -/
abbrev s_law : Stmt := top 35
theorem sc_law : FnScope ["_law_script", "_law_turn_here", "_law_stream_here", "_law_k", "_law_a", "_law_c", "_law_d", "_law_stop", "_law_told", "_law_mend", "_law_loop", "_law_floor", "_law_end", "_law_m", "_law_i", "_law_j", "_law_near", "_law_some", "_law_s", "_law_n", "_law_x", "_law_q", "_law_due"] ["_law_script"] (C8.fnScope s_law) := C8.fnScope_by (by decide +kernel)
/-- what the walks ask of the top's names -/
structure Txt (K : PySem.W.Frag) (mg : Str → Option Value) : Prop where
  b_abs : mg "abs" = none
  b_bool : mg "bool" = none
  b_int : mg "int" = none
  b_isinstance : mg "isinstance" = none
  b_len : mg "len" = none
  b_max : mg "max" = none
  b_min : mg "min" = none
  b_range : mg "range" = none
  b_str : mg "str" = none
  c_LOOKS : ∃ a : Addr, mg "LOOKS" = some (.ref a) ∧ ∀ H : Hp, SqT K H a [.str "under", .str "held"]
  c_MENDS : ∃ a : Addr, mg "MENDS" = some (.ref a) ∧ ∀ H : Hp, SqT K H a [.str "none", .str "down", .str "up", .str "both"]
  c_MOST_WEIGHT : ∃ u, mg "MOST_WEIGHT" = some u ∧ RelV (.int 6) u
  c_STOPS : ∃ a : Addr, mg "STOPS" = some (.ref a) ∧ ∀ H : Hp, SqT K H a [.str "notless", .str "equal", .str "near1", .str "near2", .str "back", .str "under", .str "held"]
  c_TELLINGS : ∃ a : Addr, mg "TELLINGS" = some (.ref a) ∧ ∀ H : Hp, SqT K H a [.str "old", .str "new", .str "less", .str "more"]

local macro_rules | `(tactic| walk_at "rd") => `(tactic| repeat (first | refine ⟨_, rfl, ?_⟩ | refine ⟨_, _, rfl, rfl, ?_⟩ | refine ⟨_, _, rfl, ?_⟩ | refine ⟨_, _, _, rfl, ?_⟩ | refine .inl ⟨_, rfl, ?_⟩ | refine ⟨rfl, ?_⟩))

section
variable {P : Program} {w : World} {K : PySem.W.Frag} {mg : Str → Option Value} {base : Heap}
theorem ok_Lstream {f : Addr} {fd : FuncData} (F : C8.Def K mg "_law_stream" s_Lstream f fd) (b : Binds K fd ["_law_script", "_law_k"] []) (T : Txt K mg) : C8.Cal P w K mg base 1 "_law_stream" (spStream K) [] := by
  refine C8.cal0 F b .nil sc_Lstream (fun vs H Q E h => ?_) (fun cdv A outer s H vs Q E hr h => ?_)
  · obtain ⟨a, ns, k, rfl, hS, h63, hk, q⟩ := h
    rfl
  · obtain ⟨a, ns, k, rfl, hS, h63, hk, q⟩ := h
    refine ⟨_, pss_cons (ps_set (i := 2) sc_Lstream.nd rfl (Or.inl rfl) (pe_ifExp (pt_cmpR op_lt (pv 1) (pe_callB (call_len_seq) rfl T.b_len PySem.boot_len (pa_cons (pv 0) pa_nil)) (nomark _)) (pe_callB (call_abs) rfl T.b_abs boot_abs (pa_cons (pe_ix ix_list (pv 0) (pv 1) (fun _ _ => rfl)) pa_nil)) pe_int))
      (pss_one (ps_ret (pe_lst (pa_cons (pe_ifExp (pt_cmpR op_ge (pv 2) (pe_op op_pow pe_int pe_int) (nomark _)) (pv 2) pe_int) (pa_cons (pe_op op_add (pe_op op_mod (pe_callTy (call_int1) rfl T.b_int boot_int (pa_cons (pv 2) pa_nil)) pe_int) (pe_op op_mul pe_int (pv 1))) (pa_cons pe_int pa_nil)))))), ?_⟩
    have ex : ∃ cell : Int, 0 ≤ cell ∧ ((k < ns.length ∧ ∃ z, atI (ns.map V.int) (k : Int) = some (V.int z) ∧ cell = (if z < 0 then -z else z)) ∨ (¬ k < ns.length ∧ cell = 0)) := by
      by_cases hlt : k < ns.length
      · refine ⟨_, ?_, .inl ⟨hlt, ns[k], atI_nat (by rw [List.getElem?_map, List.getElem?_eq_getElem hlt] <;> rfl), rfl⟩⟩
        split <;> omega
      · exact ⟨0, by decide, .inr ⟨hlt, rfl⟩⟩
    obtain ⟨cell, h0, hc⟩ := ex
    have hl : (ns.map V.int).length = ns.length := List.length_map _
    walk_at "rd"
    refine ⟨a, _, rfl, .inl hS, ?_⟩
    walk_at "rd"
    refine if_join (.int cell) ?_ (fun c Q q => ?_) (fun c Q q => ?_)
    · walk_at "rd"
      refine ⟨⟨by decide, by decide, by decide⟩, ?_⟩
      walk_at "rd"
      refine if_join (.int (if 10 ^ (18 : Int).toNat ≤ cell then cell else 0)) ?_ (fun c Q q => ?_) (fun c Q q => ?_)
      · walk_at "rd"
        refine ⟨(by show (0 : Int) < 2147483647; decide), ?_⟩
        walk_at "rd"
        refine ⟨.inl ⟨by decide, by decide⟩, ?_⟩
        walk_at "rd"
        refine ⟨(by show 3 ≤ sizeLine; decide), fun p hp => q p _ hp (same_new hp _) ⟨_, _, _, upd_same, ?_, ?_, ?_, Int.le_refl 0, Int.le_refl 0⟩⟩
        · split <;> omega
        · omega
        · omega
      · refine ⟨_, rfl, ?_⟩
        have c' := of_decide_eq_true c
        rw [if_pos c'] at q
        exact q
      · have c' := of_decide_eq_false c
        rw [if_neg c'] at q
        exact q
    · have c' := of_decide_eq_true c
      rcases hc with ⟨_, z, hz, rfl⟩ | ⟨h, _⟩
      · exact ⟨_, rfl, _, rfl, a, _, _, _, rfl, rfl, hS, hz, _, rfl, q⟩
      · rw [hl] at c'
        omega
    · have c' := of_decide_eq_false c
      rcases hc with ⟨h, _⟩ | ⟨_, rfl⟩
      · rw [hl] at c'
        omega
      · exact q
theorem ok_Ldraw {f : Addr} {fd : FuncData} (F : C8.Def K mg "_law_draw" s_Ldraw f fd) (b : Binds K fd ["_law_stream_here", "_law_many"] []) (T : Txt K mg) : C8.Cal P w K mg base 1 "_law_draw" (spDraw) [] := by
  refine C8.cal0 F b .nil sc_Ldraw (fun vs H Q E h => ?_) (fun cdv A outer s H vs Q E hr h => ?_)
  · obtain ⟨a, c, m, b', rfl, hA, hc, hm, hb, hb2, q⟩ := h
    rfl
  · obtain ⟨a, c, m, b', rfl, hA, hc, hm, hb, hb2, q⟩ := h
    refine ⟨_, pss_cons (ps_if (pt_cmpR op_gt (pe_ix ix_list (pv 0) pe_int (fun _ _ => rfl)) pe_int (nomark _)) (pss_cons (ps_set (i := 2) sc_Ldraw.nd rfl (Or.inl rfl) (pe_op op_mod (pe_callTy (call_int1) rfl T.b_int boot_int (pa_cons (pe_ix ix_list (pv 0) pe_int (fun _ _ => rfl)) pa_nil)) (pv 1)))
        (pss_cons (ps_asg (pe_op op_fdivW (pe_ix ix_list (pv 0) pe_int (fun _ _ => rfl)) (pv 1)) (pg_sub (pv 0) pe_int set_list))
        (pss_one (ps_ret (pv 2))))) (pss_nil))
      (pss_cons (ps_asg (pe_op op_add (pe_ix ix_list (pv 0) pe_int (fun _ _ => rfl)) pe_int) (pg_sub (pv 0) pe_int set_list))
      (pss_cons (ps_set (i := 3) sc_Ldraw.nd rfl (Or.inl rfl) (pe_op op_mod (pe_op op_pow (pe_callTy (call_int1) rfl T.b_int boot_int (pa_cons (pe_op op_add (pe_op op_add (pe_ix ix_list (pv 0) pe_int (fun _ _ => rfl)) (pe_op op_mul pe_int (pe_ix ix_list (pv 0) pe_int (fun _ _ => rfl)))) pe_int) pa_nil)) pe_int) pe_int))
      (pss_one (ps_ret (pe_op op_mod (pe_op op_fdiv (pe_op op_mod (pe_callTy (call_int1) rfl T.b_int boot_int (pa_cons (pe_op op_mul (pe_op op_add (pv 3) (pe_ix ix_list (pv 0) pe_int (fun _ _ => rfl))) pe_int) pa_nil)) pe_int) pe_int) (pv 1)))))), ?_⟩
    obtain ⟨x, y, z, h1, h2, h3, h4, h5, h6⟩ := hA
    have L0 : SqL K H a [.int x, .int y, .int z] := SqL.of h1
    walk_at "rd"
    refine ⟨a, _, _, _, rfl, rfl, L0, atI_nat (j := 0) rfl, ?_⟩
    walk_at "rd"
    refine ite2 (fun c => ?_) (fun c => ?_)
    · have c' : 0 < x := of_decide_eq_true c
      walk_at "rd"
      refine ⟨a, _, _, _, rfl, rfl, L0, atI_nat (j := 0) rfl, ?_⟩
      walk_at "rd"
      refine ⟨hm, ?_⟩
      walk_at "rd"
      refine ⟨a, _, _, _, rfl, rfl, L0, atI_nat (j := 0) rfl, ?_⟩
      walk_at "rd"
      refine ⟨Sz.d _ hm hb hb2, ?_⟩
      walk_at "rd"
      refine ⟨a, _, _, 0, rfl, rfl, h1, rfl, ?_⟩
      walk_at "rd"
      exact q _ _ (Int.emod_nonneg _ (by omega)) (Int.emod_lt_of_pos _ hm) (but_upd _ _ _) ⟨_, _, _, upd_same, Int.ediv_nonneg h2 (by omega), h3, h4, h5, by omega⟩
    · walk_at "rd"
      refine ⟨a, _, _, _, rfl, rfl, L0, atI_nat (j := 2) rfl, ?_⟩
      walk_at "rd"
      refine ⟨a, _, _, 2, rfl, rfl, h1, rfl, ?_⟩
      have L1 : SqL K (upd H a (.lst [.int x, .int y, .int (z + 1)])) a [.int x, .int y, .int (z + 1)] := SqL.of upd_same
      walk_at "rd"
      refine ⟨a, _, _, _, rfl, rfl, L1, atI_nat (j := 1) rfl, ?_⟩
      walk_at "rd"
      refine ⟨a, _, _, _, rfl, rfl, L1, atI_nat (j := 2) rfl, ?_⟩
      walk_at "rd"
      refine ⟨.inl ⟨by decide, by decide⟩, ?_⟩
      walk_at "rd"
      refine ⟨⟨by decide, by decide, by omega⟩, ?_⟩
      walk_at "rd"
      refine ⟨(by show (0 : Int) < 2147483647; decide), ?_⟩
      generalize hg : (y + 7919 * (z + 1) + 104729) ^ (5 : Int).toNat % 2147483647 = g
      have g0 : 0 ≤ g := by rw [← hg]; exact Int.emod_nonneg _ (by decide)
      have g1 : g < 2147483647 := by rw [← hg]; exact Int.emod_lt_of_pos _ (by decide)
      walk_at "rd"
      refine ⟨a, _, _, _, rfl, rfl, L1, atI_nat (j := 2) rfl, ?_⟩
      walk_at "rd"
      refine ⟨.inr ⟨by decide, by decide⟩, ?_⟩
      walk_at "rd"
      refine ⟨(by show (0 : Int) < 2147483629; decide), ?_⟩
      walk_at "rd"
      refine ⟨⟨by decide, by decide⟩, ?_⟩
      walk_at "rd"
      refine ⟨hm, ?_⟩
      exact q _ _ (Int.emod_nonneg _ (by omega)) (Int.emod_lt_of_pos _ hm) (but_upd _ _ _) ⟨_, _, _, upd_same, h2, h3, h4, by omega, by omega⟩
theorem ok_Lpick {f : Addr} {fd : FuncData} (F : C8.Def K mg "_law_pick" s_Lpick f fd) (b : Binds K fd ["_law_stream_here", "_law_things"] []) (T : Txt K mg) (c_Ldraw : C8.Cal P w K mg base 1 "_law_draw" (spDraw) []) : C8.Cal P w K mg base 2 "_law_pick" (spPick K) [] := by
  refine C8.cal0 F b .nil sc_Lpick (fun vs H Q E h => ?_) (fun cdv A outer s H vs Q E hr h => ?_)
  · obtain ⟨a, c, p, xs, rfl, hA, hc, hn, hS, hne, hl, q⟩ := h
    rfl
  · obtain ⟨a, c, p, xs, rfl, hA, hc, hn, hS, hne, hl, q⟩ := h
    refine ⟨_, pss_one (ps_ret (pe_ix ix_list (pv 1) (C8.pe_c c_Ldraw hr (by decide) rfl (pa_cons (pv 0) (pa_cons (pe_callB (call_len_seq) rfl T.b_len PySem.boot_len (pa_cons (pv 1) pa_nil)) pa_nil))) (fun _ _ => rfl))), ?_⟩
    have hpos : 0 < xs.length := List.length_pos_iff.mpr hne
    walk_at "rd"
    refine ⟨p, _, rfl, .inl hS, ?_⟩
    refine ⟨a, c, _, 10, rfl, hA, hc, by omega, ?_, by decide, fun r H' h0 h1 hb hs => ?_⟩
    · show (xs.length : Int).natAbs < 2 ^ 10
      omega
    obtain ⟨j, rfl⟩ := Int.eq_ofNat_of_zero_le h0
    have hj : j < xs.length := by omega
    exact ⟨p, xs, _, xs[j], rfl, rfl, hb.seq hn hS, atI_nat (List.getElem?_eq_getElem hj), q _ _ (List.getElem_mem hj) hb hs⟩
theorem ok_Lpower {f : Addr} {fd : FuncData} (F : C8.Def K mg "_law_power" s_Lpower f fd) (b : Binds K fd ["_law_x", "_law_k"] []) (T : Txt K mg) : C8.Cal P w K mg base 1 "_law_power" (spLPow) [] := by
  refine C8.cal0 F b .nil sc_Lpower (fun vs H Q E h => ?_) (fun cdv A outer s H vs Q E hr h => ?_)
  · obtain ⟨x, e, b', rfl, he, hx, hb, hl, hk, q⟩ := h
    rfl
  · obtain ⟨x, e, b', rfl, he, hx, hb, hl, hk, q⟩ := h
    refine ⟨_, pss_cons (ps_set (i := 2) sc_Lpower.nd rfl (Or.inl rfl) pe_int)
      (pss_cons (ps_for PassesOwn.never rfl (pi_range1 rfl T.b_range (pa_cons (pv 1) pa_nil)) (pg_name (i := 3) sc_Lpower.nd rfl (Or.inl rfl)) (pss_one (ps_set (i := 2) sc_Lpower.nd rfl (Or.inl rfl) (pe_op op_mulW (pv 2) (pv 0)))))
      (pss_one (ps_ret (pv 2)))), ?_⟩
    walk_at "rd"
    refine ⟨by omega, by omega, ?_⟩
    refine for_range (n := e.toNat) (fun i σ H' => ∃ (g : Int) (v : Option V), σ = [some (.int x), some (.int e), some (.int g), v] ∧ g = x ^ i ∧ H' = H) ⟨1, none, rfl, (Int.pow_zero x).symm, rfl⟩ ?_ ?_
    · rintro i σ H' hi ⟨g, v, rfl, rfl, rfl⟩
      walk_at "rd"
      refine ⟨Sz.w (Sz.pow hx hb i) hx ?_, ?_⟩
      · have : i * b' ≤ e.toNat * b' := Nat.mul_le_mul_right _ (by omega)
        rw [Nat.succ_mul] at hl
        omega
      · exact ⟨_, _, rfl, (Int.pow_succ x i).symm, rfl⟩
    · rintro σ H' ⟨g, v, rfl, rfl, rfl⟩
      walk_at "rd"
      exact q

theorem ok_Lweights {f : Addr} {fd : FuncData} (F : C8.Def K mg "_law_weights" s_Lweights f fd) (b : Binds K fd ["_law_k"] []) (T : Txt K mg) : C8.Cal P w K mg base 1 "_law_weights" (spWts) [] := by
  refine C8.cal0 F b .nil sc_Lweights (fun vs H Q E h => ?_) (fun cdv A outer s H vs Q E hr h => ?_)
  · obtain ⟨k, rfl, k2, k4, q⟩ := h
    rfl
  · obtain ⟨k, rfl, k2, k4, q⟩ := h
    refine ⟨_, pss_cons (ps_set (i := 1) sc_Lweights.nd rfl (Or.inl rfl) (pe_lst (pa_nil)))
      (pss_cons (ps_for PassesOwn.never rfl (pi_range2 rfl T.b_range (pa_cons pe_int (pa_cons pe_int pa_nil))) (pg_name (i := 2) sc_Lweights.nd rfl (Or.inr rfl)) (pss_one (ps_expr (pe_bm PySem.F.plainAttrs_list PySem.F.slot_list_extend PySem.F.type_list_extend mt_extend (pv 1) (pa_cons (pe_lc (own := [("_law_c", 3)]) rfl sc_Lweights.nd (pi_tup (pe_tup (pa_cons pe_int (pa_cons pe_int (pa_cons pe_int pa_nil))))) (blkOk_by (N := ["_law_k", "_law_found", "_law_a", "_law_c"]) (sc := C8.fnScope s_Lweights) (by decide +kernel)) (fun _ _ _ _ _ => by exact (pg_name (i := 3) sc_Lweights.nd rfl (Or.inl rfl))) (fun _ _ _ _ _ => pts_one (PW.pt (pw_and (pt_cmpR op_ge (pv 2) (pe_op op_mul (pv 3) (pe_op op_sub (pv 0) pe_int)) (nomark _)) (pw_and1 (pt_cmpR op_le (pe_op op_add (pv 2) (pv 3)) pe_int (nomark _)))))) (fun _ _ _ _ _ => by exact (pe_tup (pa_cons (pv 2) (pa_cons (pv 3) pa_nil))))) pa_nil)))))
      (pss_one (ps_ret (pv 1)))), ?_⟩
    refine ⟨(by show 0 ≤ sizeLine; decide), fun p hp => ?_⟩
    walk_at "rd"
    refine ⟨by decide, ?_⟩
    refine for_range (n := 5) (fun i σ H' => ∃ (acc : List V) (va vc : Option V), σ = [some (.int k), some (.ref p), va, vc] ∧ H' p = some (.lst acc) ∧ Prs H' acc (wtsTo k i) ∧ SameBut p H H') ⟨[], none, none, rfl, upd_same, .nil, but_new hp _⟩ ?_ ?_
    · rintro i σ H' hi ⟨acc, va, vc, rfl, hacc, hprs, hbut⟩
      have hlen := hprs.length
      have hwl := wtsTo_len k i
      walk_at "rd"
      refine ⟨.inl ⟨rfl, _, SqL.of hacc⟩, ?_⟩
      refine ⟨(by show 3 ≤ sizeLine; decide), fun t ht => ?_⟩
      refine ⟨t, rfl, ⟨_, SqT.of upd_same⟩, fun D hD => ?_⟩
      have ntD : t ≠ D := ne_of_none upd_same hD
      have nD : H' D = none := (same_new ht _).free hD
      have npD : p ≠ D := ne_of_none hacc nD
      have npt : p ≠ t := ne_of_none hacc ht
      refine lc_tup (K := K) (a := t) (xs := ([1, 2, 3] : List Int).map V.int) (fun j G => ∃ ad, G D = some (.lst ad) ∧ Prs G ad (crow k (1 + i) j) ∧ (∀ b o, b ≠ D → (upd H' t (.tup (([1, 2, 3] : List Int).map V.int))) b = some o → G b = some o) ∧ ad.length ≤ j) ⟨[], upd_same, .nil, fun b o n e => by rw [upd_ne n]; exact e, Nat.zero_le _⟩
        (fun j G _ ⟨ad, _, _, h3, _⟩ => SqT.of (h3 t _ ntD upd_same)) ?_ ?_
      · rintro j x G hj ⟨ad, h1, h2, h3, h4⟩
        obtain ⟨z, hz, rfl⟩ := int_at hj
        have hj3 : j < 3 := (List.getElem?_eq_some_iff.mp hz).1
        have cs := crow_succ (k := k) (a := 1 + i) hz
        refine ⟨rfl, ?_⟩
        walk_at "rd"
        refine ⟨.inr ⟨by omega, by omega⟩, ?_⟩
        walk_at "rd"
        refine ite2 (fun c1 => ?_) (fun c1 => ?_)
        · walk_at "rd"
          refine ite2 (fun c2 => ?_) (fun c2 => ?_)
          · walk_at "rd"
            rw [c1, c2] at cs
            refine ⟨(by show 2 ≤ sizeLine; decide), fun r hr => ?_⟩
            have nrD : D ≠ r := ne_of_none h1 hr
            refine ⟨ad, by rw [upd_ne nrD]; exact h1, small1000 (by omega), ad ++ [.ref r], upd_same, ?_, fun b o n e => ?_, by rw [List.length_append]; exact Nat.succ_le_succ h4⟩
            · rw [cs]
              refine (h2.mono fun b xs e => ?_).app (.cons ⟨r, rfl, ?_⟩ .nil)
              · rw [upd_ne (fun z => by rw [z, h1] at e; cases e), upd_ne (ne_of_none e hr)]
                exact e
              · rw [upd_ne nrD.symm, upd_same]
            · rw [upd_ne n, upd_ne (ne_of_none (h3 b o n e) hr)]
              exact h3 b o n e
          · have c2' := Bool.eq_false_iff.mpr c2
            rw [c1, c2'] at cs
            refine ⟨ad, h1, ?_, h3, by omega⟩
            rw [cs]
            simpa using h2
        · have c1' := Bool.eq_false_iff.mpr c1
          rw [c1'] at cs
          refine iteF ⟨ad, h1, ?_, h3, by omega⟩
          rw [cs]
          simpa using h2
      · rintro G ⟨ad, h1, h2, h3, h4⟩
        have h4' : ad.length ≤ 3 := h4
        have kp : ∀ b o, H' b = some o → G b = some o := fun b o e => h3 b o (ne_of_none e nD) (by rw [upd_ne (ne_of_none e ht)]; exact e)
        refine ⟨p, D, acc, ad, rfl, rfl, kp _ _ hacc, h1, small _ (by omega), ?_⟩
        refine ⟨_, _, _, rfl, upd_same, ?_, fun b o n e => ?_⟩
        · refine (hprs.mono fun b xs e => ?_).app (h2.mono fun b xs e => ?_)
          · rw [upd_ne (fun z => by rw [z, hacc] at e; cases e)]
            exact kp _ _ e
          · rw [upd_ne (fun z => by rw [z, kp _ _ hacc] at e; cases e)]
            exact e
        · rw [upd_ne n]
          exact kp _ _ (hbut b o n e)
    · rintro σ H' ⟨acc, va, vc, rfl, hacc, hprs, hbut⟩
      walk_at "rd"
      exact q p acc H' hp (fun b o e => hbut b o (ne_of_none e hp) e) hacc hprs
theorem ok_Lparts {f : Addr} {fd : FuncData} (F : C8.Def K mg "_law_parts" s_Lparts f fd) (b : Binds K fd ["_law_stream_here"] []) (T : Txt K mg) (c_Lpick : C8.Cal P w K mg base 2 "_law_pick" (spPick K) []) (c_Ldraw : C8.Cal P w K mg base 1 "_law_draw" (spDraw) []) (c_Lweights : C8.Cal P w K mg base 1 "_law_weights" (spWts) []) : C8.Cal P w K mg base 3 "_law_parts" (spParts) [] := by
  refine C8.cal0 F b .nil sc_Lparts (fun vs H Q E h => ?_) (fun cdv A outer s H vs Q E hr h => ?_)
  · obtain ⟨a, c, rfl, hA, hc, q⟩ := h
    rfl
  · obtain ⟨a, c, rfl, hA, hc, q⟩ := h
    refine ⟨_, pss_cons (ps_set (i := 1) sc_Lparts.nd rfl (Or.inl rfl) (pe_op op_add pe_int (C8.pe_c c_Ldraw hr (by decide) rfl (pa_cons (pv 0) (pa_cons pe_int pa_nil)))))
      (pss_cons (ps_asg (C8.pe_c c_Lpick hr (by decide) rfl (pa_cons (pv 0) (pa_cons (C8.pe_c c_Lweights hr (by decide) rfl (pa_cons (pv 1) pa_nil)) pa_nil))) (pg_tup rfl (pgs_cons (pg_name (i := 2) sc_Lparts.nd rfl (Or.inl rfl)) (pgs_cons (pg_name (i := 3) sc_Lparts.nd rfl (Or.inl rfl)) (pgs_nil)))))
      (pss_cons (ps_set (i := 4) sc_Lparts.nd rfl (Or.inl rfl) (C8.pe_c c_Lpick hr (by decide) rfl (pa_cons (pv 0) (pa_cons (pe_lst (pa_cons pe_int (pa_cons pe_int (pa_cons pe_int (pa_cons (pe_op op_sub (pv 3) pe_int) (pa_cons (pv 3) (pa_cons (pe_un un_neg pe_int) (pa_cons (pe_op op_sub (C8.pe_c c_Ldraw hr (by decide) rfl (pa_cons (pv 0) (pa_cons (pe_op op_add (pe_op op_add (pe_op op_mul pe_int (pv 2)) (pv 3)) pe_int) pa_nil))) (pv 2)) pa_nil)))))))) pa_nil))))
      (pss_cons (ps_set (i := 5) sc_Lparts.nd rfl (Or.inl rfl) (C8.pe_c c_Lpick hr (by decide) rfl (pa_cons (pv 0) (pa_cons (pe_lst (pa_cons pe_str (pa_cons pe_str (pa_cons pe_str (pa_cons pe_str (pa_cons pe_str (pa_cons pe_str (pa_cons pe_str pa_nil)))))))) pa_nil))))
      (pss_cons (ps_set (i := 6) sc_Lparts.nd rfl (Or.inl rfl) (C8.pe_c c_Lpick hr (by decide) rfl (pa_cons (pv 0) (pa_cons (pe_lst (pa_cons pe_str (pa_cons pe_str (pa_cons pe_str (pa_cons pe_str pa_nil))))) pa_nil))))
      (pss_cons (ps_set (i := 7) sc_Lparts.nd rfl (Or.inl rfl) (C8.pe_c c_Lpick hr (by decide) rfl (pa_cons (pv 0) (pa_cons (pe_lst (pa_cons pe_str (pa_cons pe_str (pa_cons pe_str (pa_cons pe_str (pa_cons pe_str pa_nil)))))) pa_nil))))
      (pss_one (ps_ret (pe_tup (pa_cons (pv 1) (pa_cons (pv 2) (pa_cons (pv 3) (pa_cons (pv 4) (pa_cons (pv 5) (pa_cons (pe_ifExp (pt_cmpR op_in_seq (pv 5) (pe_tup (pa_cons pe_str (pa_cons pe_str pa_nil))) (by with_unfolding_all rfl)) pe_str (pv 6)) (pa_cons (pv 7) pa_nil))))))))))))))), ?_⟩
    -- k
    walk_at "rd"
    refine ⟨a, c, 3, 2, rfl, hA, by omega, by decide, by decide, by decide, fun r1 H1 r10 r13 b1 s1 => ?_⟩
    walk_at "rd"
    -- the weights
    refine ⟨by omega, by omega, fun p2 acc H2 n2 m2 e2 w2 => ?_⟩
    have n2a : p2 ≠ a := s1.ne n2
    have s2 := s1.same m2
    have wl := w2.length
    have ww := wtsTo_len (2 + r1) 5
    refine ⟨a, c + 1, p2, acc, rfl, s2, by omega, n2a, SqL.of e2, ?_, ?_, fun v H3 hv b3 s3 => ?_⟩
    · intro z
      rw [z] at wl
      exact wts_ne (k := 2 + r1) (by omega) (by omega) (List.eq_nil_of_length_eq_zero wl.symm)
    · have : (wts (2 + r1)).length ≤ 3 * 5 := ww
      omega
    obtain ⟨⟨wa, wc⟩, hp, t, rfl, ht⟩ := w2.mem hv
    obtain ⟨a1, a5, c1, c3, ca, m6⟩ := wts_mem hp
    have a1 : 1 ≤ wa := a1
    have a5 : wa ≤ 5 := a5
    have c1 : 1 ≤ wc := c1
    have c3 : wc ≤ 3 := c3
    have ca : wc * (2 + r1 - 1) ≤ wa := ca
    have m6 : wa + wc ≤ 6 := m6
    obtain ⟨x0, y0, z0, hs2, _⟩ := id s2
    have nta : t ≠ a := fun z => by rw [z, hs2] at ht; cases ht
    refine ⟨t, _, rfl, SqT.of (b3 _ _ nta ht), rfl, _, _, rfl, _, _, rfl, rfl, ?_⟩
    -- d
    walk_at "rd"
    refine ⟨.inl ⟨by decide, by decide⟩, ?_⟩
    walk_at "rd"
    refine ⟨a, c + 2, _, 10, rfl, s3, by omega, by omega, (by show Int.natAbs _ < 2 ^ 10; omega), by decide, fun r4 H4 r40 r41 b4 s4 => ?_⟩
    walk_at "rd"
    refine ⟨(by show 7 ≤ sizeLine; decide), fun p5 n5 => ?_⟩
    have n5a : p5 ≠ a := s4.ne n5
    refine ⟨a, c + 3, p5, _, rfl, s4.same (same_new n5 _), by omega, n5a, SqL.of upd_same, List.cons_ne_nil _ _, (by show 7 ≤ 1000; decide), fun vd H6 hvd b6 s6 => ?_⟩
    obtain ⟨d, rfl, d0, d1⟩ : ∃ d : Int, vd = .int d ∧ -wa ≤ d ∧ d ≤ wa + wc := by
      simp only [List.mem_cons, List.not_mem_nil, or_false] at hvd
      rcases hvd with rfl | rfl | rfl | rfl | rfl | rfl | rfl <;> exact ⟨_, rfl, by omega, by omega⟩
    -- the words
    walk_at "rd"
    refine ⟨(by show 7 ≤ sizeLine; decide), fun p7 n7 => ?_⟩
    refine ⟨a, c + 4, p7, stops.map V.str, rfl, s6.same (same_new n7 _), by omega, s6.ne n7, SqL.of upd_same, List.cons_ne_nil _ _, (by show 7 ≤ 1000; decide), fun v8 H8 hv8 b8 s8 => ?_⟩
    obtain ⟨stop, hst, rfl⟩ := List.mem_map.mp hv8
    walk_at "rd"
    refine ⟨(by show 4 ≤ sizeLine; decide), fun p9 n9 => ?_⟩
    refine ⟨a, c + 5, p9, tellings.map V.str, rfl, s8.same (same_new n9 _), by omega, s8.ne n9, SqL.of upd_same, List.cons_ne_nil _ _, (by show 4 ≤ 1000; decide), fun v10 H10 hv10 b10 s10 => ?_⟩
    obtain ⟨told, hto, rfl⟩ := List.mem_map.mp hv10
    walk_at "rd"
    refine ⟨(by show 5 ≤ sizeLine; decide), fun p11 n11 => ?_⟩
    refine ⟨a, c + 6, p11, (["none", "none", "down", "up", "both"] : List Str).map V.str, rfl, s10.same (same_new n11 _), by omega, s10.ne n11, SqL.of upd_same, List.cons_ne_nil _ _, (by show 5 ≤ 1000; decide), fun v12 H12 hv12 b12 s12 => ?_⟩
    obtain ⟨mend, hme, rfl⟩ := List.mem_map.mp hv12
    -- the tuple
    walk_at "rd"
    refine ⟨(by show 2 ≤ sizeLine; decide), fun p13 n13 => ?_⟩
    refine ⟨p13, looks.map V.str, rfl, .inr (SqT.of upd_same), rfl, rfl, ?_⟩
    walk_at "rd"
    refine if_join (.str (if stop ∈ looks then "old" else told)) ?_ (fun cc Q q => ?_) (fun cc Q q => ?_)
    · walk_at "rd"
      refine ⟨(by show 7 ≤ sizeLine; decide), fun p14 n14 => ?_⟩
      have bb : SameBut a H (upd (upd H12 p13 (.tup (looks.map V.str))) p14 (.tup [.int (2 + r1), .int wa, .int wc, .int d, .str stop, .str (if stop ∈ looks then "old" else told), .str mend])) :=
        b1.trans ((Same.but m2).trans (b3.trans (b4.trans ((but_new n5 _).trans (b6.trans ((but_new n7 _).trans (b8.trans ((but_new n9 _).trans (b10.trans ((but_new n11 _).trans (b12.trans ((but_new n13 _).trans (but_new n14 _)))))))))))))
      have s14 := (s12.same (same_new n13 (.tup (looks.map V.str)))).ne n14
      refine q p14 _ ⟨2 + r1, wa, wc, d, stop, if stop ∈ looks then "old" else told, mend⟩ ?_ bb (((s12.same (same_new n13 _)).same (same_new n14 _)).mono (by omega)) upd_same ?_
      · have bb' : SameBut a H (upd H12 p13 (.tup (looks.map V.str))) := b1.trans ((Same.but m2).trans (b3.trans (b4.trans ((but_new n5 _).trans (b6.trans ((but_new n7 _).trans (b8.trans ((but_new n9 _).trans (b10.trans ((but_new n11 _).trans (b12.trans (but_new n13 _))))))))))))
        exact bb'.free s14 n14
      · refine ⟨by show 2 ≤ 2 + r1; omega, by show 2 + r1 ≤ 4; omega, a1, c1, ca, m6, d0, d1, hst, ?_, ?_, ?_⟩
        · show (if stop ∈ looks then ("old" : Str) else told) ∈ tellings
          split
          · decide
          · exact hto
        · intro hl
          show (if stop ∈ looks then ("old" : Str) else told) = "old"
          rw [if_pos hl]
        · show mend ∈ mendings
          simp only [List.mem_cons, List.not_mem_nil, or_false] at hme
          rcases hme with rfl | rfl | rfl | rfl | rfl <;> decide
    · have c2 : inV (.str stop) (looks.map V.str) = true := cc
      rw [inV_str] at c2
      rw [if_pos (of_decide_eq_true c2)] at q
      exact q
    · have c2 : inV (.str stop) (looks.map V.str) = false := cc
      rw [inV_str] at c2
      rw [if_neg (of_decide_eq_false c2)] at q
      exact ⟨_, rfl, q⟩

theorem ok_is_int {f : Addr} {fd : FuncData} (F : C8.Def K mg "is_int" s_is_int f fd) (b : Binds K fd ["value"] []) (T : Txt K mg) : C8.Cal P w K mg base 1 "is_int" (spIsInt K) [] := by
  refine C8.cal0 F b .nil sc_is_int (fun vs H Q E h => ?_) (fun cdv A outer s H vs Q E hr h => ?_)
  · obtain ⟨x, b', rfl, ⟨t, b1, b2, ty, k1, k2, rfl⟩, q⟩ := h
    rfl
  · obtain ⟨x, b', rfl, ⟨t, b1, b2, ty, k1, k2, rfl⟩, q⟩ := h
    refine ⟨_, pss_one (ps_ret (pe_and (pe_callB (call_isi) rfl T.b_isinstance boot_isinstance (pa_cons (pv 0) (pa_cons (pe_bltn (v := .ty "int") rfl T.b_int boot_int rfl) pa_nil))) (pe_one (pe_not (pe_callB (call_isi) rfl T.b_isinstance boot_isinstance (pa_cons (pv 0) (pa_cons (pe_bltn (v := .ty "bool") rfl T.b_bool boot_bool rfl) pa_nil))))))), ?_⟩
    walk_at "rd"
    refine ⟨_, .ty "int", t, _, b1, rfl, .ty "int", ty, k1, ?_⟩
    walk_at "rd"
    cases b1 with
    | true =>
      walk_at "rd"
      refine ⟨_, .ty "bool", t, _, b2, rfl, .ty "bool", ty, k2, ?_⟩
      walk_at "rd"
      exact q
    | false => exact q
theorem ok_is_from {f : Addr} {fd : FuncData} (F : C8.Def K mg "is_from" s_is_from f fd) (b : Binds K fd ["value", "least"] []) (T : Txt K mg) (c_is_int : C8.Cal P w K mg base 1 "is_int" (spIsInt K) []) : C8.Cal P w K mg base 2 "is_from" (spIsFrom K) [] := by
  refine C8.cal0 F b .nil sc_is_from (fun vs H Q E h => ?_) (fun cdv A outer s H vs Q E hr h => ?_)
  · obtain ⟨x, l, rfl, h⟩ := h
    rfl
  · obtain ⟨x, l, rfl, h⟩ := h
    refine ⟨_, pss_one (ps_ret (pe_and (C8.pe_c c_is_int hr (by decide) rfl (pa_cons (pv 0) pa_nil)) (pe_one (pe_cmpR op_ge (pv 0) (pv 1) (nomark _))))), ?_⟩
    rcases h with ⟨i, rfl, q⟩ | ⟨hi, q⟩
    · walk_at "rd"
      refine ⟨_, true, rfl, isI_int K H i, ?_⟩
      walk_at "rd"
      exact q
    · walk_at "rd"
      refine ⟨_, false, rfl, hi, ?_⟩
      walk_at "rd"
      exact q
theorem ok_is_within {f : Addr} {fd : FuncData} (F : C8.Def K mg "is_within" s_is_within f fd) (b : Binds K fd ["value", "least", "greatest"] []) (T : Txt K mg) (c_is_int : C8.Cal P w K mg base 1 "is_int" (spIsInt K) []) : C8.Cal P w K mg base 2 "is_within" (spIsWithin K) [] := by
  refine C8.cal0 F b .nil sc_is_within (fun vs H Q E h => ?_) (fun cdv A outer s H vs Q E hr h => ?_)
  · obtain ⟨x, l, m, rfl, h⟩ := h
    rfl
  · obtain ⟨x, l, m, rfl, h⟩ := h
    refine ⟨_, pss_one (ps_ret (pe_and (C8.pe_c c_is_int hr (by decide) rfl (pa_cons (pv 0) pa_nil)) (pe_one (pe_chain op_le op_le (pv 1) (pv 0) (pv 2))))), ?_⟩
    rcases h with ⟨i, rfl, q⟩ | ⟨hi, q⟩
    · walk_at "rd"
      refine ⟨_, true, rfl, isI_int K H i, ?_⟩
      walk_at "rd"
      walk_at "rd"
      cases c1 : decide (l ≤ i) with
      | true =>
        rw [c1, Bool.true_and] at q
        walk_at "rd"
        exact q
      | false =>
        rw [c1, Bool.false_and] at q
        exact q
    · walk_at "rd"
      refine ⟨_, false, rfl, hi, ?_⟩
      walk_at "rd"
      exact q
theorem ok_require_number {f : Addr} {fd : FuncData} (F : C8.Def K mg "require_number" s_require_number f fd) (b : Binds K fd ["n"] []) (T : Txt K mg) (c_is_from : C8.Cal P w K mg base 2 "is_from" (spIsFrom K) []) : C8.Cal P w K mg base 3 "require_number" (spReqNum) [] := by
  refine C8.cal0 F b .nil sc_require_number (fun vs H Q E h => ?_) (fun cdv A outer s H vs Q E hr h => ?_)
  · obtain ⟨n, rfl, h0, q⟩ := h
    rfl
  · obtain ⟨n, rfl, h0, q⟩ := h
    refine ⟨_, pss_one (ps_if (pt_not (pt_val (C8.pe_c c_is_from hr (by decide) rfl (pa_cons (pv 0) (pa_cons pe_int pa_nil))))) (pss_one (ps_never)) (pss_nil)), ?_⟩
    walk_at "rd"
    rw [decide_eq_true h0]
    walk_at "rd"
    exact q
theorem ok_require_start {f : Addr} {fd : FuncData} (F : C8.Def K mg "require_start" s_require_start f fd) (b : Binds K fd ["start"] []) (T : Txt K mg) (c_is_from : C8.Cal P w K mg base 2 "is_from" (spIsFrom K) []) : C8.Cal P w K mg base 3 "require_start" (spReqStart) [] := by
  refine C8.cal0 F b .nil sc_require_start (fun vs H Q E h => ?_) (fun cdv A outer s H vs Q E hr h => ?_)
  · obtain ⟨n, rfl, h0, q⟩ := h
    rfl
  · obtain ⟨n, rfl, h0, q⟩ := h
    refine ⟨_, pss_one (ps_if (pt_not (pt_val (C8.pe_c c_is_from hr (by decide) rfl (pa_cons (pv 0) (pa_cons pe_int pa_nil))))) (pss_one (ps_never)) (pss_nil)), ?_⟩
    walk_at "rd"
    rw [decide_eq_true h0]
    walk_at "rd"
    exact q
theorem ok_is_word {f : Addr} {fd : FuncData} (F : C8.Def K mg "is_word" s_is_word f fd) (b : Binds K fd ["value", "words"] []) (T : Txt K mg) : C8.Cal P w K mg base 1 "is_word" (spIsWord K) [] := by
  refine C8.cal0 F b .nil sc_is_word (fun vs H Q E h => ?_) (fun cdv A outer s H vs Q E hr h => ?_)
  · obtain ⟨x, p, l, rfl, hp, h⟩ := h
    rfl
  · obtain ⟨x, p, l, rfl, hp, h⟩ := h
    refine ⟨_, pss_one (ps_ret (pe_and (pe_callB (call_isi) rfl T.b_isinstance boot_isinstance (pa_cons (pv 0) (pa_cons (pe_bltn (v := .ty "str") rfl T.b_str boot_str rfl) pa_nil))) (pe_one (pe_cmpR op_in_seq (pv 0) (pv 1) (by with_unfolding_all rfl))))), ?_⟩
    rcases h with ⟨s, rfl, q⟩ | ⟨⟨t, ty, kt⟩, q⟩
    · walk_at "rd"
      refine ⟨_, .ty "str", _, _, true, rfl, .ty "str", .base (.str s), kit_ty (by decide +kernel), ?_⟩
      walk_at "rd"
      refine ⟨p, _, rfl, .inr hp, rfl, ?_, ?_⟩
      · rw [List.all_map]
        exact List.all_eq_true.mpr fun _ _ => rfl
      · show Q (.bl (inV (.str s) (l.map V.str))) H
        rw [inV_str]
        exact q
    · walk_at "rd"
      refine ⟨_, .ty "str", t, _, false, rfl, .ty "str", ty, kt, ?_⟩
      walk_at "rd"
      exact q
theorem ok_possible_tellings {f : Addr} {fd : FuncData} (F : C8.Def K mg "possible_tellings" s_possible_tellings f fd) (b : Binds K fd ["stop"] []) (T : Txt K mg) : C8.Cal P w K mg base 1 "possible_tellings" (spTellings K) [] := by
  refine C8.cal0 F b .nil sc_possible_tellings (fun vs H Q E h => ?_) (fun cdv A outer s H vs Q E hr h => ?_)
  · obtain ⟨stop, rfl, q⟩ := h
    rfl
  · obtain ⟨stop, rfl, q⟩ := h
    obtain ⟨a_LOOKS, g_LOOKS, t_LOOKS⟩ := T.c_LOOKS
    obtain ⟨a_TELLINGS, g_TELLINGS, t_TELLINGS⟩ := T.c_TELLINGS
    refine ⟨_, pss_one (ps_ret (pe_ifExp (pt_cmpR op_in_seq (pv 0) (pe_glob (v := .ref a_LOOKS) rfl g_LOOKS rfl) (by with_unfolding_all rfl)) (pe_tup (pa_cons pe_str pa_nil)) (pe_glob (v := .ref a_TELLINGS) rfl g_TELLINGS rfl))), ?_⟩
    walk_at "rd"
    refine ⟨a_LOOKS, looks.map V.str, rfl, .inr (t_LOOKS H), rfl, rfl, ?_⟩
    walk_at "rd"
    refine ite2 (fun c => ?_) (fun c => ?_)
    · have c2 : inV (.str stop) (looks.map V.str) = true := c
      rw [inV_str] at c2
      refine ⟨(by show 1 ≤ sizeLine; decide), fun p hp => q p _ (same_new hp _) ?_⟩
      unfold tellingsOf
      rw [if_pos (of_decide_eq_true c2)]
      exact SqT.of upd_same
    · have c2 : inV (.str stop) (looks.map V.str) = false := Bool.eq_false_iff.mpr c
      rw [inV_str] at c2
      refine q _ H (Same.refl H) ?_
      unfold tellingsOf
      rw [if_neg (of_decide_eq_false c2)]
      exact t_TELLINGS H
theorem ok_is_loop_power {f : Addr} {fd : FuncData} (F : C8.Def K mg "is_loop_power" s_is_loop_power f fd) (b : Binds K fd ["k"] []) (T : Txt K mg) (c_is_within : C8.Cal P w K mg base 2 "is_within" (spIsWithin K) []) : C8.Cal P w K mg base 3 "is_loop_power" (spIsLP K) [] := by
  refine C8.cal0 F b .nil sc_is_loop_power (fun vs H Q E h => ?_) (fun cdv A outer s H vs Q E hr h => ?_)
  · obtain ⟨x, rfl, h⟩ := h
    rfl
  · obtain ⟨x, rfl, h⟩ := h
    refine ⟨_, pss_one (ps_ret (C8.pe_c c_is_within hr (by decide) rfl (pa_cons (pv 0) (pa_cons pe_int (pa_cons pe_int pa_nil))))), ?_⟩
    walk_at "rd"
    rcases h with ⟨i, rfl, q⟩ | ⟨hi, q⟩
    · exact .inl ⟨i, rfl, q⟩
    · exact .inr ⟨hi, q⟩
theorem ok_greatest_c {f : Addr} {fd : FuncData} (F : C8.Def K mg "greatest_c" s_greatest_c f fd) (b : Binds K fd ["k", "a"] []) (T : Txt K mg) : C8.Cal P w K mg base 1 "greatest_c" (spGreatC) [] := by
  refine C8.cal0 F b .nil sc_greatest_c (fun vs H Q E h => ?_) (fun cdv A outer s H vs Q E hr h => ?_)
  · obtain ⟨k, a, rfl, k2, k4, a1, a5, q⟩ := h
    rfl
  · obtain ⟨k, a, rfl, k2, k4, a1, a5, q⟩ := h
    refine ⟨_, pss_one (ps_ret (pe_callB (call_min2 rfl) rfl T.b_min boot_min (pa_cons (pe_op op_fdiv (pv 1) (pe_op op_sub (pv 0) pe_int)) (pa_cons (pe_op op_sub (C8.pe_gc rfl T.c_MOST_WEIGHT) (pv 1)) pa_nil)))), ?_⟩
    walk_at "rd"
    refine ⟨⟨by omega, by omega⟩, ?_⟩
    walk_at "rd"
    exact q
theorem ok_wrong_part_ok {f : Addr} {fd : FuncData} (F : C8.Def K mg "wrong_part" s_wrong_part f fd) (b : Binds K fd ["k", "a", "c", "d", "stop", "told", "mend"] []) (T : Txt K mg) (c_is_loop_power : C8.Cal P w K mg base 3 "is_loop_power" (spIsLP K) []) (c_is_within : C8.Cal P w K mg base 2 "is_within" (spIsWithin K) []) (c_is_word : C8.Cal P w K mg base 1 "is_word" (spIsWord K) []) (c_greatest_c : C8.Cal P w K mg base 1 "greatest_c" (spGreatC) []) (c_possible_tellings : C8.Cal P w K mg base 1 "possible_tellings" (spTellings K) []) : C8.Cal P w K mg base 4 "wrong_part" (spWrongOk) [] := by
  refine C8.cal0 F b .nil sc_wrong_part (fun vs H Q E h => ?_) (fun cdv A outer s H vs Q E hr h => ?_)
  · obtain ⟨L, rfl, ok, q⟩ := h
    rfl
  · obtain ⟨L, rfl, ok, q⟩ := h
    obtain ⟨a_MENDS, g_MENDS, t_MENDS⟩ := T.c_MENDS
    obtain ⟨a_STOPS, g_STOPS, t_STOPS⟩ := T.c_STOPS
    refine ⟨_, pss_cons (ps_if (pt_not (pt_val (C8.pe_c c_is_loop_power hr (by decide) rfl (pa_cons (pv 0) pa_nil)))) (pss_one (ps_ret pe_str)) (pss_nil))
      (pss_cons (ps_if (pt_not (pt_val (C8.pe_c c_is_within hr (by decide) rfl (pa_cons (pv 1) (pa_cons pe_int (pa_cons (pe_op op_sub (C8.pe_gc rfl T.c_MOST_WEIGHT) pe_int) pa_nil)))))) (pss_one (ps_ret pe_str)) (pss_nil))
      (pss_cons (ps_if (pt_not (pt_val (C8.pe_c c_is_within hr (by decide) rfl (pa_cons (pv 2) (pa_cons pe_int (pa_cons (C8.pe_c c_greatest_c hr (by decide) rfl (pa_cons (pv 0) (pa_cons (pv 1) pa_nil))) pa_nil)))))) (pss_one (ps_ret pe_str)) (pss_nil))
      (pss_cons (ps_if (pt_not (pt_val (C8.pe_c c_is_within hr (by decide) rfl (pa_cons (pv 3) (pa_cons (pe_un un_neg (pv 1)) (pa_cons (pe_op op_add (pv 1) (pv 2)) pa_nil)))))) (pss_one (ps_ret pe_str)) (pss_nil))
      (pss_cons (ps_if (pt_not (pt_val (C8.pe_c c_is_word hr (by decide) rfl (pa_cons (pv 4) (pa_cons (pe_glob (v := .ref a_STOPS) rfl g_STOPS rfl) pa_nil))))) (pss_one (ps_ret pe_str)) (pss_nil))
      (pss_cons (ps_if (pt_not (pt_val (C8.pe_c c_is_word hr (by decide) rfl (pa_cons (pv 5) (pa_cons (C8.pe_c c_possible_tellings hr (by decide) rfl (pa_cons (pv 4) pa_nil)) pa_nil))))) (pss_one (ps_ret pe_str)) (pss_nil))
      (pss_cons (ps_if (pt_not (pt_val (C8.pe_c c_is_word hr (by decide) rfl (pa_cons (pv 6) (pa_cons (pe_glob (v := .ref a_MENDS) rfl g_MENDS rfl) pa_nil))))) (pss_one (ps_ret pe_str)) (pss_nil))
      (pss_one (ps_ret pe_non)))))))), ?_⟩
    have k2 := ok.k2
    have k4 := ok.k4
    have a1 := ok.a1
    have c1 := ok.c1
    have ca := ok.ca
    have m6 := ok.m6
    have d0 := ok.d0
    have d1 := ok.d1
    walk_at "rd"
    rw [decide_eq_true k2, decide_eq_true k4]
    walk_at "rd"
    rw [decide_eq_true a1, decide_eq_true (show L.a ≤ 6 - 1 by omega)]
    walk_at "rd"
    refine ⟨by omega, by omega, by omega, by omega, ?_⟩
    walk_at "rd"
    have hc : L.c ≤ (if 6 - L.a < L.a / (L.k - 1) then 6 - L.a else L.a / (L.k - 1)) := by
      split
      · omega
      · exact Int.le_ediv_of_mul_le (by omega) ca
    rw [decide_eq_true c1, decide_eq_true hc]
    walk_at "rd"
    rw [decide_eq_true d0, decide_eq_true d1]
    walk_at "rd"
    refine ⟨_, a_STOPS, stops, rfl, t_STOPS H, .inl ⟨L.stop, rfl, ?_⟩⟩
    rw [decide_eq_true ok.st]
    walk_at "rd"
    intro p H1 m1 s1
    refine ⟨_, p, _, rfl, s1, .inl ⟨L.told, rfl, ?_⟩⟩
    rw [decide_eq_true ok.told_ok]
    walk_at "rd"
    refine ⟨_, a_MENDS, mendings, rfl, t_MENDS H1, .inl ⟨L.mend, rfl, ?_⟩⟩
    rw [decide_eq_true ok.me]
    walk_at "rd"
    exact q H1 m1
theorem ok_Average___init___ok {f : Addr} {fd : FuncData} {C_Average : Addr} (F : C8.Fun K "__init__" "Average.__init__" s_Average___init__ f fd) (b : Binds K fd ["self", "k", "a", "c", "d", "stop", "told", "mend"] []) (M : Mk K C_Average f) (hm : mg "Average" = some (.ref C_Average)) (T : Txt K mg) (A_ : AvgTxt K C_Average) (c_wrong_part : C8.Cal P w K mg base 4 "wrong_part" (spWrongOk) []) : C8.Mak P w K mg base 5 "Average" C_Average (spAvgInit C_Average) [] := by
  refine C8.mak0 M hm F b .nil sc_Average___init__ (fun vs H Q E h => ?_) (fun cdv A outer s H vs Q E hr h => ?_)
  · obtain ⟨x, dx, L, rfl, ok, hx, q⟩ := h
    rfl
  · obtain ⟨x, dx, L, rfl, ok, hx, q⟩ := h
    refine ⟨_, pss_cons (ps_set (i := 8) sc_Average___init__.nd rfl (Or.inl rfl) (C8.pe_c c_wrong_part hr (by decide) rfl (pa_cons (pv 1) (pa_cons (pv 2) (pa_cons (pv 3) (pa_cons (pv 4) (pa_cons (pv 5) (pa_cons (pv 6) (pa_cons (pv 7) pa_nil)))))))))
      (pss_cons (ps_if (pt_cmpR op_notN (pv 8) pe_non (nomark _)) (pss_one (ps_never)) (pss_nil))
      (pss_cons (ps_fld (pv 0) (pv 1) rfl)
      (pss_cons (ps_fld (pv 0) (pv 2) rfl)
      (pss_cons (ps_fld (pv 0) (pv 3) rfl)
      (pss_cons (ps_fld (pv 0) (pv 4) rfl)
      (pss_cons (ps_fld (pv 0) (pv 5) rfl)
      (pss_cons (ps_fld (pv 0) (pv 6) rfl)
      (pss_one (ps_fld (pv 0) (pv 7) rfl))))))))), ?_⟩
    walk_at "rd"
    refine ⟨ok, fun H1 s1 => ?_⟩
    walk_at "rd"
    have l1 := putF_len "k" (.int L.k) []
    have l2 := putF_len "a" (.int L.a) (putF "k" (.int L.k) [])
    have l3 := putF_len "c" (.int L.c) (putF "a" (.int L.a) (putF "k" (.int L.k) []))
    have l4 := putF_len "d" (.int L.d) (putF "c" (.int L.c) (putF "a" (.int L.a) (putF "k" (.int L.k) [])))
    have l5 := putF_len "stop" (.str L.stop) (putF "d" (.int L.d) (putF "c" (.int L.c) (putF "a" (.int L.a) (putF "k" (.int L.k) []))))
    have l6 := putF_len "told" (.str L.told) (putF "stop" (.str L.stop) (putF "d" (.int L.d) (putF "c" (.int L.c) (putF "a" (.int L.a) (putF "k" (.int L.k) [])))))
    have l0 : ([] : List (Str × V)).length = 0 := rfl
    refine ⟨x, C_Average, dx, _, rfl, s1 _ _ hx, A_.cl, A_.nk, by omega, ?_⟩
    walk_at "rd"
    refine ⟨x, C_Average, dx, _, rfl, upd_same, A_.cl, A_.na, by omega, ?_⟩
    walk_at "rd"
    refine ⟨x, C_Average, dx, _, rfl, upd_same, A_.cl, A_.nc, by omega, ?_⟩
    walk_at "rd"
    refine ⟨x, C_Average, dx, _, rfl, upd_same, A_.cl, A_.nd, by omega, ?_⟩
    walk_at "rd"
    refine ⟨x, C_Average, dx, _, rfl, upd_same, A_.cl, A_.ns, by omega, ?_⟩
    walk_at "rd"
    refine ⟨x, C_Average, dx, _, rfl, upd_same, A_.cl, A_.nt, by omega, ?_⟩
    walk_at "rd"
    refine ⟨x, C_Average, dx, _, rfl, upd_same, A_.cl, A_.nm, by omega, ?_⟩
    exact q _ ⟨dx, upd_same⟩ ((Same.but s1).trans ((but_upd _ _ _).trans ((but_upd _ _ _).trans ((but_upd _ _ _).trans ((but_upd _ _ _).trans ((but_upd _ _ _).trans ((but_upd _ _ _).trans (but_upd _ _ _))))))))

theorem ok_power {f : Addr} {fd : FuncData} (F : C8.Def K mg "power" s_power f fd) (b : Binds K fd ["base", "k"] []) (T : Txt K mg) {n : Nat} (c_power : C8.Cal P w K mg base n "power" (spPow n) []) : C8.Cal P w K mg base (n + 1) "power" (spPow (n + 1)) [] := by
  refine C8.cal0 F b .nil sc_power (fun vs H Q E h => ?_) (fun cdv A outer s H vs Q E hr h => ?_)
  · obtain ⟨x, e, b', rfl, he, hen, hx, hb, hl, hk, q⟩ := h
    rfl
  · obtain ⟨x, e, b', rfl, he, hen, hx, hb, hl, hk, q⟩ := h
    refine ⟨_, pss_cons (ps_if (pt_cmpR op_eq (pv 1) pe_int (nomark _)) (pss_one (ps_ret pe_int)) (pss_nil))
      (pss_cons (ps_set (i := 2) sc_power.nd rfl (Or.inl rfl) (C8.pe_c c_power hr (Nat.le_refl _) rfl (pa_cons (pv 0) (pa_cons (pe_op op_fdiv (pv 1) pe_int) pa_nil))))
      (pss_one (ps_ret (pe_ifExp (pt_truth (pe_op op_odd (pv 1) pe_int) (fun _ => rfl)) (pe_op op_mulW (pe_op op_mulW (pv 2) (pv 2)) (pv 0)) (pe_op op_mulW (pv 2) (pv 2)))))), ?_⟩
    walk_at "rd"

    by_cases h0 : e = 0
    · subst h0
      have ht : decide (V.int 0 = V.int 0) = true := decide_eq_true rfl
      have q' : Q (.int 1) H := by
        have e : x ^ Int.toNat 0 = 1 := Int.pow_zero x
        rw [e] at q
        exact q
      rw [ht]
      exact q'
    · have hne : decide (V.int e = V.int 0) = false := decide_eq_false fun z => h0 (V.int.inj z)
      rw [hne]
      walk_at "rd"
      refine ⟨⟨by decide, by decide⟩, ?_⟩
      have hh : (e / 2).toNat = e.toNat / 2 := by omega
      have hp : (e.toNat / 2 + 1) * b' ≤ (e.toNat + 1) * b' := Nat.mul_le_mul_right _ (by omega)
      refine ⟨x, e / 2, b', rfl, by omega, by omega, hx, hb, by rw [hh]; omega, by omega, ?_⟩
      have s1 : Sz (x ^ (e / 2).toNat) (e.toNat / 2 * b' + 1) := by
        rw [hh]
        exact Sz.pow hx hb _
      have hm : 2 * (e.toNat / 2 * b') ≤ e.toNat * b' := by
        rw [← Nat.mul_assoc]
        exact Nat.mul_le_mul_right _ (by omega)
      rw [Nat.succ_mul] at hl
      have e1 : x ^ (e / 2).toNat * x ^ (e / 2).toNat = x ^ ((e / 2).toNat + (e / 2).toNat) := (Int.pow_add _ _ _).symm
      walk_at "rd"
      refine ⟨e.toNat, by rw [Int.toNat_of_nonneg he], rfl, ?_⟩
      rcases Nat.mod_two_eq_zero_or_one e.toNat with h2 | h2
      · rw [h2]
        walk_at "rd"
        refine ⟨s1.w s1 (by omega), ?_⟩
        show Q (.int (x ^ (e / 2).toNat * x ^ (e / 2).toNat)) H
        rw [e1, show (e / 2).toNat + (e / 2).toNat = e.toNat by omega]
        exact q
      · rw [h2]
        walk_at "rd"
        refine ⟨s1.w s1 (by omega), ?_⟩
        walk_at "rd"
        refine ⟨(Sz.mul s1 s1).w hx (by omega), ?_⟩
        show Q (.int (x ^ (e / 2).toNat * x ^ (e / 2).toNat * x)) H
        rw [e1, ← Int.pow_succ, show ((e / 2).toNat + (e / 2).toNat).succ = e.toNat by omega]
        exact q
theorem all_power {f : Addr} {fd : FuncData} (F : C8.Def K mg "power" s_power f fd) (b : Binds K fd ["base", "k"] []) (T : Txt K mg) : ∀ n : Nat, C8.Cal P w K mg base n "power" (spPow n) []
  | 0 => ⟨f, fd, ["base", "k"], [], ⟨fun vs H Q E h => by
      obtain ⟨x, e, b', rfl, _⟩ := h
      rfl, fun A outer s H args us vs Q E _ _ _ _ h => by
      obtain ⟨x, e, b', _, _, hen, _⟩ := h
      exact absurd hen (Nat.not_lt_zero _)⟩, F.mgf, F.kp, b, .nil⟩
  | n + 1 => ok_power F b T (all_power F b T n)

theorem ok_next_guess {f : Addr} {fd : FuncData} {C_Average : Addr} (F : C8.Def K mg "next_guess" s_next_guess f fd) (b : Binds K fd ["loop", "n", "x"] []) (T : Txt K mg) (A_ : AvgTxt K C_Average) (c_power : C8.Cal P w K mg base 5 "power" (spPow 5) []) : C8.Cal P w K mg base 6 "next_guess" (spNext C_Average) [] := by
  refine C8.cal0 F b .nil sc_next_guess (fun vs H Q E h => ?_) (fun cdv A outer s H vs Q E hr h => ?_)
  · obtain ⟨p, L, n, x, b', rfl, ⟨dx, hp⟩, ok, h0, h1, hx, hb, hb2, q⟩ := h
    rfl
  · obtain ⟨p, L, n, x, b', rfl, ⟨dx, hp⟩, ok, h0, h1, hx, hb, hb2, q⟩ := h
    refine ⟨_, pss_cons (ps_set (i := 3) sc_next_guess.nd rfl (Or.inl rfl) (pe_op op_fdivW (pv 1) (C8.pe_c c_power hr (by decide) rfl (pa_cons (pv 2) (pa_cons (pe_op op_sub (pe_fld (pv 0) rfl) pe_int) pa_nil)))))
      (pss_one (ps_ret (pe_op op_fdiv (pe_op op_add (pe_op op_add (pe_op op_mul (pe_fld (pv 0) rfl) (pv 2)) (pe_op op_mul (pe_fld (pv 0) rfl) (pv 3))) (pe_fld (pv 0) rfl)) (pe_op op_add (pe_fld (pv 0) rfl) (pe_fld (pv 0) rfl))))), ?_⟩
    have k2 := ok.k2
    have k4 := ok.k4
    have a1 := ok.a1
    have c1 := ok.c1
    have m6 := ok.m6
    have hk : (L.k - 1).toNat ≤ 3 := by omega
    have hm : ((L.k - 1).toNat + 1) * b' ≤ 4 * b' := Nat.mul_le_mul_right _ (by omega)
    have hm2 : (L.k - 1).toNat * b' ≤ 3 * b' := Nat.mul_le_mul_right _ hk
    walk_at "rd"
    refine ⟨p, _, dx, _, _, rfl, hp, A_.cl, A_.nk, avgF_k L, ?_⟩
    walk_at "rd"
    refine ⟨x, L.k - 1, b', rfl, by omega, by omega, hx, hb, by omega, by omega, ?_⟩
    walk_at "rd"
    have hpw : 0 < x ^ (L.k - 1).toNat := Int.pow_pos (by omega)
    refine ⟨Sz.d _ hpw (Sz.pow hx hb _) (by omega), ?_⟩
    walk_at "rd"
    refine ⟨p, _, dx, _, _, rfl, hp, A_.cl, A_.na, avgF_a L, ?_⟩
    walk_at "rd"
    refine ⟨.inl ⟨by omega, by omega⟩, ?_⟩
    walk_at "rd"
    refine ⟨p, _, dx, _, _, rfl, hp, A_.cl, A_.nc, avgF_c L, ?_⟩
    walk_at "rd"
    refine ⟨.inl ⟨by omega, by omega⟩, ?_⟩
    walk_at "rd"
    refine ⟨p, _, dx, _, _, rfl, hp, A_.cl, A_.nd, avgF_d L, ?_⟩
    walk_at "rd"
    refine ⟨p, _, dx, _, _, rfl, hp, A_.cl, A_.na, avgF_a L, ?_⟩
    walk_at "rd"
    refine ⟨p, _, dx, _, _, rfl, hp, A_.cl, A_.nc, avgF_c L, ?_⟩
    walk_at "rd"
    refine ⟨⟨by omega, by omega⟩, ?_⟩
    exact q
theorem ok_Average_step_ok {f : Addr} {fd : FuncData} {C_Average : Addr} (F : C8.Fun K "step" "Average.step" s_Average_step f fd) (b : Binds K fd ["self", "n", "x"] []) (cl : Cls K C_Average) (me : Meth K C_Average "step" f) (T : Txt K mg) (c_require_number : C8.Cal P w K mg base 3 "require_number" (spReqNum) []) (c_require_start : C8.Cal P w K mg base 3 "require_start" (spReqStart) []) (c_next_guess : C8.Cal P w K mg base 6 "next_guess" (spNext C_Average) []) : C8.Met P w K mg base 7 C_Average "step" (spNext C_Average) [] := by
  refine C8.met0 cl me F b sc_Average_step (fun vs H Q E h => ?_) (fun cdv A outer s H vs Q E hr h => ?_)
  · obtain ⟨p, L, n, x, b', rfl, hA, ok, h0, h1, hx, hb, hb2, q⟩ := h
    rfl
  · obtain ⟨p, L, n, x, b', rfl, hA, ok, h0, h1, hx, hb, hb2, q⟩ := h
    refine ⟨_, pss_cons (ps_expr (C8.pe_c c_require_number hr (by decide) rfl (pa_cons (pv 1) pa_nil)))
      (pss_cons (ps_expr (C8.pe_c c_require_start hr (by decide) rfl (pa_cons (pv 2) pa_nil)))
      (pss_one (ps_ret (C8.pe_c c_next_guess hr (by decide) rfl (pa_cons (pv 0) (pa_cons (pv 1) (pa_cons (pv 2) pa_nil))))))), ?_⟩
    walk_at "rd"
    refine ⟨h0, ?_⟩
    walk_at "rd"
    refine ⟨h1, ?_⟩
    walk_at "rd"
    exact ⟨p, L, n, x, b', rfl, hA, ok, h0, h1, hx, hb, hb2, q⟩


theorem ok_Lturn {f : Addr} {fd : FuncData} (F : C8.Def K mg "_law_turn" s_Lturn f fd) (b : Binds K fd ["_law_k", "_law_floor", "_law_i", "_law_j"] []) (T : Txt K mg) (c_Lpower : C8.Cal P w K mg base 1 "_law_power" (spLPow) []) : C8.Cal P w K mg base 2 "_law_turn" (spTurn) [] := by
  refine C8.cal0 F b .nil sc_Lturn (fun vs H Q E h => ?_) (fun cdv A outer s H vs Q E hr h => ?_)
  · obtain ⟨k, r, i, j, b', rfl, k2, k4, h1, h2, h3, hb, hb2, q⟩ := h
    rfl
  · obtain ⟨k, r, i, j, b', rfl, k2, k4, h1, h2, h3, hb, hb2, q⟩ := h
    refine ⟨_, pss_one (ps_ret (pe_op op_sub (pe_op op_mulW (C8.pe_c c_Lpower hr (by decide) rfl (pa_cons (pe_op op_add (pv 1) (pv 2)) (pa_cons (pe_op op_sub (pv 0) pe_int) pa_nil))) (pe_op op_add (pe_op op_sub (pv 1) (pe_op op_mul (pe_op op_sub (pv 0) pe_int) (pv 2))) (pv 3))) (C8.pe_c c_Lpower hr (by decide) rfl (pa_cons (pv 1) (pa_cons (pv 0) pa_nil))))), ?_⟩
    have m4 : ((k - 1).toNat + 1) * b' ≤ 4 * b' := Nat.mul_le_mul_right _ (by omega)
    have m5 : (k.toNat + 1) * b' ≤ 5 * b' := Nat.mul_le_mul_right _ (by omega)
    have m3 : (k - 1).toNat * b' ≤ 3 * b' := Nat.mul_le_mul_right _ (by omega)
    walk_at "rd"
    refine ⟨r + i, k - 1, b', rfl, by omega, h1, hb, by omega, by omega, ?_⟩
    walk_at "rd"
    refine ⟨.inl ⟨by omega, by omega⟩, ?_⟩
    walk_at "rd"
    refine ⟨(Sz.pow h1 hb _).w h3 (by omega), ?_⟩
    walk_at "rd"
    refine ⟨r, k, b', rfl, by omega, h2, hb, by omega, by omega, ?_⟩
    walk_at "rd"
    exact q
theorem ok_law {f : Addr} {fd : FuncData} {C_Average : Addr} (F : C8.Fun K "law" "law" s_law f fd) (T : Txt K mg) (A_ : AvgTxt K C_Average) (c_Lstream : C8.Cal P w K mg base 1 "_law_stream" (spStream K) []) (c_Lparts : C8.Cal P w K mg base 3 "_law_parts" (spParts) []) (c_Lpower : C8.Cal P w K mg base 1 "_law_power" (spLPow) []) (c_Ldraw : C8.Cal P w K mg base 1 "_law_draw" (spDraw) []) (c_Lturn : C8.Cal P w K mg base 2 "_law_turn" (spTurn) []) (c_Lpick : C8.Cal P w K mg base 2 "_law_pick" (spPick K) []) (m_Average : C8.Mak P w K mg base 5 "Average" C_Average (spAvgInit C_Average) []) (k_step : C8.Met P w K mg base 7 C_Average "step" (spNext C_Average) []) : FnOk P w K mg base C8.CX0 8 f fd ["_law_script"] (spLaw K) := by
  refine C8.fn0 F sc_law (fun vs H Q E h => ?_) (fun cdv A outer s H vs Q E hr h => ?_)
  · obtain ⟨a, ns, rfl, hS, h63, q⟩ := h
    rfl
  · obtain ⟨a, ns, rfl, hS, h63, q⟩ := h
    refine ⟨_, pss_cons (ps_for PassesOwn.never rfl (pi_range1 rfl T.b_range (pa_cons pe_int pa_nil)) (pg_name (i := 1) sc_law.nd rfl (Or.inl rfl)) (pss_cons (ps_set (i := 2) sc_law.nd rfl (Or.inl rfl) (C8.pe_c c_Lstream hr (by decide) rfl (pa_cons (pv 0) (pa_cons (pv 1) pa_nil))))
        (pss_cons (ps_asg (C8.pe_c c_Lparts hr (by decide) rfl (pa_cons (pv 2) pa_nil)) (pg_tup rfl (pgs_cons (pg_name (i := 3) sc_law.nd rfl (Or.inl rfl)) (pgs_cons (pg_name (i := 4) sc_law.nd rfl (Or.inl rfl)) (pgs_cons (pg_name (i := 5) sc_law.nd rfl (Or.inl rfl)) (pgs_cons (pg_name (i := 6) sc_law.nd rfl (Or.inl rfl)) (pgs_cons (pg_name (i := 7) sc_law.nd rfl (Or.inl rfl)) (pgs_cons (pg_name (i := 8) sc_law.nd rfl (Or.inl rfl)) (pgs_cons (pg_name (i := 9) sc_law.nd rfl (Or.inl rfl)) (pgs_nil))))))))))
        (pss_cons (ps_set (i := 10) sc_law.nd rfl (Or.inl rfl) (C8.pe_mk m_Average hr (by decide) rfl (pa_cons (pv 3) (pa_cons (pv 4) (pa_cons (pv 5) (pa_cons (pv 6) (pa_cons (pv 7) (pa_cons (pv 8) (pa_cons (pv 9) pa_nil)))))))))
        (pss_cons (ps_set (i := 11) sc_law.nd rfl (Or.inl rfl) (pe_op op_add pe_int (pe_op op_mulW (C8.pe_c c_Ldraw hr (by decide) rfl (pa_cons (pv 2) (pa_cons pe_int pa_nil))) (C8.pe_c c_Lpick hr (by decide) rfl (pa_cons (pv 2) (pa_cons (pe_lst (pa_cons pe_int (pa_cons (pe_op op_pow pe_int pe_int) (pa_cons (pe_op op_pow pe_int pe_int) pa_nil)))) pa_nil))))))
        (pss_cons (ps_set (i := 12) sc_law.nd rfl (Or.inl rfl) (pe_op op_sub (C8.pe_c c_Lpower hr (by decide) rfl (pa_cons (pe_op op_add (pv 11) pe_int) (pa_cons (pv 3) pa_nil))) (C8.pe_c c_Lpower hr (by decide) rfl (pa_cons (pv 11) (pa_cons (pv 3) pa_nil)))))
        (pss_one (ps_for PassesOwn.never rfl (pi_range1 rfl T.b_range (pa_cons pe_int pa_nil)) (pg_name (i := 13) sc_law.nd rfl (Or.inl rfl)) (pss_cons (ps_set (i := 14) sc_law.nd rfl (Or.inl rfl) (pe_callB (call_max2 rfl) rfl T.b_max boot_max (pa_cons (pe_op op_sub pe_int (pv 11)) (pa_cons (C8.pe_c c_Lpick hr (by decide) rfl (pa_cons (pv 2) (pa_cons (pe_lst (pa_cons pe_int (pa_cons pe_int (pa_cons pe_int (pa_cons (pe_un un_neg pe_int) (pa_cons (pe_un un_neg pe_int) (pa_cons pe_int (pa_cons pe_int (pa_cons (pe_un un_neg pe_int) (pa_cons pe_int pa_nil)))))))))) pa_nil))) pa_nil))))
          (pss_cons (ps_set (i := 15) sc_law.nd rfl (Or.inl rfl) (C8.pe_c c_Ldraw hr (by decide) rfl (pa_cons (pv 2) (pa_cons (pe_op op_add (pv 3) pe_int) pa_nil))))
          (pss_cons (ps_set (i := 16) sc_law.nd rfl (Or.inl rfl) (C8.pe_c c_Lturn hr (by decide) rfl (pa_cons (pv 3) (pa_cons (pv 11) (pa_cons (pv 14) (pa_cons (pv 15) pa_nil))))))
          (pss_one (ps_for PassesOwn.never rfl (pi_list (pe_lst (pa_cons (pe_op op_sub (pv 16) pe_int) (pa_cons (pv 16) (pa_cons (pe_op op_add (pv 16) pe_int) (pa_cons pe_int (pa_cons (pe_op op_sub (pv 12) pe_int) (pa_cons (C8.pe_c c_Ldraw hr (by decide) rfl (pa_cons (pv 2) (pa_cons (pv 12) pa_nil))) pa_nil)))))))) (pg_name (i := 17) sc_law.nd rfl (Or.inl rfl)) (pss_cons (ps_set (i := 18) sc_law.nd rfl (Or.inl rfl) (pe_callB (call_max2 rfl) rfl T.b_max boot_max (pa_cons pe_int (pa_cons (pe_callB (call_min2 rfl) rfl T.b_min boot_min (pa_cons (pv 17) (pa_cons (pe_op op_sub (pv 12) pe_int) pa_nil))) pa_nil))))
            (pss_cons (ps_par (i := 19) (j := 20) rfl sc_law.nd rfl rfl (by decide) rfl rfl (pa_cons (pe_op op_add (C8.pe_c c_Lpower hr (by decide) rfl (pa_cons (pv 11) (pa_cons (pv 3) pa_nil))) (pv 18)) (pa_cons (pe_op op_add (pv 11) (pv 14)) pa_nil)) (by rfl))
            (pss_cons (ps_set (i := 21) sc_law.nd rfl (Or.inl rfl) (pe_op op_add (pe_op op_sub (pe_op op_fdivW (pv 19) (C8.pe_c c_Lpower hr (by decide) rfl (pa_cons (pv 20) (pa_cons (pe_op op_sub (pv 3) pe_int) pa_nil)))) (pv 11)) (pe_op op_mul (pe_op op_sub (pv 3) pe_int) (pv 14))))
            (pss_cons (ps_if (PW.pt (pw_or (pt_cmpR op_lt (pv 21) pe_int (nomark _)) (pw_or1 (pt_cmpR op_ne (pe_cmpR op_ge (pv 21) (pv 15) (nomark _)) (pe_cmpR op_ge (pv 18) (pv 16) (nomark _)) (nomark _))))) (pss_one (ps_ret pe_bl)) (pss_nil))
            (pss_cons (ps_set (i := 22) sc_law.nd rfl (Or.inl rfl) (pe_op op_fdiv (pe_op op_add (pe_op op_add (pe_op op_mul (pe_op op_sub (pv 4) (pe_op op_mul (pv 5) (pe_op op_sub (pv 3) pe_int))) (pv 14)) (pe_op op_mul (pv 5) (pv 21))) (pv 6)) (pe_op op_add (pv 4) (pv 5))))
            (pss_one (ps_if (pt_cmpR op_ne (C8.pe_mt k_step hr (by decide) (pv 10) (pa_cons (pv 19) (pa_cons (pv 20) pa_nil))) (pe_op op_add (pv 11) (pv 22)) (nomark _)) (pss_one (ps_ret pe_bl)) (pss_nil)))))))))))))))))))))
      (pss_one (ps_ret pe_bl)), ?_⟩
    walk_at "rd"
    refine ⟨by decide, by decide, ?_⟩
    refine for_range (n := 8) (fun i σ H' => ∃ v1 v2 v3 v4 v5 v6 v7 v8 v9 v10 v11 v12 v13 v14 v15 v16 v17 v18 v19 v20 v21 v22 : Option V, σ = [some (.ref a), v1, v2, v3, v4, v5, v6, v7, v8, v9, v10, v11, v12, v13, v14, v15, v16, v17, v18, v19, v20, v21, v22] ∧ Same H H') ⟨none, none, none, none, none, none, none, none, none, none, none, none, none, none, none, none, none, none, none, none, none, none, rfl, Same.refl H⟩ ?_ (fun σ H' ⟨_, _, _, _, _, _, _, _, _, _, _, _, _, _, _, _, _, _, _, _, _, _, _, _⟩ => q H')
    rintro i0 σ H0 hi0 ⟨v1, v2, v3, v4, v5, v6, v7, v8, v9, v10, v11, v12, v13, v14, v15, v16, v17, v18, v19, v20, v21, v22, rfl, m0⟩
    walk_at "rd"
    refine ⟨a, ns, i0, by rw [Int.zero_add] <;> rfl, m0.seq hS, h63, by omega, fun st H1 n1 m1 s1 => ?_⟩
    have nst : H st = none := m0.free n1
    walk_at "rd"
    refine ⟨st, 0, rfl, s1, by omega, fun pp H2 L n2 b2 s2 e2 ok => ?_⟩
    have k2 := ok.k2
    have k4 := ok.k4
    have a1 := ok.a1
    have c1 := ok.c1
    have m6 := ok.m6
    have hk3 : L.k = 2 ∨ L.k = 3 ∨ L.k = 4 := by omega
    refine ⟨pp, _, rfl, SqT.of e2, rfl, ?_⟩
    walk_at "rd"
    intro lp dx nlp ndx _
    refine ⟨lp, dx, L, rfl, ok, upd_same, fun H3 av3 b3 => ⟨rfl, ?_⟩⟩
    have m3 : Same H2 H3 := made_same nlp ndx b3
    have s3 := s2.same m3
    walk_at "rd"
    refine ⟨st, 10, 30, 5, rfl, s3, by omega, by decide, by decide, by decide, fun r4 H4 r40 r41 b4 s4 => ?_⟩
    walk_at "rd"
    refine ⟨⟨by decide, by decide, by decide⟩, ?_⟩
    walk_at "rd"
    refine ⟨⟨by decide, by decide, by decide⟩, ?_⟩
    refine ⟨(by show 3 ≤ sizeLine; decide), fun p5 n5 => ?_⟩
    refine ⟨st, 11, p5, _, rfl, s4.same (same_new n5 _), by omega, s4.ne n5, SqL.of upd_same, List.cons_ne_nil _ _, (by show 3 ≤ 1000; decide), fun v6 H6 hv6 b6 s6 => ?_⟩
    obtain ⟨g, rfl, g0, g1⟩ : ∃ g : Int, v6 = .int g ∧ 1 ≤ g ∧ Sz g 110 := by
      simp only [List.mem_cons, List.not_mem_nil, or_false] at hv6
      rcases hv6 with rfl | rfl | rfl
      · exact ⟨_, rfl, by decide, by decide⟩
      · exact ⟨_, rfl, by decide, by decide⟩
      · exact ⟨_, rfl, by decide, by decide⟩
    walk_at "rd"
    have sr4 : Sz r4 5 := Sz.mk (by omega) (by omega)
    refine ⟨Sz.w sr4 g1 (by decide), ?_⟩
    have r4g : 0 ≤ r4 * g := Int.mul_nonneg r40 (by omega)
    have sr0 : Sz (1 + r4 * g) 116 := Sz.add (Sz.mono (show Sz 1 115 by decide) (by decide)) (Sz.mul sr4 g1)
    walk_at "rd"
    dsimp (config := { proj := false }) only
    generalize hr : 1 + r4 * g = r at *
    have r1 : 1 ≤ r := by omega
    have sr1 : Sz (r + 1) 117 := Sz.add sr0 (by decide)
    have hk5 : (L.k.toNat + 1) * 117 ≤ 5 * 117 := Nat.mul_le_mul_right _ (by omega)
    have sP1 : Sz ((r + 1) ^ L.k.toNat) 600 := (Sz.pow sr1 (by decide) _).mono (by omega)
    have sP0 : Sz (r ^ L.k.toNat) 600 := (Sz.pow (sr0.mono (show 116 ≤ 117 by decide)) (by decide) _).mono (by omega)
    refine ⟨r + 1, L.k, 117, rfl, by omega, sr1, by decide, by omega, by omega, ?_⟩
    walk_at "rd"
    refine ⟨r, L.k, 117, rfl, by omega, sr0.mono (by decide), by decide, by omega, by omega, ?_⟩
    walk_at "rd"
    dsimp (config := { proj := false }) only
    have hend : 1 ≤ (r + 1) ^ L.k.toNat - r ^ L.k.toNat := by
      have := pow_lt_succ (k := L.k.toNat) (r := r) (by omega) (by omega)
      omega
    have hpos : 0 ≤ r ^ L.k.toNat := Int.pow_nonneg (by omega)
    generalize hE : (r + 1) ^ L.k.toNat - r ^ L.k.toNat = eN at *
    have sE : Sz eN 601 := by
      rw [← hE]
      exact Sz.sub sP1 sP0
    refine ⟨by decide, by decide, ?_⟩
    have nls : lp ≠ st := s2.ne nlp
    have m6' : Same H H6 := Same.keep (Same.trans (Same.keep (Same.trans (Same.keep (Same.trans m0 m1) nst b2) m3) nst b4) (same_new n5 _)) nst b6 --.trans m3).keep nst b4).trans (same_new n5 _)).keep nst b6
    have av6 : AvgAt C_Average H6 lp L := ((av3.but b4 nls).same (same_new n5 _)).but b6 nls
    refine for_range (n := 6) (fun j σ G => ∃ u13 u14 u15 u16 u17 u18 u19 u20 u21 u22 : Option V, σ = [some (.ref a), some (.int (0 + i0)), some (.ref st), some (.int L.k), some (.int L.a), some (.int L.c), some (.int L.d), some (.str L.stop), some (.str L.told), some (.str L.mend), some (.ref lp), some (.int r), some (.int eN), u13, u14, u15, u16, u17, u18, u19, u20, u21, u22] ∧ Same H G ∧ StrAt G st (12 + 3 * j) ∧ AvgAt C_Average G lp L) ⟨v13, v14, v15, v16, v17, v18, v19, v20, v21, v22, rfl, m6', s6, av6⟩ ?_ ?_
    · rintro j0 σ G hj0 ⟨u13, u14, u15, u16, u17, u18, u19, u20, u21, u22, rfl, mG, sG, aG⟩
      walk_at "rd"
      refine ⟨(by show 9 ≤ sizeLine; decide), fun p7 n7 => ?_⟩
      refine ⟨st, _, p7, _, rfl, sG.same (same_new n7 _), by omega, sG.ne n7, SqL.of upd_same, List.cons_ne_nil _ _, (by show 9 ≤ 1000; decide), fun v8 G8 hv8 b8 s8 => ?_⟩
      obtain ⟨i', rfl, i'0, i'1⟩ : ∃ g : Int, v8 = .int g ∧ -5 ≤ g ∧ g ≤ 100 := by
        simp only [List.mem_cons, List.not_mem_nil, or_false] at hv8
        rcases hv8 with rfl | rfl | rfl | rfl | rfl | rfl | rfl | rfl | rfl <;> exact ⟨_, rfl, by decide, by decide⟩
      walk_at "rd"
      dsimp (config := { proj := false }) only
      clear hv8
      generalize hi : (if i' > 1 - r then i' else 1 - r) = i at *
      have i1 : 1 ≤ r + i := by rw [← hi]; split <;> omega
      have i2 : -5 ≤ i := by rw [← hi]; split <;> omega
      have i3 : i ≤ 100 := by rw [← hi]; split <;> omega
      refine ⟨st, _, L.k + 2, 3, rfl, s8, by omega, by omega, Sz.mk (by omega) (by omega), by decide, fun j G9 j90 j91 b9 s9 => ?_⟩
      have ub := sr0.ub
      have sX : Sz (r + i) 119 := Sz.mk (by omega) (by omega)
      have sY : Sz (r - (L.k - 1) * i + j) 119 := by
        have hm : -15 ≤ (L.k - 1) * i ∧ (L.k - 1) * i ≤ 300 := by
          rcases hk3 with h | h | h <;> rw [h] <;> omega
        exact Sz.mk (by omega) (by omega)
      walk_at "rd"
      refine ⟨L.k, r, i, j, 119, rfl, k2, k4, sX, sr0.mono (by decide), sY, by decide, by decide, ?_⟩
      walk_at "rd"
      refine ⟨st, _, eN, 601, rfl, s9, by omega, by omega, sE, by decide, fun r10 G10 _ _ b10 s10 => ?_⟩
      refine ⟨(by show 6 ≤ sizeLine; decide), fun p11 n11 => ?_⟩
      refine ⟨p11, rfl, ⟨_, SqL.of upd_same⟩, ?_⟩
      have mL : Same H (upd G10 p11 (.lst [.int (nearZ L.k r i j - 1), .int (nearZ L.k r i j), .int (nearZ L.k r i j + 1), .int 0, .int (eN - 1), .int r10])) :=
        Same.trans (Same.keep (Same.keep (Same.keep (Same.trans mG (same_new n7 _)) nst b8) nst b9) nst b10) (same_new n11 _)
      have aL : AvgAt C_Average (upd G10 p11 (.lst [.int (nearZ L.k r i j - 1), .int (nearZ L.k r i j), .int (nearZ L.k r i j + 1), .int 0, .int (eN - 1), .int r10])) lp L :=
        ((((aG.same (same_new n7 _)).but b8 nls).but b9 nls).but b10 nls).same (same_new n11 _)
      have sL : StrAt (upd G10 p11 (.lst [.int (nearZ L.k r i j - 1), .int (nearZ L.k r i j), .int (nearZ L.k r i j + 1), .int 0, .int (eN - 1), .int r10])) st (12 + 3 * (j0 + 1)) := (s10.same (same_new n11 _)).mono (by omega)
      refine for_list (K := K) (a := p11) (xs := ([nearZ L.k r i j - 1, nearZ L.k r i j, nearZ L.k r i j + 1, 0, eN - 1, r10] : List Int).map V.int)
        (fun _ σ G' => ∃ w17 w18 w19 w20 w21 w22 : Option V, σ = [some (.ref a), some (.int (0 + i0)), some (.ref st), some (.int L.k), some (.int L.a), some (.int L.c), some (.int L.d), some (.str L.stop), some (.str L.told), some (.str L.mend), some (.ref lp), some (.int r), some (.int eN), some (.int (0 + j0)), some (.int i), some (.int j), some (.int (nearZ L.k r i j)), w17, w18, w19, w20, w21, w22] ∧ G' = upd G10 p11 (.lst [.int (nearZ L.k r i j - 1), .int (nearZ L.k r i j), .int (nearZ L.k r i j + 1), .int 0, .int (eN - 1), .int r10]))
        ⟨u17, u18, u19, u20, u21, u22, rfl, rfl⟩ (fun t σ G' _ ⟨_, _, _, _, _, _, _, e⟩ => by rw [e]; exact SqL.of upd_same) ?_ ?_
      · rintro t x σ G' ht ⟨w17, w18, w19, w20, w21, w22, rfl, rfl⟩
        obtain ⟨z, hz, rfl⟩ := int_at ht
        walk_at "rd"
        dsimp (config := { proj := false }) only
        generalize hs : (if (if eN - 1 < z then eN - 1 else z) > 0 then (if eN - 1 < z then eN - 1 else z) else 0) = sz at *
        have sz0 : 0 ≤ sz := by rw [← hs]; split <;> omega
        have sz1 : sz ≤ eN - 1 := by rw [← hs]; split <;> split <;> omega
        refine ⟨r, L.k, 117, rfl, by omega, sr0.mono (by decide), by decide, by omega, by omega, ?_⟩
        walk_at "rd"
        have hk6 : ((L.k - 1).toNat + 1) * 119 ≤ 4 * 119 := Nat.mul_le_mul_right _ (by omega)
        refine ⟨r + i, L.k - 1, 119, rfl, by omega, sX, by decide, by omega, by omega, ?_⟩
        have hpw : 0 < (r + i) ^ (L.k - 1).toNat := Int.pow_pos (by omega)
        walk_at "rd"
        refine ⟨Sz.d _ hpw (Sz.pow sX (by decide) _) (by omega), ?_⟩
        walk_at "rd"
        refine ⟨.inl ⟨by omega, by omega⟩, ?_⟩
        walk_at "rd"
        dsimp (config := { proj := false }) only
        have q0 := quo_nn hk3 r1 i1 sz0
        have qi := quo_iff (k := L.k) (j := j) (s := sz) i1
        have qs := step_gap (a := L.a) (c := L.c) (d := L.d) (k := L.k) (r := r) (i := i) (n := r ^ L.k.toNat + sz) (by omega)
        have sN : Sz (r ^ L.k.toNat + sz) 700 := by
          have h1 := sP0.ub
          have h2 := sE.ub
          exact Sz.mk (by omega) (by omega)
        unfold quoZ at q0 qi qs
        generalize hqz : (r ^ L.k.toNat + sz) / (r + i) ^ (L.k - 1).toNat - r + (L.k - 1) * i = qz at *
        rw [decide_eq_false (show ¬ qz < 0 by omega)]
        walk_at "rd"
        refine iteNS (congrArg V.bl (decide_eq_decide.mpr qi)) ?_
        walk_at "rd"
        refine ⟨.inl ⟨by omega, by omega⟩, ?_⟩
        walk_at "rd"
        refine ⟨.inr ⟨by omega, by omega⟩, ?_⟩
        walk_at "rd"
        refine ⟨.inl ⟨by omega, by omega⟩, ?_⟩
        walk_at "rd"
        refine ⟨⟨by omega, by omega⟩, ?_⟩
        walk_at "rd"
        obtain ⟨dx3, hlp⟩ := id aL
        refine ⟨lp, dx3, _, rfl, hlp, avgF_no L (by decide +kernel) (by decide +kernel) (by decide +kernel) (by decide +kernel) (by decide +kernel) (by decide +kernel) (by decide +kernel), ?_⟩
        walk_at "rd"
        refine ⟨lp, L, _, _, 119, rfl, ⟨dx3, hlp⟩, ok, by omega, i1, sX, by decide, by decide, ?_⟩
        walk_at "rd"
        refine iteNS (congrArg V.int qs) ?_
        exact ⟨_, _, _, _, _, _, rfl, rfl⟩
      · rintro σ G' ⟨w17, w18, w19, w20, w21, w22, rfl, rfl⟩
        exact ⟨_, _, _, _, _, _, _, _, _, _, rfl, mL, sL, aL⟩
    · rintro σ G ⟨u13, u14, u15, u16, u17, u18, u19, u20, u21, u22, rfl, mG, _, _⟩
      exact ⟨_, _, _, _, _, _, _, _, _, _, _, _, _, _, _, _, _, _, _, _, _, _, rfl, mG⟩

end
/-! ### what the top has written -/
theorem all_mk {l : PySem.W.OpenLaw} {w : World} {K : PySem.W.Frag} {h : Heap} {mg : Str → Option Value} {fa : Addr} (X : K.In h) (G : h.Ns mainGlobals mg) (hfa : mg "law" = some (.ref fa))
    {C_Average : Addr} {f0 : Addr} {od0 an0 : Option Addr} {sl0 : Array (Option Value)} {oc0 kV0 dc0 pm0 cd0 ct0 : Value} {f1 : Addr} {od1 an1 : Option Addr} {sl1 : Array (Option Value)} {oc1 kV1 dc1 pm1 cd1 ct1 : Value} {f2 : Addr} {od2 an2 : Option Addr} {sl2 : Array (Option Value)} {oc2 kV2 dc2 pm2 cd2 ct2 : Value} {f3 : Addr} {od3 an3 : Option Addr} {sl3 : Array (Option Value)} {oc3 kV3 dc3 pm3 cd3 ct3 : Value} {f4 : Addr} {od4 an4 : Option Addr} {sl4 : Array (Option Value)} {oc4 kV4 dc4 pm4 cd4 ct4 : Value} {f5 : Addr} {od5 an5 : Option Addr} {sl5 : Array (Option Value)} {oc5 kV5 dc5 pm5 cd5 ct5 : Value} {f6 : Addr} {od6 an6 : Option Addr} {sl6 : Array (Option Value)} {oc6 kV6 dc6 pm6 cd6 ct6 : Value} {f7 : Addr} {od7 an7 : Option Addr} {sl7 : Array (Option Value)} {oc7 kV7 dc7 pm7 cd7 ct7 : Value} {f8 : Addr} {od8 an8 : Option Addr} {sl8 : Array (Option Value)} {oc8 kV8 dc8 pm8 cd8 ct8 : Value} {f9 : Addr} {od9 an9 : Option Addr} {sl9 : Array (Option Value)} {oc9 kV9 dc9 pm9 cd9 ct9 : Value} {f10 : Addr} {od10 an10 : Option Addr} {sl10 : Array (Option Value)} {oc10 kV10 dc10 pm10 cd10 ct10 : Value} {f11 : Addr} {od11 an11 : Option Addr} {sl11 : Array (Option Value)} {oc11 kV11 dc11 pm11 cd11 ct11 : Value} {f12 : Addr} {od12 an12 : Option Addr} {sl12 : Array (Option Value)} {oc12 kV12 dc12 pm12 cd12 ct12 : Value} {f13 : Addr} {od13 an13 : Option Addr} {sl13 : Array (Option Value)} {oc13 kV13 dc13 pm13 cd13 ct13 : Value} {f14 : Addr} {od14 an14 : Option Addr} {sl14 : Array (Option Value)} {oc14 kV14 dc14 pm14 cd14 ct14 : Value} {f15 : Addr} {od15 an15 : Option Addr} {sl15 : Array (Option Value)} {oc15 kV15 dc15 pm15 cd15 ct15 : Value} {f16 : Addr} {od16 an16 : Option Addr} {sl16 : Array (Option Value)} {oc16 kV16 dc16 pm16 cd16 ct16 : Value} {T16 : Addr} {dT16 : Option Addr} {nT16 : Nat} {sT16 : Array (Option Value)} {tT16_0 : Tok} {tT16_1 : Tok} {f17 : Addr} {od17 an17 : Option Addr} {sl17 : Array (Option Value)} {oc17 kV17 dc17 pm17 cd17 ct17 : Value} {f18 : Addr} {od18 an18 : Option Addr} {sl18 : Array (Option Value)} {oc18 kV18 dc18 pm18 cd18 ct18 : Value} {f19 : Addr} {od19 an19 : Option Addr} {sl19 : Array (Option Value)} {oc19 kV19 dc19 pm19 cd19 ct19 : Value} {f20 : Addr} {od20 an20 : Option Addr} {sl20 : Array (Option Value)} {oc20 kV20 dc20 pm20 cd20 ct20 : Value} {f21 : Addr} {od21 an21 : Option Addr} {sl21 : Array (Option Value)} {oc21 kV21 dc21 pm21 cd21 ct21 : Value} {A_LOOKS : Addr} {dC_LOOKS : Option Addr} {nC_LOOKS : Nat} {sC_LOOKS : Array (Option Value)} {tC_LOOKS_0 tC_LOOKS_1 : Tok} {A_MENDS : Addr} {dC_MENDS : Option Addr} {nC_MENDS : Nat} {sC_MENDS : Array (Option Value)} {tC_MENDS_0 tC_MENDS_1 tC_MENDS_2 tC_MENDS_3 : Tok} {tC_MOST_WEIGHT : Tok} {A_STOPS : Addr} {dC_STOPS : Option Addr} {nC_STOPS : Nat} {sC_STOPS : Array (Option Value)} {tC_STOPS_0 tC_STOPS_1 tC_STOPS_2 tC_STOPS_3 tC_STOPS_4 tC_STOPS_5 tC_STOPS_6 : Tok} {A_TELLINGS : Addr} {dC_TELLINGS : Option Addr} {nC_TELLINGS : Nat} {sC_TELLINGS : Array (Option Value)} {tC_TELLINGS_0 tC_TELLINGS_1 tC_TELLINGS_2 tC_TELLINGS_3 : Tok}
    (aAverage : PySem.W.nsIn K mainGlobals "Average" = some (some (.ref C_Average)))
    (pgAverage : PySem.W.plainGet K C_Average Str.empty = true)
    (hdAverage : PySem.W.hasDictIn K C_Average = true)
    (poAverage : PySem.W.plainOver K C_Average = true)
    (saAverage : PySem.W.findIn K (.ref C_Average) "__setattr__" = some (some (.builtin "object.__setattr__")))
    (mkAverage : PySem.W.makesIn K C_Average = true)
    (kcAverage : PySem.W.keepIn K (.ref C_Average) = true)
    (nAk : PySem.W.findIn K (.ref C_Average) "k" = some none)
    (nAa : PySem.W.findIn K (.ref C_Average) "a" = some none)
    (nAc : PySem.W.findIn K (.ref C_Average) "c" = some none)
    (nAd : PySem.W.findIn K (.ref C_Average) "d" = some none)
    (nAstop : PySem.W.findIn K (.ref C_Average) "stop" = some none)
    (nAtold : PySem.W.findIn K (.ref C_Average) "told" = some none)
    (nAmend : PySem.W.findIn K (.ref C_Average) "mend" = some none)
    (a0 : PySem.W.nsIn K mainGlobals "_law_stream" = some (some (.ref f0)))
    (l0 : K.lookup f0 = some ⟨oc0, od0, .func (PySem.W.fnOf "_law_stream" "_law_stream" (C8.fnArgs s_Lstream) (C8.fnBody s_Lstream) (C8.fnScope s_Lstream) .none kV0 dc0 pm0 an0 cd0 ct0), sl0⟩)
    (c0 : PySem.W.codeIn K cd0 "_law_stream" = true)
    (k0 : PySem.W.keepIn K (.ref f0) = true)
    (a1 : PySem.W.nsIn K mainGlobals "_law_draw" = some (some (.ref f1)))
    (l1 : K.lookup f1 = some ⟨oc1, od1, .func (PySem.W.fnOf "_law_draw" "_law_draw" (C8.fnArgs s_Ldraw) (C8.fnBody s_Ldraw) (C8.fnScope s_Ldraw) .none kV1 dc1 pm1 an1 cd1 ct1), sl1⟩)
    (c1 : PySem.W.codeIn K cd1 "_law_draw" = true)
    (k1 : PySem.W.keepIn K (.ref f1) = true)
    (a2 : PySem.W.nsIn K mainGlobals "_law_pick" = some (some (.ref f2)))
    (l2 : K.lookup f2 = some ⟨oc2, od2, .func (PySem.W.fnOf "_law_pick" "_law_pick" (C8.fnArgs s_Lpick) (C8.fnBody s_Lpick) (C8.fnScope s_Lpick) .none kV2 dc2 pm2 an2 cd2 ct2), sl2⟩)
    (c2 : PySem.W.codeIn K cd2 "_law_pick" = true)
    (k2 : PySem.W.keepIn K (.ref f2) = true)
    (a3 : PySem.W.nsIn K mainGlobals "_law_power" = some (some (.ref f3)))
    (l3 : K.lookup f3 = some ⟨oc3, od3, .func (PySem.W.fnOf "_law_power" "_law_power" (C8.fnArgs s_Lpower) (C8.fnBody s_Lpower) (C8.fnScope s_Lpower) .none kV3 dc3 pm3 an3 cd3 ct3), sl3⟩)
    (c3 : PySem.W.codeIn K cd3 "_law_power" = true)
    (k3 : PySem.W.keepIn K (.ref f3) = true)
    (a4 : PySem.W.nsIn K mainGlobals "_law_weights" = some (some (.ref f4)))
    (l4 : K.lookup f4 = some ⟨oc4, od4, .func (PySem.W.fnOf "_law_weights" "_law_weights" (C8.fnArgs s_Lweights) (C8.fnBody s_Lweights) (C8.fnScope s_Lweights) .none kV4 dc4 pm4 an4 cd4 ct4), sl4⟩)
    (c4 : PySem.W.codeIn K cd4 "_law_weights" = true)
    (k4 : PySem.W.keepIn K (.ref f4) = true)
    (a5 : PySem.W.nsIn K mainGlobals "_law_parts" = some (some (.ref f5)))
    (l5 : K.lookup f5 = some ⟨oc5, od5, .func (PySem.W.fnOf "_law_parts" "_law_parts" (C8.fnArgs s_Lparts) (C8.fnBody s_Lparts) (C8.fnScope s_Lparts) .none kV5 dc5 pm5 an5 cd5 ct5), sl5⟩)
    (c5 : PySem.W.codeIn K cd5 "_law_parts" = true)
    (k5 : PySem.W.keepIn K (.ref f5) = true)
    (a6 : PySem.W.nsIn K mainGlobals "is_int" = some (some (.ref f6)))
    (l6 : K.lookup f6 = some ⟨oc6, od6, .func (PySem.W.fnOf "is_int" "is_int" (C8.fnArgs s_is_int) (C8.fnBody s_is_int) (C8.fnScope s_is_int) .none kV6 dc6 pm6 an6 cd6 ct6), sl6⟩)
    (c6 : PySem.W.codeIn K cd6 "is_int" = true)
    (k6 : PySem.W.keepIn K (.ref f6) = true)
    (a7 : PySem.W.nsIn K mainGlobals "is_from" = some (some (.ref f7)))
    (l7 : K.lookup f7 = some ⟨oc7, od7, .func (PySem.W.fnOf "is_from" "is_from" (C8.fnArgs s_is_from) (C8.fnBody s_is_from) (C8.fnScope s_is_from) .none kV7 dc7 pm7 an7 cd7 ct7), sl7⟩)
    (c7 : PySem.W.codeIn K cd7 "is_from" = true)
    (k7 : PySem.W.keepIn K (.ref f7) = true)
    (a8 : PySem.W.nsIn K mainGlobals "is_within" = some (some (.ref f8)))
    (l8 : K.lookup f8 = some ⟨oc8, od8, .func (PySem.W.fnOf "is_within" "is_within" (C8.fnArgs s_is_within) (C8.fnBody s_is_within) (C8.fnScope s_is_within) .none kV8 dc8 pm8 an8 cd8 ct8), sl8⟩)
    (c8 : PySem.W.codeIn K cd8 "is_within" = true)
    (k8 : PySem.W.keepIn K (.ref f8) = true)
    (a9 : PySem.W.nsIn K mainGlobals "require_number" = some (some (.ref f9)))
    (l9 : K.lookup f9 = some ⟨oc9, od9, .func (PySem.W.fnOf "require_number" "require_number" (C8.fnArgs s_require_number) (C8.fnBody s_require_number) (C8.fnScope s_require_number) .none kV9 dc9 pm9 an9 cd9 ct9), sl9⟩)
    (c9 : PySem.W.codeIn K cd9 "require_number" = true)
    (k9 : PySem.W.keepIn K (.ref f9) = true)
    (a10 : PySem.W.nsIn K mainGlobals "require_start" = some (some (.ref f10)))
    (l10 : K.lookup f10 = some ⟨oc10, od10, .func (PySem.W.fnOf "require_start" "require_start" (C8.fnArgs s_require_start) (C8.fnBody s_require_start) (C8.fnScope s_require_start) .none kV10 dc10 pm10 an10 cd10 ct10), sl10⟩)
    (c10 : PySem.W.codeIn K cd10 "require_start" = true)
    (k10 : PySem.W.keepIn K (.ref f10) = true)
    (a11 : PySem.W.nsIn K mainGlobals "is_word" = some (some (.ref f11)))
    (l11 : K.lookup f11 = some ⟨oc11, od11, .func (PySem.W.fnOf "is_word" "is_word" (C8.fnArgs s_is_word) (C8.fnBody s_is_word) (C8.fnScope s_is_word) .none kV11 dc11 pm11 an11 cd11 ct11), sl11⟩)
    (c11 : PySem.W.codeIn K cd11 "is_word" = true)
    (k11 : PySem.W.keepIn K (.ref f11) = true)
    (a12 : PySem.W.nsIn K mainGlobals "possible_tellings" = some (some (.ref f12)))
    (l12 : K.lookup f12 = some ⟨oc12, od12, .func (PySem.W.fnOf "possible_tellings" "possible_tellings" (C8.fnArgs s_possible_tellings) (C8.fnBody s_possible_tellings) (C8.fnScope s_possible_tellings) .none kV12 dc12 pm12 an12 cd12 ct12), sl12⟩)
    (c12 : PySem.W.codeIn K cd12 "possible_tellings" = true)
    (k12 : PySem.W.keepIn K (.ref f12) = true)
    (a13 : PySem.W.nsIn K mainGlobals "is_loop_power" = some (some (.ref f13)))
    (l13 : K.lookup f13 = some ⟨oc13, od13, .func (PySem.W.fnOf "is_loop_power" "is_loop_power" (C8.fnArgs s_is_loop_power) (C8.fnBody s_is_loop_power) (C8.fnScope s_is_loop_power) .none kV13 dc13 pm13 an13 cd13 ct13), sl13⟩)
    (c13 : PySem.W.codeIn K cd13 "is_loop_power" = true)
    (k13 : PySem.W.keepIn K (.ref f13) = true)
    (a14 : PySem.W.nsIn K mainGlobals "greatest_c" = some (some (.ref f14)))
    (l14 : K.lookup f14 = some ⟨oc14, od14, .func (PySem.W.fnOf "greatest_c" "greatest_c" (C8.fnArgs s_greatest_c) (C8.fnBody s_greatest_c) (C8.fnScope s_greatest_c) .none kV14 dc14 pm14 an14 cd14 ct14), sl14⟩)
    (c14 : PySem.W.codeIn K cd14 "greatest_c" = true)
    (k14 : PySem.W.keepIn K (.ref f14) = true)
    (a15 : PySem.W.nsIn K mainGlobals "wrong_part" = some (some (.ref f15)))
    (l15 : K.lookup f15 = some ⟨oc15, od15, .func (PySem.W.fnOf "wrong_part" "wrong_part" (C8.fnArgs s_wrong_part) (C8.fnBody s_wrong_part) (C8.fnScope s_wrong_part) .none kV15 dc15 pm15 an15 cd15 ct15), sl15⟩)
    (c15 : PySem.W.codeIn K cd15 "wrong_part" = true)
    (k15 : PySem.W.keepIn K (.ref f15) = true)
    (a16 : PySem.W.findIn K (.ref C_Average) "__init__" = some (some (.ref f16)))
    (i16 : PySem.W.isFn K (.ref f16) = true)
    (l16 : K.lookup f16 = some ⟨oc16, od16, .func (PySem.W.fnOf "__init__" "Average.__init__" (C8.fnArgs s_Average___init__) (C8.fnBody s_Average___init__) (C8.fnScope s_Average___init__) (.ref T16) kV16 dc16 pm16 an16 cd16 ct16), sl16⟩)
    (lT16 : K.lookup T16 = some ⟨.type "tuple", dT16, .seq #[.str "old" tT16_0, .str "none" tT16_1] nT16, sT16⟩)
    (c16 : PySem.W.codeIn K cd16 "Average.__init__" = true)
    (k16 : PySem.W.keepIn K (.ref f16) = true)
    (a17 : PySem.W.nsIn K mainGlobals "power" = some (some (.ref f17)))
    (l17 : K.lookup f17 = some ⟨oc17, od17, .func (PySem.W.fnOf "power" "power" (C8.fnArgs s_power) (C8.fnBody s_power) (C8.fnScope s_power) .none kV17 dc17 pm17 an17 cd17 ct17), sl17⟩)
    (c17 : PySem.W.codeIn K cd17 "power" = true)
    (k17 : PySem.W.keepIn K (.ref f17) = true)
    (a18 : PySem.W.nsIn K mainGlobals "next_guess" = some (some (.ref f18)))
    (l18 : K.lookup f18 = some ⟨oc18, od18, .func (PySem.W.fnOf "next_guess" "next_guess" (C8.fnArgs s_next_guess) (C8.fnBody s_next_guess) (C8.fnScope s_next_guess) .none kV18 dc18 pm18 an18 cd18 ct18), sl18⟩)
    (c18 : PySem.W.codeIn K cd18 "next_guess" = true)
    (k18 : PySem.W.keepIn K (.ref f18) = true)
    (a19 : PySem.W.findIn K (.ref C_Average) "step" = some (some (.ref f19)))
    (i19 : PySem.W.isFn K (.ref f19) = true)
    (l19 : K.lookup f19 = some ⟨oc19, od19, .func (PySem.W.fnOf "step" "Average.step" (C8.fnArgs s_Average_step) (C8.fnBody s_Average_step) (C8.fnScope s_Average_step) .none kV19 dc19 pm19 an19 cd19 ct19), sl19⟩)
    (c19 : PySem.W.codeIn K cd19 "Average.step" = true)
    (k19 : PySem.W.keepIn K (.ref f19) = true)
    (a20 : PySem.W.nsIn K mainGlobals "_law_turn" = some (some (.ref f20)))
    (l20 : K.lookup f20 = some ⟨oc20, od20, .func (PySem.W.fnOf "_law_turn" "_law_turn" (C8.fnArgs s_Lturn) (C8.fnBody s_Lturn) (C8.fnScope s_Lturn) .none kV20 dc20 pm20 an20 cd20 ct20), sl20⟩)
    (c20 : PySem.W.codeIn K cd20 "_law_turn" = true)
    (k20 : PySem.W.keepIn K (.ref f20) = true)
    (a21 : PySem.W.nsIn K mainGlobals "law" = some (some (.ref f21)))
    (l21 : K.lookup f21 = some ⟨oc21, od21, .func (PySem.W.fnOf "law" "law" (C8.fnArgs s_law) (C8.fnBody s_law) (C8.fnScope s_law) .none kV21 dc21 pm21 an21 cd21 ct21), sl21⟩)
    (c21 : PySem.W.codeIn K cd21 "law" = true)
    (k21 : PySem.W.keepIn K (.ref f21) = true)
    (z_abs : PySem.W.nsIn K mainGlobals "abs" = some none)
    (z_bool : PySem.W.nsIn K mainGlobals "bool" = some none)
    (z_int : PySem.W.nsIn K mainGlobals "int" = some none)
    (z_isinstance : PySem.W.nsIn K mainGlobals "isinstance" = some none)
    (z_len : PySem.W.nsIn K mainGlobals "len" = some none)
    (z_max : PySem.W.nsIn K mainGlobals "max" = some none)
    (z_min : PySem.W.nsIn K mainGlobals "min" = some none)
    (z_range : PySem.W.nsIn K mainGlobals "range" = some none)
    (z_str : PySem.W.nsIn K mainGlobals "str" = some none)
    (g_LOOKS : PySem.W.nsIn K mainGlobals "LOOKS" = some (some (.ref A_LOOKS)))
    (l_LOOKS : K.lookup A_LOOKS = some ⟨.type "tuple", dC_LOOKS, .seq #[.str "under" tC_LOOKS_0, .str "held" tC_LOOKS_1] nC_LOOKS, sC_LOOKS⟩)
    (g_MENDS : PySem.W.nsIn K mainGlobals "MENDS" = some (some (.ref A_MENDS)))
    (l_MENDS : K.lookup A_MENDS = some ⟨.type "tuple", dC_MENDS, .seq #[.str "none" tC_MENDS_0, .str "down" tC_MENDS_1, .str "up" tC_MENDS_2, .str "both" tC_MENDS_3] nC_MENDS, sC_MENDS⟩)
    (g_MOST_WEIGHT : PySem.W.nsIn K mainGlobals "MOST_WEIGHT" = some (some (.int 6 tC_MOST_WEIGHT)))
    (g_STOPS : PySem.W.nsIn K mainGlobals "STOPS" = some (some (.ref A_STOPS)))
    (l_STOPS : K.lookup A_STOPS = some ⟨.type "tuple", dC_STOPS, .seq #[.str "notless" tC_STOPS_0, .str "equal" tC_STOPS_1, .str "near1" tC_STOPS_2, .str "near2" tC_STOPS_3, .str "back" tC_STOPS_4, .str "under" tC_STOPS_5, .str "held" tC_STOPS_6] nC_STOPS, sC_STOPS⟩)
    (g_TELLINGS : PySem.W.nsIn K mainGlobals "TELLINGS" = some (some (.ref A_TELLINGS)))
    (l_TELLINGS : K.lookup A_TELLINGS = some ⟨.type "tuple", dC_TELLINGS, .seq #[.str "old" tC_TELLINGS_0, .str "new" tC_TELLINGS_1, .str "less" tC_TELLINGS_2, .str "more" tC_TELLINGS_3] nC_TELLINGS, sC_TELLINGS⟩) :
    ∃ fd : FuncData, (∀ (s : Shared) (v : Value), BindsTo s fd ⟨[v], []⟩ [("_law_script", v)]) ∧ ∀ base : Heap, K.In base → base.Ns mainGlobals mg → FnOk l.prog w K mg base C8.CX0 8 fa fd ["_law_script"] (spLaw K) := by
  have e := hfa.symm.trans (PySem.W.mg_of X G a21)
  cases e
  have T : Txt K mg := { b_abs := PySem.W.mg_none_of X G z_abs, b_bool := PySem.W.mg_none_of X G z_bool, b_int := PySem.W.mg_none_of X G z_int, b_isinstance := PySem.W.mg_none_of X G z_isinstance, b_len := PySem.W.mg_none_of X G z_len, b_max := PySem.W.mg_none_of X G z_max, b_min := PySem.W.mg_none_of X G z_min, b_range := PySem.W.mg_none_of X G z_range, b_str := PySem.W.mg_none_of X G z_str, c_LOOKS := ⟨A_LOOKS, PySem.W.mg_of X G g_LOOKS, fun _ => .inr ⟨_, _, _, l_LOOKS, rfl, rfl, (by show 2 ≤ sizeLine; decide), .cons ⟨_, rfl⟩ (.cons ⟨_, rfl⟩ (.nil))⟩⟩, c_MENDS := ⟨A_MENDS, PySem.W.mg_of X G g_MENDS, fun _ => .inr ⟨_, _, _, l_MENDS, rfl, rfl, (by show 4 ≤ sizeLine; decide), .cons ⟨_, rfl⟩ (.cons ⟨_, rfl⟩ (.cons ⟨_, rfl⟩ (.cons ⟨_, rfl⟩ (.nil))))⟩⟩, c_MOST_WEIGHT := ⟨_, PySem.W.mg_of X G g_MOST_WEIGHT, ⟨_, rfl⟩⟩, c_STOPS := ⟨A_STOPS, PySem.W.mg_of X G g_STOPS, fun _ => .inr ⟨_, _, _, l_STOPS, rfl, rfl, (by show 7 ≤ sizeLine; decide), .cons ⟨_, rfl⟩ (.cons ⟨_, rfl⟩ (.cons ⟨_, rfl⟩ (.cons ⟨_, rfl⟩ (.cons ⟨_, rfl⟩ (.cons ⟨_, rfl⟩ (.cons ⟨_, rfl⟩ (.nil)))))))⟩⟩, c_TELLINGS := ⟨A_TELLINGS, PySem.W.mg_of X G g_TELLINGS, fun _ => .inr ⟨_, _, _, l_TELLINGS, rfl, rfl, (by show 4 ≤ sizeLine; decide), .cons ⟨_, rfl⟩ (.cons ⟨_, rfl⟩ (.cons ⟨_, rfl⟩ (.cons ⟨_, rfl⟩ (.nil))))⟩⟩ }
  have cl_Average : Cls K C_Average := ⟨pgAverage, hdAverage, poAverage, saAverage⟩
  have A_ : AvgTxt K C_Average := ⟨cl_Average, nAk, nAa, nAc, nAd, nAstop, nAtold, nAmend⟩
  have F0 : C8.Def K mg "_law_stream" s_Lstream f0 _ := ⟨⟨⟨_, _, _, _, _, _, _, _, _, _, rfl, l0, c0⟩⟩, PySem.W.mg_of X G a0, k0⟩
  have b0 := C8.Fun.binds F0.fn rfl (ps := ["_law_script", "_law_k"]) fun _ _ _ _ _ _ us hl => match us, hl with | [_, _], _ => rfl
  have F1 : C8.Def K mg "_law_draw" s_Ldraw f1 _ := ⟨⟨⟨_, _, _, _, _, _, _, _, _, _, rfl, l1, c1⟩⟩, PySem.W.mg_of X G a1, k1⟩
  have b1 := C8.Fun.binds F1.fn rfl (ps := ["_law_stream_here", "_law_many"]) fun _ _ _ _ _ _ us hl => match us, hl with | [_, _], _ => rfl
  have F2 : C8.Def K mg "_law_pick" s_Lpick f2 _ := ⟨⟨⟨_, _, _, _, _, _, _, _, _, _, rfl, l2, c2⟩⟩, PySem.W.mg_of X G a2, k2⟩
  have b2 := C8.Fun.binds F2.fn rfl (ps := ["_law_stream_here", "_law_things"]) fun _ _ _ _ _ _ us hl => match us, hl with | [_, _], _ => rfl
  have F3 : C8.Def K mg "_law_power" s_Lpower f3 _ := ⟨⟨⟨_, _, _, _, _, _, _, _, _, _, rfl, l3, c3⟩⟩, PySem.W.mg_of X G a3, k3⟩
  have b3 := C8.Fun.binds F3.fn rfl (ps := ["_law_x", "_law_k"]) fun _ _ _ _ _ _ us hl => match us, hl with | [_, _], _ => rfl
  have F4 : C8.Def K mg "_law_weights" s_Lweights f4 _ := ⟨⟨⟨_, _, _, _, _, _, _, _, _, _, rfl, l4, c4⟩⟩, PySem.W.mg_of X G a4, k4⟩
  have b4 := C8.Fun.binds F4.fn rfl (ps := ["_law_k"]) fun _ _ _ _ _ _ us hl => match us, hl with | [_], _ => rfl
  have F5 : C8.Def K mg "_law_parts" s_Lparts f5 _ := ⟨⟨⟨_, _, _, _, _, _, _, _, _, _, rfl, l5, c5⟩⟩, PySem.W.mg_of X G a5, k5⟩
  have b5 := C8.Fun.binds F5.fn rfl (ps := ["_law_stream_here"]) fun _ _ _ _ _ _ us hl => match us, hl with | [_], _ => rfl
  have F6 : C8.Def K mg "is_int" s_is_int f6 _ := ⟨⟨⟨_, _, _, _, _, _, _, _, _, _, rfl, l6, c6⟩⟩, PySem.W.mg_of X G a6, k6⟩
  have b6 := C8.Fun.binds F6.fn rfl (ps := ["value"]) fun _ _ _ _ _ _ us hl => match us, hl with | [_], _ => rfl
  have F7 : C8.Def K mg "is_from" s_is_from f7 _ := ⟨⟨⟨_, _, _, _, _, _, _, _, _, _, rfl, l7, c7⟩⟩, PySem.W.mg_of X G a7, k7⟩
  have b7 := C8.Fun.binds F7.fn rfl (ps := ["value", "least"]) fun _ _ _ _ _ _ us hl => match us, hl with | [_, _], _ => rfl
  have F8 : C8.Def K mg "is_within" s_is_within f8 _ := ⟨⟨⟨_, _, _, _, _, _, _, _, _, _, rfl, l8, c8⟩⟩, PySem.W.mg_of X G a8, k8⟩
  have b8 := C8.Fun.binds F8.fn rfl (ps := ["value", "least", "greatest"]) fun _ _ _ _ _ _ us hl => match us, hl with | [_, _, _], _ => rfl
  have F9 : C8.Def K mg "require_number" s_require_number f9 _ := ⟨⟨⟨_, _, _, _, _, _, _, _, _, _, rfl, l9, c9⟩⟩, PySem.W.mg_of X G a9, k9⟩
  have b9 := C8.Fun.binds F9.fn rfl (ps := ["n"]) fun _ _ _ _ _ _ us hl => match us, hl with | [_], _ => rfl
  have F10 : C8.Def K mg "require_start" s_require_start f10 _ := ⟨⟨⟨_, _, _, _, _, _, _, _, _, _, rfl, l10, c10⟩⟩, PySem.W.mg_of X G a10, k10⟩
  have b10 := C8.Fun.binds F10.fn rfl (ps := ["start"]) fun _ _ _ _ _ _ us hl => match us, hl with | [_], _ => rfl
  have F11 : C8.Def K mg "is_word" s_is_word f11 _ := ⟨⟨⟨_, _, _, _, _, _, _, _, _, _, rfl, l11, c11⟩⟩, PySem.W.mg_of X G a11, k11⟩
  have b11 := C8.Fun.binds F11.fn rfl (ps := ["value", "words"]) fun _ _ _ _ _ _ us hl => match us, hl with | [_, _], _ => rfl
  have F12 : C8.Def K mg "possible_tellings" s_possible_tellings f12 _ := ⟨⟨⟨_, _, _, _, _, _, _, _, _, _, rfl, l12, c12⟩⟩, PySem.W.mg_of X G a12, k12⟩
  have b12 := C8.Fun.binds F12.fn rfl (ps := ["stop"]) fun _ _ _ _ _ _ us hl => match us, hl with | [_], _ => rfl
  have F13 : C8.Def K mg "is_loop_power" s_is_loop_power f13 _ := ⟨⟨⟨_, _, _, _, _, _, _, _, _, _, rfl, l13, c13⟩⟩, PySem.W.mg_of X G a13, k13⟩
  have b13 := C8.Fun.binds F13.fn rfl (ps := ["k"]) fun _ _ _ _ _ _ us hl => match us, hl with | [_], _ => rfl
  have F14 : C8.Def K mg "greatest_c" s_greatest_c f14 _ := ⟨⟨⟨_, _, _, _, _, _, _, _, _, _, rfl, l14, c14⟩⟩, PySem.W.mg_of X G a14, k14⟩
  have b14 := C8.Fun.binds F14.fn rfl (ps := ["k", "a"]) fun _ _ _ _ _ _ us hl => match us, hl with | [_, _], _ => rfl
  have F15 : C8.Def K mg "wrong_part" s_wrong_part f15 _ := ⟨⟨⟨_, _, _, _, _, _, _, _, _, _, rfl, l15, c15⟩⟩, PySem.W.mg_of X G a15, k15⟩
  have b15 := C8.Fun.binds F15.fn rfl (ps := ["k", "a", "c", "d", "stop", "told", "mend"]) fun _ _ _ _ _ _ us hl => match us, hl with | [_, _, _, _, _, _, _], _ => rfl
  have F16 : C8.Fun K "__init__" "Average.__init__" s_Average___init__ f16 _ := ⟨⟨_, _, _, _, _, _, _, _, _, _, rfl, l16, c16⟩⟩
  have b16 := binds_full (fd := PySem.W.fnOf "__init__" "Average.__init__" (C8.fnArgs s_Average___init__) (C8.fnBody s_Average___init__) (C8.fnScope s_Average___init__) (.ref T16) kV16 dc16 pm16 an16 cd16 ct16) (ps := ["self", "k", "a", "c", "d", "stop", "told", "mend"]) lT16 rfl fun us hl => match us, hl with | [_, _, _, _, _, _, _, _], _ => ⟨_, rfl, rfl⟩
  have F17 : C8.Def K mg "power" s_power f17 _ := ⟨⟨⟨_, _, _, _, _, _, _, _, _, _, rfl, l17, c17⟩⟩, PySem.W.mg_of X G a17, k17⟩
  have b17 := C8.Fun.binds F17.fn rfl (ps := ["base", "k"]) fun _ _ _ _ _ _ us hl => match us, hl with | [_, _], _ => rfl
  have F18 : C8.Def K mg "next_guess" s_next_guess f18 _ := ⟨⟨⟨_, _, _, _, _, _, _, _, _, _, rfl, l18, c18⟩⟩, PySem.W.mg_of X G a18, k18⟩
  have b18 := C8.Fun.binds F18.fn rfl (ps := ["loop", "n", "x"]) fun _ _ _ _ _ _ us hl => match us, hl with | [_, _, _], _ => rfl
  have F19 : C8.Fun K "step" "Average.step" s_Average_step f19 _ := ⟨⟨_, _, _, _, _, _, _, _, _, _, rfl, l19, c19⟩⟩
  have b19 := C8.Fun.binds F19 rfl (ps := ["self", "n", "x"]) fun _ _ _ _ _ _ us hl => match us, hl with | [_, _, _], _ => rfl
  have F20 : C8.Def K mg "_law_turn" s_Lturn f20 _ := ⟨⟨⟨_, _, _, _, _, _, _, _, _, _, rfl, l20, c20⟩⟩, PySem.W.mg_of X G a20, k20⟩
  have b20 := C8.Fun.binds F20.fn rfl (ps := ["_law_k", "_law_floor", "_law_i", "_law_j"]) fun _ _ _ _ _ _ us hl => match us, hl with | [_, _, _, _], _ => rfl
  have F21 : C8.Fun K "law" "law" s_law fa _ := ⟨⟨_, _, _, _, _, _, _, _, _, _, rfl, l21, c21⟩⟩
  refine ⟨PySem.W.fnOf "law" "law" (C8.fnArgs s_law) (C8.fnBody s_law) (C8.fnScope s_law) .none kV21 dc21 pm21 an21 cd21 ct21, fun s v => .of_eq rfl, fun base _ _ => ?_⟩
  have c_Lstream : C8.Cal l.prog w K mg base 1 "_law_stream" (spStream K) [] := ok_Lstream F0 b0 T
  have c_Ldraw : C8.Cal l.prog w K mg base 1 "_law_draw" (spDraw) [] := ok_Ldraw F1 b1 T
  have c_Lpick : C8.Cal l.prog w K mg base 2 "_law_pick" (spPick K) [] := ok_Lpick F2 b2 T c_Ldraw
  have c_Lpower : C8.Cal l.prog w K mg base 1 "_law_power" (spLPow) [] := ok_Lpower F3 b3 T
  have c_Lweights : C8.Cal l.prog w K mg base 1 "_law_weights" (spWts) [] := ok_Lweights F4 b4 T
  have c_Lparts : C8.Cal l.prog w K mg base 3 "_law_parts" (spParts) [] := ok_Lparts F5 b5 T c_Lpick c_Ldraw c_Lweights
  have c_is_int : C8.Cal l.prog w K mg base 1 "is_int" (spIsInt K) [] := ok_is_int F6 b6 T
  have c_is_from : C8.Cal l.prog w K mg base 2 "is_from" (spIsFrom K) [] := ok_is_from F7 b7 T c_is_int
  have c_is_within : C8.Cal l.prog w K mg base 2 "is_within" (spIsWithin K) [] := ok_is_within F8 b8 T c_is_int
  have c_require_number : C8.Cal l.prog w K mg base 3 "require_number" (spReqNum) [] := ok_require_number F9 b9 T c_is_from
  have c_require_start : C8.Cal l.prog w K mg base 3 "require_start" (spReqStart) [] := ok_require_start F10 b10 T c_is_from
  have c_is_word : C8.Cal l.prog w K mg base 1 "is_word" (spIsWord K) [] := ok_is_word F11 b11 T
  have c_possible_tellings : C8.Cal l.prog w K mg base 1 "possible_tellings" (spTellings K) [] := ok_possible_tellings F12 b12 T
  have c_is_loop_power : C8.Cal l.prog w K mg base 3 "is_loop_power" (spIsLP K) [] := ok_is_loop_power F13 b13 T c_is_within
  have c_greatest_c : C8.Cal l.prog w K mg base 1 "greatest_c" (spGreatC) [] := ok_greatest_c F14 b14 T
  have c_wrong_part_ok : C8.Cal l.prog w K mg base 4 "wrong_part" (spWrongOk) [] := ok_wrong_part_ok F15 b15 T c_is_loop_power c_is_within c_is_word c_greatest_c c_possible_tellings
  have m_Average_ok : C8.Mak l.prog w K mg base 5 "Average" C_Average (spAvgInit C_Average) [] := ok_Average___init___ok F16 b16 ⟨mkAverage, a16, i16, kcAverage⟩ (PySem.W.mg_of X G aAverage) T A_ c_wrong_part_ok
  have c_power : C8.Cal l.prog w K mg base 5 "power" (spPow 5) [] := all_power F17 b17 T 5
  have c_next_guess : C8.Cal l.prog w K mg base 6 "next_guess" (spNext C_Average) [] := ok_next_guess F18 b18 T A_ c_power
  have k_step_ok : C8.Met l.prog w K mg base 7 C_Average "step" (spNext C_Average) [] := ok_Average_step_ok F19 b19 cl_Average ⟨a19, i19, k19⟩ T c_require_number c_require_start c_next_guess
  have c_Lturn : C8.Cal l.prog w K mg base 2 "_law_turn" (spTurn) [] := ok_Lturn F20 b20 T c_Lpower
  exact ok_law F21 T A_ c_Lstream c_Lparts c_Lpower c_Ldraw c_Lturn c_Lpick m_Average_ok k_step_ok
end Q
open PySem PySem.W PyProof.Rows
set_option maxRecDepth 100000 in
set_option maxHeartbeats 0 in
theorem PySem.Challenge.cw_floorward_k10_gaps_of_steps_holds : PySem.Challenge.rw_floorward_k10_gaps_of_steps.Holds := by
  w_on; o_law; k_head; (case hw => w_witness2)
  k_fill
  refine L2.walk_of (l := PySem.Challenge.rw_floorward_k10_gaps_of_steps) (n := 63) (k := 8) (x := "_law_script") (CX := fun _ => C8.CX0) (sp := fun w => Q.spLaw _) rfl (by decide) rfl ⟨rfl, by decide, by decide⟩ (fun w h Y => PySem.W.kIn_of Y) ?F (fun _ _ a ns hl _ hS => ⟨a, ns, rfl, hS, hl, fun _ => rfl⟩) fun _ _ _ _ _ z => z
  case F =>
    intro w mg fa h KX G hmg
    refine' Q.all_mk KX G hmg ?aAverage ?pgAverage ?hdAverage ?poAverage ?saAverage ?mkAverage ?kcAverage ?nAk ?nAa ?nAc ?nAd ?nAstop ?nAtold ?nAmend ?a0 ?l0 ?c0 ?k0 ?a1 ?l1 ?c1 ?k1 ?a2 ?l2 ?c2 ?k2 ?a3 ?l3 ?c3 ?k3 ?a4 ?l4 ?c4 ?k4 ?a5 ?l5 ?c5 ?k5 ?a6 ?l6 ?c6 ?k6 ?a7 ?l7 ?c7 ?k7 ?a8 ?l8 ?c8 ?k8 ?a9 ?l9 ?c9 ?k9 ?a10 ?l10 ?c10 ?k10 ?a11 ?l11 ?c11 ?k11 ?a12 ?l12 ?c12 ?k12 ?a13 ?l13 ?c13 ?k13 ?a14 ?l14 ?c14 ?k14 ?a15 ?l15 ?c15 ?k15 ?a16 ?i16 ?l16 ?lT16 ?c16 ?k16 ?a17 ?l17 ?c17 ?k17 ?a18 ?l18 ?c18 ?k18 ?a19 ?i19 ?l19 ?c19 ?k19 ?a20 ?l20 ?c20 ?k20 ?a21 ?l21 ?c21 ?k21 ?z_abs ?z_bool ?z_int ?z_isinstance ?z_len ?z_max ?z_min ?z_range ?z_str ?g_LOOKS ?l_LOOKS ?g_MENDS ?l_MENDS ?g_MOST_WEIGHT ?g_STOPS ?l_STOPS ?g_TELLINGS ?l_TELLINGS
    (case aAverage => k_is)
    (case pgAverage => k_is)
    (case hdAverage => k_is)
    (case poAverage => k_is)
    (case saAverage => k_is)
    (case mkAverage => k_is)
    (case kcAverage => k_is)
    (case nAk => k_is)
    (case nAa => k_is)
    (case nAc => k_is)
    (case nAd => k_is)
    (case nAstop => k_is)
    (case nAtold => k_is)
    (case nAmend => k_is)
    (case a0 => k_is)
    (case l0 => k_is)
    (case c0 => k_is)
    (case k0 => k_is)
    (case a1 => k_is)
    (case l1 => k_is)
    (case c1 => k_is)
    (case k1 => k_is)
    (case a2 => k_is)
    (case l2 => k_is)
    (case c2 => k_is)
    (case k2 => k_is)
    (case a3 => k_is)
    (case l3 => k_is)
    (case c3 => k_is)
    (case k3 => k_is)
    (case a4 => k_is)
    (case l4 => k_is)
    (case c4 => k_is)
    (case k4 => k_is)
    (case a5 => k_is)
    (case l5 => k_is)
    (case c5 => k_is)
    (case k5 => k_is)
    (case a6 => k_is)
    (case l6 => k_is)
    (case c6 => k_is)
    (case k6 => k_is)
    (case a7 => k_is)
    (case l7 => k_is)
    (case c7 => k_is)
    (case k7 => k_is)
    (case a8 => k_is)
    (case l8 => k_is)
    (case c8 => k_is)
    (case k8 => k_is)
    (case a9 => k_is)
    (case l9 => k_is)
    (case c9 => k_is)
    (case k9 => k_is)
    (case a10 => k_is)
    (case l10 => k_is)
    (case c10 => k_is)
    (case k10 => k_is)
    (case a11 => k_is)
    (case l11 => k_is)
    (case c11 => k_is)
    (case k11 => k_is)
    (case a12 => k_is)
    (case l12 => k_is)
    (case c12 => k_is)
    (case k12 => k_is)
    (case a13 => k_is)
    (case l13 => k_is)
    (case c13 => k_is)
    (case k13 => k_is)
    (case a14 => k_is)
    (case l14 => k_is)
    (case c14 => k_is)
    (case k14 => k_is)
    (case a15 => k_is)
    (case l15 => k_is)
    (case c15 => k_is)
    (case k15 => k_is)
    (case a16 => k_is)
    (case i16 => k_is)
    (case l16 => k_is)
    (case lT16 => k_is)
    (case c16 => k_is)
    (case k16 => k_is)
    (case a17 => k_is)
    (case l17 => k_is)
    (case c17 => k_is)
    (case k17 => k_is)
    (case a18 => k_is)
    (case l18 => k_is)
    (case c18 => k_is)
    (case k18 => k_is)
    (case a19 => k_is)
    (case i19 => k_is)
    (case l19 => k_is)
    (case c19 => k_is)
    (case k19 => k_is)
    (case a20 => k_is)
    (case l20 => k_is)
    (case c20 => k_is)
    (case k20 => k_is)
    (case a21 => k_is)
    (case l21 => k_is)
    (case c21 => k_is)
    (case k21 => k_is)
    (case z_abs => k_is)
    (case z_bool => k_is)
    (case z_int => k_is)
    (case z_isinstance => k_is)
    (case z_len => k_is)
    (case z_max => k_is)
    (case z_min => k_is)
    (case z_range => k_is)
    (case z_str => k_is)
    (case g_LOOKS => k_is)
    (case l_LOOKS => k_is)
    (case g_MENDS => k_is)
    (case l_MENDS => k_is)
    (case g_MOST_WEIGHT => k_is)
    (case g_STOPS => k_is)
    (case l_STOPS => k_is)
    (case g_TELLINGS => k_is)
    (case l_TELLINGS => k_is)
#print axioms PySem.Challenge.cw_floorward_k10_gaps_of_steps_holds


