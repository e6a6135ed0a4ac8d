import PyProof.Rows.All
import Wide.All
import OpenK.AllK
import Wide.FinOn
import HandS.ForExc
import HandS.Comp
import HandS.Iter
import HandS.Codes
import HandS.Wide
import HandS.WideBits
import HandS.EndBits
import HandS.IsInst
import HandS.Defaults
import HandS.ExcInit
import HandS.Style
import HandS.TupAny
import HandS.Rev
import HandS.Conv
import HandS.TryMany
import KE.KExcSuper
import HandS.ExcField
import HandS.WordsExc
import HandS.Deep
import PyProof.P3Eq
import HandS.OwnEq
import KE.KFmtOwn
import PyProof.Draws
import PyProof.TupleIter
import PyProof.EnumMake
import HandS.Dict
import HandS.Walk
import PySem.Challenge.RW_floorward_k22_fields_changed
set_option Elab.async false
set_option linter.all false
set_option maxRecDepth 100000
set_option maxHeartbeats 4000000
namespace Q
open PySem PySem.Spec PyProof.Rows L2
/-! ### heaps -/
/-- all that was tracked is as it was, but at a -/
def SameBut (a : Addr) (H H' : Hp) : Prop := ∀ b o, b ≠ a → H b = some o → H' b = some o
theorem SameBut.refl (a : Addr) (H : Hp) : SameBut a H H := fun _ _ _ h => h
theorem SameBut.trans {a : Addr} {H H1 H2 : Hp} (x : SameBut a H H1) (y : SameBut a H1 H2) : SameBut a H H2 := fun b o n h => y b o n (x b o n h)
theorem Same.but {a : Addr} {H H' : Hp} (x : Same H H') : SameBut a H H' := fun b o _ h => x b o h
theorem SameBut.seq {K : PySem.W.Frag} {a p : Addr} {H H' : Hp} {xs : List V} (x : SameBut a H H') (n : p ≠ a) (h : SqL K H p xs) : SqL K H' p xs := by
  rcases h with (h | ⟨o, h⟩) | h
  · exact .inl (.inl (x _ _ n h))
  · exact .inl (.inr ⟨o, x _ _ n h⟩)
  · exact .inr h
theorem SameBut.seqT {K : PySem.W.Frag} {a p : Addr} {H H' : Hp} {xs : List V} (x : SameBut a H H') (n : p ≠ a) (h : SqT K H p xs) : SqT K H' p xs := by
  rcases h with (h | ⟨o, h⟩) | h
  · exact .inl (.inl (x _ _ n h))
  · exact .inl (.inr ⟨o, x _ _ n h⟩)
  · exact .inr h
theorem Same.seqT {K : PySem.W.Frag} {p : Addr} {H H' : Hp} {xs : List V} (x : Same H H') (h : SqT K H p xs) : SqT K H' p xs := by
  rcases h with (h | ⟨o, h⟩) | h
  · exact .inl (.inl (x _ _ h))
  · exact .inl (.inr ⟨o, x _ _ h⟩)
  · exact .inr h
theorem same_new {H : Hp} {p : Addr} (h : H p = none) (o : HO) : Same H (upd H p o) := fun b u q => by rw [upd_ne (ne_of_none q h)]; exact q
theorem but_new {a : Addr} {H : Hp} {p : Addr} (h : H p = none) (o : HO) : SameBut a H (upd H p o) := Same.but (same_new h o)
theorem but_upd (H : Hp) (a : Addr) (o : HO) : SameBut a H (upd H a o) := fun b u n h => by rw [upd_ne n]; exact h
/-- behind what changes a alone: an address that was free stays apart from what was tracked -/
theorem SameBut.free {a p : Addr} {H H' : Hp} (x : SameBut a H H') (n : p ≠ a) (h : H' p = none) : H p = none := by
  cases q : H p with
  | none => rfl
  | some o =>
    have := x p o n q
    rw [h] at this
    cases this
/-! ### sizes -/
/-- i has at most b bits -/
def Sz (i : Int) (b : Nat) : Prop := i.natAbs < 2 ^ b
instance szDec (i : Int) (b : Nat) : Decidable (Sz i b) := inferInstanceAs (Decidable (i.natAbs < 2 ^ b))
theorem Sz.mono {i : Int} {a b : Nat} (h : Sz i a) (k : a ≤ b) : Sz i b := Nat.lt_of_lt_of_le h (Nat.pow_le_pow_right (by decide) k)
theorem Sz.mul {i j : Int} {a b : Nat} (h : Sz i a) (k : Sz j b) : Sz (i * j) (a + b) := wide_lt h k
theorem Sz.add {i j : Int} {a : Nat} (h : Sz i a) (k : Sz j a) : Sz (i + j) (a + 1) := by
  unfold Sz at *
  rw [Nat.pow_succ]
  omega
theorem Sz.sub {i j : Int} {a : Nat} (h : Sz i a) (k : Sz j a) : Sz (i - j) (a + 1) := by
  unfold Sz at *
  rw [Nat.pow_succ]
  omega
theorem Sz.neg {i : Int} {a : Nat} (h : Sz i a) : Sz (-i) a := by
  unfold Sz at *
  omega
theorem Sz.le {i j : Int} {a : Nat} (h : Sz j a) (h0 : 0 ≤ i) (k : i ≤ j) : Sz i a := by
  unfold Sz at *
  omega
theorem Sz.between {i lo hi : Int} {a : Nat} (h : Sz lo a) (k : Sz hi a) (h0 : lo ≤ i) (h1 : i ≤ hi) : Sz i a := by
  unfold Sz at *
  omega
theorem Sz.pow {i : Int} {a : Nat} (h : Sz i a) (ha : 0 < a) : ∀ k : Nat, Sz (i ^ k) (k * a + 1)
  | 0 => by unfold Sz; simp
  | k + 1 => by
    have ih := Sz.pow h ha k
    rw [Int.pow_succ]
    refine (Sz.mul ih h).mono ?_
    rw [Nat.succ_mul]
    omega
theorem Sz.w {i j : Int} {a b : Nat} (h : Sz i a) (k : Sz j b) (l : a + b ≤ 999998) : CMulW i j :=
  wide_mul (h.mono (Nat.le_succ a)) (k.mono (Nat.le_succ b)) (Nat.succ_pos _) (Nat.succ_pos _) (by omega)
theorem Sz.d {j : Int} {b : Nat} (i : Int) (h0 : 0 < j) (h : Sz j b) (l : b ≤ 8999) : CDivW i j := wide_div h0 (h.mono (Nat.le_succ b)) (Nat.succ_pos _) (by omega)
theorem small (n : Nat) (h : n ≤ 1000) : n ≤ sizeLine := Nat.le_of_lt (small1000 h)
/-! ### the law's stream: a list of three ints -/
def StrAt (H : Hp) (p : Addr) (c : Nat) : Prop := ∃ x y z : Int, H p = some (.lst [.int x, .int y, .int z]) ∧ 0 ≤ x ∧ 0 ≤ y ∧ y < 4294967296 ∧ 0 ≤ z ∧ z ≤ c
theorem StrAt.mono {H : Hp} {p : Addr} {c d : Nat} (h : StrAt H p c) (k : c ≤ d) : StrAt H p d := by
  obtain ⟨x, y, z, h1, h2, h3, h4, h5, h6⟩ := h
  exact ⟨x, y, z, h1, h2, h3, h4, h5, by omega⟩
theorem StrAt.same {H H' : Hp} {p : Addr} {c : Nat} (h : StrAt H p c) (k : Same H H') : StrAt H' p c := by
  obtain ⟨x, y, z, h1, h2⟩ := h
  exact ⟨x, y, z, k _ _ h1, h2⟩
theorem StrAt.but {H H' : Hp} {p a : Addr} {c : Nat} (h : StrAt H p c) (k : SameBut a H H') (n : p ≠ a) : StrAt H' p c := by
  obtain ⟨x, y, z, h1, h2⟩ := h
  exact ⟨x, y, z, k _ _ n h1, h2⟩
theorem StrAt.ne {H : Hp} {p q : Addr} {c : Nat} (h : StrAt H p c) (k : H q = none) : q ≠ p := by
  obtain ⟨x, y, z, h1, _⟩ := h
  exact fun e => by rw [e, h1] at k; cases k
/-! ### the promises of the law's own small defs -/
def spStream (K : PySem.W.Frag) : Sp := fun vs H Q _ => ∃ (a : Addr) (ns : List Int) (k : Nat), vs = [.ref a, .int k] ∧ SqL K H a (ns.map V.int) ∧ ns.length ≤ 63 ∧ k ≤ 1000 ∧
  ∀ (p : Addr) (H' : Hp), H p = none → Same H H' → StrAt H' p 0 → Q (.ref p) H'
def spDraw : Sp := fun vs H Q _ => ∃ (a : Addr) (c : Nat) (m : Int) (b : Nat), vs = [.ref a, .int m] ∧ StrAt H a c ∧ c ≤ 100000 ∧ 0 < m ∧ Sz m b ∧ b ≤ 8999 ∧
  ∀ (r : Int) (H' : Hp), 0 ≤ r → r < m → SameBut a H H' → StrAt H' a (c + 1) → Q (.int r) H'
def spPick (K : PySem.W.Frag) : Sp := fun vs H Q _ => ∃ (a : Addr) (c : Nat) (p : Addr) (xs : List V), vs = [.ref a, .ref p] ∧ StrAt H a c ∧ c ≤ 100000 ∧ p ≠ a ∧ SqL K H p xs ∧ xs ≠ [] ∧ xs.length ≤ 1000 ∧
  ∀ (v : V) (H' : Hp), v ∈ xs → SameBut a H H' → StrAt H' a (c + 1) → Q v H'
def spLPow : Sp := fun vs H Q _ => ∃ (x e : Int) (b : Nat), vs = [.int x, .int e] ∧ 0 ≤ e ∧ Sz x b ∧ 0 < b ∧ (e.toNat + 1) * b + 1 ≤ 999000 ∧ e < 1000 ∧ Q (.int (x ^ e.toNat)) H
/-- the two ways of a choice meet -/
theorem if_join {b : Bool} {ta tb : TE} {σ : L2.St} {H : Hp} {Q : VK} (v : V) (hq : Q v H) (h1 : b = true → ∀ Q : VK, Q v H → ta σ H Q) (h2 : b = false → ∀ Q : VK, Q v H → tb σ H Q) : if b = true then ta σ H Q else tb σ H Q := by
  cases b with
  | true => exact iteT (h1 rfl Q hq)
  | false => exact iteF (h2 rfl Q hq)
/-! ### weights -/
def crow (k a : Int) (j : Nat) : List (Int × Int) := ((([1, 2, 3] : List Int).take j).filter fun c => decide (c * (k - 1) ≤ a) && decide (a + c ≤ 6)).map fun c => (a, c)
def wrow (k a : Int) : List (Int × Int) := (([1, 2, 3] : List Int).filter fun c => decide (c * (k - 1) ≤ a) && decide (a + c ≤ 6)).map fun c => (a, c)
theorem crow_succ {k a z : Int} {j : Nat} (hz : ([1, 2, 3] : List Int)[j]? = some z) : crow k a (j + 1) = crow k a j ++ (if (decide (z * (k - 1) ≤ a) && decide (a + z ≤ 6)) = true then [(a, z)] else []) := by
  unfold crow
  rw [List.take_succ, hz, List.filter_append, List.map_append]
  congr 1
  show List.map _ (List.filter _ [z]) = _
  rw [List.filter_cons]
  split <;> rfl
def wtsTo (k : Int) : Nat → List (Int × Int)
  | 0 => []
  | i + 1 => wtsTo k i ++ wrow k (1 + i)
def wts (k : Int) : List (Int × Int) := wtsTo k 5
theorem wrow_len (k a : Int) : (wrow k a).length ≤ 3 := by
  unfold wrow
  rw [List.length_map]
  exact Nat.le_trans (List.length_filter_le _ _) (by decide)
theorem wtsTo_len (k : Int) : ∀ i, (wtsTo k i).length ≤ 3 * i
  | 0 => Nat.le_refl 0
  | i + 1 => by
    have h1 := wtsTo_len k i
    have h2 := wrow_len k (1 + i)
    unfold wtsTo
    rw [List.length_append]
    omega
theorem wrow_mem {k a : Int} {p : Int × Int} (h : p ∈ wrow k a) : p.1 = a ∧ 1 ≤ p.2 ∧ p.2 ≤ 3 ∧ p.2 * (k - 1) ≤ a ∧ a + p.2 ≤ 6 := by
  unfold wrow at h
  obtain ⟨c, hc, rfl⟩ := List.mem_map.mp h
  obtain ⟨h1, h2⟩ := List.mem_filter.mp hc
  rw [Bool.and_eq_true, decide_eq_true_eq, decide_eq_true_eq] at h2
  have h3 : 1 ≤ c ∧ c ≤ 3 := by
    simp only [List.mem_cons, List.not_mem_nil, or_false] at h1
    omega
  exact ⟨rfl, h3.1, h3.2, h2.1, h2.2⟩
theorem wtsTo_mem {k : Int} {p : Int × Int} : ∀ {i : Nat}, p ∈ wtsTo k i → 1 ≤ p.1 ∧ p.1 ≤ i ∧ 1 ≤ p.2 ∧ p.2 ≤ 3 ∧ p.2 * (k - 1) ≤ p.1 ∧ p.1 + p.2 ≤ 6
  | 0, h => by cases h
  | i + 1, h => by
    unfold wtsTo at h
    rcases List.mem_append.mp h with h | h
    · obtain ⟨h1, h2, h3⟩ := wtsTo_mem h
      exact ⟨h1, by omega, h3⟩
    · obtain ⟨h1, h2, h3, h4, h5⟩ := wrow_mem h
      refine ⟨by omega, by omega, h2, h3, by rw [h1]; exact h4, by omega⟩
theorem wts_mem {k : Int} {p : Int × Int} (h : p ∈ wts k) : 1 ≤ p.1 ∧ p.1 ≤ 5 ∧ 1 ≤ p.2 ∧ p.2 ≤ 3 ∧ p.2 * (k - 1) ≤ p.1 ∧ p.1 + p.2 ≤ 6 := wtsTo_mem h
theorem wts_ne {k : Int} (h0 : 2 ≤ k) (h1 : k ≤ 4) : wts k ≠ [] := by
  have : k = 2 ∨ k = 3 ∨ k = 4 := by omega
  rcases this with rfl | rfl | rfl <;> decide
theorem int_at {ns : List Int} {j : Nat} {x : V} (h : (ns.map V.int)[j]? = some x) : ∃ z, ns[j]? = some z ∧ x = V.int z := by
  rw [List.getElem?_map] at h
  cases e : ns[j]? with
  | none =>
    rw [e] at h
    cases h
  | some z =>
    rw [e] at h
    exact ⟨z, rfl, (Option.some.inj h).symm⟩
/-- a list's items are the tuples of these pairs -/
def Prs (H : Hp) (vs : List V) (ps : List (Int × Int)) : Prop := Paired (fun (v : V) (p : Int × Int) => ∃ r : Addr, v = .ref r ∧ H r = some (.tup [.int p.1, .int p.2])) vs ps
theorem Prs.mono {H H' : Hp} {vs : List V} {ps : List (Int × Int)} (h : Prs H vs ps) (k : ∀ b xs, H b = some (.tup xs) → H' b = some (.tup xs)) : Prs H' vs ps := Paired.mapP h fun v p ⟨r, e, q⟩ => ⟨r, e, k _ _ q⟩
theorem Prs.app {H : Hp} : ∀ {vs ws : List V} {ps qs : List (Int × Int)}, Prs H vs ps → Prs H ws qs → Prs H (vs ++ ws) (ps ++ qs)
  | _, _, _, _, .nil, s => s
  | _, _, _, _, .cons r t, s => .cons r (Prs.app t s)
theorem Prs.mem {H : Hp} : ∀ {vs : List V} {ps : List (Int × Int)} {v : V}, Prs H vs ps → v ∈ vs → ∃ p ∈ ps, ∃ r : Addr, v = .ref r ∧ H r = some (.tup [.int p.1, .int p.2])
  | _, _, v, .nil, h => by cases h
  | _, _, v, .cons (a := a) (b := b) r t, h => by
    rcases List.mem_cons.mp h with rfl | h
    · exact ⟨_, List.mem_cons_self .., r⟩
    · obtain ⟨p, hp, q⟩ := Prs.mem t h
      exact ⟨p, List.mem_cons_of_mem _ hp, q⟩
def spWts : Sp := fun vs H Q _ => ∃ k : Int, vs = [.int k] ∧ 2 ≤ k ∧ k ≤ 4 ∧ ∀ (p : Addr) (acc : List V) (H' : Hp), H p = none → Same H H' → H' p = some (.lst acc) → Prs H' acc (wts k) → Q (.ref p) H'
/-! ### an average loop's parts -/
def stops : List Str := ["notless", "equal", "near1", "near2", "back", "under", "held"]
def looks : List Str := ["under", "held"]
def tellings : List Str := ["old", "new", "less", "more"]
def mendings : List Str := ["none", "down", "up", "both"]
structure Parts where
  k : Int
  a : Int
  c : Int
  d : Int
  stop : Str
  told : Str
  mend : Str
structure Parts.Ok (p : Parts) : Prop where
  k2 : 2 ≤ p.k
  k4 : p.k ≤ 4
  a1 : 1 ≤ p.a
  c1 : 1 ≤ p.c
  ca : p.c * (p.k - 1) ≤ p.a
  m6 : p.a + p.c ≤ 6
  d0 : -p.a ≤ p.d
  d1 : p.d ≤ p.a + p.c
  st : p.stop ∈ stops
  te : p.told ∈ tellings
  lo : p.stop ∈ looks → p.told = "old"
  me : p.mend ∈ mendings
def Parts.vs (p : Parts) : List V := [.int p.k, .int p.a, .int p.c, .int p.d, .str p.stop, .str p.told, .str p.mend]
def spParts : Sp := fun vs H Q _ => ∃ (a : Addr) (c : Nat), vs = [.ref a] ∧ StrAt H a c ∧ c ≤ 90000 ∧ ∀ (p : Addr) (H' : Hp) (L : Parts), H p = none → SameBut a H H' → StrAt H' a (c + 10) → H' p = some (.tup L.vs) → L.Ok → Q (.ref p) H'
theorem inV_str (s : Str) (l : List Str) : inV (.str s) (l.map V.str) = decide (s ∈ l) := by
  unfold inV
  rw [List.any_map]
  induction l with
  | nil => rfl
  | cons x l ih =>
    rw [List.any_cons, ih]
    show ((x == s) || decide (s ∈ l)) = decide (s ∈ x :: l)
    by_cases h : x = s
    · subst h
      simp
    · have h1 : (x == s) = false := by simpa using h
      have h2 : ¬ s = x := fun e => h e.symm
      rw [h1, Bool.false_or]
      simp [h2]
/-- two-argument max and min of ints, as the rules tell them -/
theorem max2 (i j : Int) : (if j > i then j else i) = max i j := by omega
theorem min2 (i j : Int) : (if j < i then j else i) = min i j := by omega
/-! ### is it an integer -/
/-- the value is an int that is no bool (b), or it is none -/
def IsI (K : PySem.W.Frag) (H : Hp) (x : V) (b : Bool) : Prop := ∃ (t : Value) (b1 b2 : Bool), TyX K H x t ∧ PySem.W.kitOne K t (.type "int") = some b1 ∧ PySem.W.kitOne K t (.type "bool") = some b2 ∧ b = (b1 && !b2)
theorem isI_int (K : PySem.W.Frag) (H : Hp) (i : Int) : IsI K H (.int i) true := ⟨_, true, false, .base (.int i), kit_ty (by decide +kernel), kit_ty (by decide +kernel), rfl⟩
theorem isI_bl (K : PySem.W.Frag) (H : Hp) (x : Bool) : IsI K H (.bl x) false := ⟨_, true, true, .base (.bl x), kit_ty (by decide +kernel), kit_ty (by decide +kernel), rfl⟩
theorem isI_non (K : PySem.W.Frag) (H : Hp) : IsI K H .non false := ⟨_, false, false, .base .non, kit_ty (by decide +kernel), kit_ty (by decide +kernel), rfl⟩
theorem isI_str (K : PySem.W.Frag) (H : Hp) (x : Str) : IsI K H (.str x) false := ⟨_, false, false, .base (.str x), kit_ty (by decide +kernel), kit_ty (by decide +kernel), rfl⟩
theorem isI_lst (K : PySem.W.Frag) {H : Hp} {a : Addr} {xs : List V} (h : H a = some (.lst xs)) : IsI K H (.ref a) false := ⟨_, false, false, .base (.lst h), kit_ty (by decide +kernel), kit_ty (by decide +kernel), rfl⟩
theorem isI_tup (K : PySem.W.Frag) {H : Hp} {a : Addr} {xs : List V} (h : H a = some (.tup xs)) : IsI K H (.ref a) false := ⟨_, false, false, .base (.tup h), kit_ty (by decide +kernel), kit_ty (by decide +kernel), rfl⟩
def spIsInt (K : PySem.W.Frag) : Sp := fun vs H Q _ => ∃ (x : V) (b : Bool), vs = [x] ∧ IsI K H x b ∧ Q (.bl b) H
def spIsFrom (K : PySem.W.Frag) : Sp := fun vs H Q _ => ∃ (x : V) (l : Int), vs = [x, .int l] ∧ ((∃ i, x = .int i ∧ Q (.bl (decide (l ≤ i))) H) ∨ (IsI K H x false ∧ Q (.bl false) H))
def spIsWithin (K : PySem.W.Frag) : Sp := fun vs H Q _ => ∃ (x : V) (l m : Int), vs = [x, .int l, .int m] ∧ ((∃ i, x = .int i ∧ Q (.bl (decide (l ≤ i) && decide (i ≤ m))) H) ∨ (IsI K H x false ∧ Q (.bl false) H))
def spIsLP (K : PySem.W.Frag) : Sp := fun vs H Q _ => ∃ (x : V), vs = [x] ∧ ((∃ i, x = .int i ∧ Q (.bl (decide (2 ≤ i) && decide (i ≤ 4))) H) ∨ (IsI K H x false ∧ Q (.bl false) H))
def spGreatC : Sp := fun vs H Q _ => ∃ (k a : Int), vs = [.int k, .int a] ∧ 2 ≤ k ∧ k ≤ 4 ∧ 1 ≤ a ∧ a ≤ 5 ∧ Q (.int (if 6 - a < a / (k - 1) then 6 - a else a / (k - 1))) H
def spReqNum : Sp := fun vs H Q _ => ∃ n : Int, vs = [.int n] ∧ 0 ≤ n ∧ Q .non H
def spReqStart : Sp := fun vs H Q _ => ∃ n : Int, vs = [.int n] ∧ 1 ≤ n ∧ Q .non H
def spPow (n : Nat) : Sp := fun vs H Q _ => ∃ (x e : Int) (b : Nat), vs = [.int x, .int e] ∧ 0 ≤ e ∧ e.toNat < n ∧ Sz x b ∧ 0 < b ∧ (e.toNat + 1) * b + 1 ≤ 499000 ∧ e ≤ 1000 ∧ Q (.int (x ^ e.toNat)) H
def spIsWord (K : PySem.W.Frag) : Sp := fun vs H Q _ => ∃ (x : V) (p : Addr) (l : List Str), vs = [x, .ref p] ∧ SqT K H p (l.map V.str) ∧
  ((∃ s, x = .str s ∧ Q (.bl (decide (s ∈ l))) H) ∨ ((∃ t, TyX K H x t ∧ PySem.W.kitOne K t (.type "str") = some false) ∧ Q (.bl false) H))
def tellingsOf (stop : Str) : List Str := if stop ∈ looks then ["old"] else tellings
def spTellings (K : PySem.W.Frag) : Sp := fun vs H Q _ => ∃ stop : Str, vs = [.str stop] ∧ ∀ (p : Addr) (H' : Hp), Same H H' → SqT K H' p ((tellingsOf stop).map V.str) → Q (.ref p) H'
def spWrongOk : Sp := fun vs H Q _ => ∃ L : Parts, vs = L.vs ∧ L.Ok ∧ ∀ H' : Hp, Same H H' → Q .non H'
theorem Parts.Ok.told_ok {L : Parts} (h : L.Ok) : L.told ∈ tellingsOf L.stop := by
  unfold tellingsOf
  split
  · rename_i c
    rw [h.lo c]
    decide
  · exact h.te
/-! ### the loop as an object -/
structure AvgTxt (K : PySem.W.Frag) (C : Addr) : Prop where
  cl : Cls K C
  nk : NoAttr K C "k"
  na : NoAttr K C "a"
  nc : NoAttr K C "c"
  nd : NoAttr K C "d"
  ns : NoAttr K C "stop"
  nt : NoAttr K C "told"
  nm : NoAttr K C "mend"
def avgF (L : Parts) : List (Str × V) :=
  putF "mend" (.str L.mend) (putF "told" (.str L.told) (putF "stop" (.str L.stop) (putF "d" (.int L.d) (putF "c" (.int L.c) (putF "a" (.int L.a) (putF "k" (.int L.k) []))))))
theorem putF_len (f : Str) (v : V) : ∀ fs : List (Str × V), (putF f v fs).length ≤ fs.length + 1
  | [] => Nat.le_refl 1
  | (g, x) :: r => by
    show (if g = f then (g, v) :: r else (g, x) :: putF f v r).length ≤ r.length + 1 + 1
    split
    · exact Nat.le_succ _
    · exact Nat.succ_le_succ (putF_len f v r)
theorem avgF_no (L : Parts) {m : Str} (h1 : ¬ m = "mend") (h2 : ¬ m = "told") (h3 : ¬ m = "stop") (h4 : ¬ m = "d") (h5 : ¬ m = "c") (h6 : ¬ m = "a") (h7 : ¬ m = "k") : (avgF L).lookup m = none := by
  unfold avgF
  rw [lookup_putF, if_neg h1, lookup_putF, if_neg h2, lookup_putF, if_neg h3, lookup_putF, if_neg h4, lookup_putF, if_neg h5, lookup_putF, if_neg h6, lookup_putF, if_neg h7]
  rfl
theorem avgF_k (L : Parts) : (avgF L).lookup ("k" : Str) = some (.int L.k) := by
  unfold avgF
  rw [lookup_putF, if_neg (by decide +kernel), lookup_putF, if_neg (by decide +kernel), lookup_putF, if_neg (by decide +kernel), lookup_putF, if_neg (by decide +kernel), lookup_putF, if_neg (by decide +kernel), lookup_putF, if_neg (by decide +kernel), lookup_putF, if_pos rfl]
theorem avgF_a (L : Parts) : (avgF L).lookup ("a" : Str) = some (.int L.a) := by
  unfold avgF
  rw [lookup_putF, if_neg (by decide +kernel), lookup_putF, if_neg (by decide +kernel), lookup_putF, if_neg (by decide +kernel), lookup_putF, if_neg (by decide +kernel), lookup_putF, if_neg (by decide +kernel), lookup_putF, if_pos rfl]
theorem avgF_c (L : Parts) : (avgF L).lookup ("c" : Str) = some (.int L.c) := by
  unfold avgF
  rw [lookup_putF, if_neg (by decide +kernel), lookup_putF, if_neg (by decide +kernel), lookup_putF, if_neg (by decide +kernel), lookup_putF, if_neg (by decide +kernel), lookup_putF, if_pos rfl]
theorem avgF_d (L : Parts) : (avgF L).lookup ("d" : Str) = some (.int L.d) := by
  unfold avgF
  rw [lookup_putF, if_neg (by decide +kernel), lookup_putF, if_neg (by decide +kernel), lookup_putF, if_neg (by decide +kernel), lookup_putF, if_pos rfl]
theorem avgF_stop (L : Parts) : (avgF L).lookup ("stop" : Str) = some (.str L.stop) := by
  unfold avgF
  rw [lookup_putF, if_neg (by decide +kernel), lookup_putF, if_neg (by decide +kernel), lookup_putF, if_pos rfl]
theorem avgF_told (L : Parts) : (avgF L).lookup ("told" : Str) = some (.str L.told) := by
  unfold avgF
  rw [lookup_putF, if_neg (by decide +kernel), lookup_putF, if_pos rfl]
theorem avgF_mend (L : Parts) : (avgF L).lookup ("mend" : Str) = some (.str L.mend) := by
  unfold avgF
  rw [lookup_putF, if_pos rfl]
def AvgAt (C : Addr) (H : Hp) (p : Addr) (L : Parts) : Prop := ∃ dx : Addr, H p = some (.ins C dx (avgF L))
def spAvgInit (C : Addr) : Sp := fun vs H Q _ => ∃ (x dx : Addr) (L : Parts), vs = .ref x :: L.vs ∧ L.Ok ∧ H x = some (.ins C dx []) ∧ ∀ H', AvgAt C H' x L → SameBut x H H' → Q .non H'
def stepZ (L : Parts) (n x : Int) : Int := (L.a * x + L.c * (n / x ^ (L.k - 1).toNat) + L.d) / (L.a + L.c)
def spNext (C : Addr) : Sp := fun vs H Q _ => ∃ (p : Addr) (L : Parts) (n x : Int) (b : Nat), vs = [.ref p, .int n, .int x] ∧ AvgAt C H p L ∧ L.Ok ∧ 0 ≤ n ∧ 1 ≤ x ∧ Sz x b ∧ 0 < b ∧ b ≤ 2000 ∧ Q (.int (stepZ L n x)) H
theorem Same.keep {H H1 H2 : Hp} {a : Addr} (s : Same H H1) (n : H a = none) (b : SameBut a H1 H2) : Same H H2 := fun c o e => b c o (ne_of_none e n) (s c o e)
theorem Sz.ub {i : Int} {b : Nat} (h : Sz i b) : i < 2 ^ b := by
  have e : ((2 ^ b : Nat) : Int) = (2 : Int) ^ b := by rw [Int.natCast_pow] <;> rfl
  unfold Sz at h
  omega
theorem Sz.lb {i : Int} {b : Nat} (h : Sz i b) : -(2 ^ b) < i := by
  have e : ((2 ^ b : Nat) : Int) = (2 : Int) ^ b := by rw [Int.natCast_pow] <;> rfl
  unfold Sz at h
  omega
theorem Sz.mk {i : Int} {b : Nat} (h : -(2 ^ b) < i) (k : i < 2 ^ b) : Sz i b := by
  have e : ((2 ^ b : Nat) : Int) = (2 : Int) ^ b := by rw [Int.natCast_pow] <;> rfl
  unfold Sz
  omega
def spLaw (K : PySem.W.Frag) : Sp := fun vs H Q _ => ∃ (a : Addr) (ns : List Int), vs = [.ref a] ∧ SqL K H a (ns.map V.int) ∧ ns.length ≤ 63 ∧ ∀ H', Q (.bl true) H'
/-- a new object and its __init__ -/
theorem made_same {H H3 : Hp} {x dx C : Addr} (nx : H x = none) (nd : H dx = none) (b : SameBut x (upd (upd H dx (.own x)) x (.ins C dx [])) H3) : Same H H3 := fun c o e =>
  b c o (ne_of_none e nx) (by rw [upd_ne (ne_of_none e nx), upd_ne (ne_of_none e nd)]; exact e)
/-! ### gaps (law k10) -/
theorem pw2 (x : Int) : x ^ (2 : Int).toNat = x * x := by
  show x ^ 2 = x * x
  rw [Int.pow_succ, Int.pow_succ, Int.pow_zero, Int.one_mul]
theorem pw1 (x : Int) : x ^ (1 : Int).toNat = x := by
  show x ^ 1 = x
  rw [Int.pow_succ, Int.pow_zero, Int.one_mul]
theorem pw3 (x : Int) : x ^ (3 : Int).toNat = x * x * x := by
  show x ^ 3 = x * x * x
  rw [Int.pow_succ, Int.pow_succ, Int.pow_succ, Int.pow_zero, Int.one_mul]
theorem pw4 (x : Int) : x ^ (4 : Int).toNat = x * x * x * x := by
  show x ^ 4 = x * x * x * x
  rw [Int.pow_succ, Int.pow_succ, Int.pow_succ, Int.pow_succ, Int.pow_zero, Int.one_mul]
/-- the quotient is never below what makes q nought -/
theorem amgm {k r i : Int} (hk : k = 2 ∨ k = 3 ∨ k = 4) (hr : 1 ≤ r) (hx : 1 ≤ r + i) : (r - (k - 1) * i) * (r + i) ^ (k - 1).toNat ≤ r ^ k.toNat := by
  have sq : 0 ≤ i * i := by
    rcases Int.le_total 0 i with h | h
    · exact Int.mul_nonneg h h
    · exact Int.mul_nonneg_of_nonpos_of_nonpos h h
  rcases hk with rfl | rfl | rfl
  · show (r - (2 - 1) * i) * (r + i) ^ (1 : Int).toNat ≤ r ^ (2 : Int).toNat
    rw [pw1, pw2]
    have e : r * r - (r - (2 - 1) * i) * (r + i) = i * i := by grind
    omega
  · show (r - (3 - 1) * i) * (r + i) ^ (2 : Int).toNat ≤ r ^ (3 : Int).toNat
    rw [pw2, pw3]
    have e : r * r * r - (r - (3 - 1) * i) * ((r + i) * (r + i)) = i * i * (r + 2 * (r + i)) := by grind
    have h : 0 ≤ i * i * (r + 2 * (r + i)) := Int.mul_nonneg sq (by omega)
    omega
  · show (r - (4 - 1) * i) * (r + i) ^ (3 : Int).toNat ≤ r ^ (4 : Int).toNat
    rw [pw3, pw4]
    have e : r * r * r * r - (r - (4 - 1) * i) * ((r + i) * (r + i) * (r + i)) = i * i * (6 * (r * r) + 8 * (r * i) + 3 * (i * i)) := by grind
    have sq2 : 0 ≤ (3 * r + 2 * i) * (3 * r + 2 * i) := by
      rcases Int.le_total 0 (3 * r + 2 * i) with h | h
      · exact Int.mul_nonneg h h
      · exact Int.mul_nonneg_of_nonpos_of_nonpos h h
    have e2 : 3 * (6 * (r * r) + 8 * (r * i) + 3 * (i * i)) = 2 * ((3 * r + 2 * i) * (3 * r + 2 * i)) + i * i := by grind
    have h : 0 ≤ i * i * (6 * (r * r) + 8 * (r * i) + 3 * (i * i)) := Int.mul_nonneg sq (by omega)
    omega
def nearZ (k r i j : Int) : Int := (r + i) ^ (k - 1).toNat * (r - (k - 1) * i + j) - r ^ k.toNat
def quoZ (k r i n : Int) : Int := n / (r + i) ^ (k - 1).toNat - r + (k - 1) * i
theorem quo_iff {k r i j s : Int} (hx : 1 ≤ r + i) : j ≤ quoZ k r i (r ^ k.toNat + s) ↔ nearZ k r i j ≤ s := by
  have hp : 0 < (r + i) ^ (k - 1).toNat := Int.pow_pos (by omega)
  unfold quoZ nearZ
  have h := Int.le_ediv_iff_mul_le (a := r - (k - 1) * i + j) (b := r ^ k.toNat + s) hp
  rw [Int.mul_comm (r - (k - 1) * i + j)] at h
  omega
theorem quo_nn {k r i s : Int} (hk : k = 2 ∨ k = 3 ∨ k = 4) (hr : 1 ≤ r) (hx : 1 ≤ r + i) (hs : 0 ≤ s) : 0 ≤ quoZ k r i (r ^ k.toNat + s) := by
  rw [quo_iff hx]
  have h := amgm hk hr hx
  unfold nearZ
  rw [Int.add_zero, Int.mul_comm]
  omega
theorem step_gap {a c d k r i n : Int} (hm : 0 < a + c) : (a * (r + i) + c * (n / (r + i) ^ (k - 1).toNat) + d) / (a + c) = r + ((a - c * (k - 1)) * i + c * quoZ k r i n + d) / (a + c) := by
  unfold quoZ
  generalize n / (r + i) ^ (k - 1).toNat = q
  have e : a * (r + i) + c * q + d = (a - c * (k - 1)) * i + c * (q - r + (k - 1) * i) + d + (a + c) * r := by grind
  rw [e, Int.add_mul_ediv_left _ _ (by omega)]
  omega
def spTurn : Sp := fun vs H Q _ => ∃ (k r i j : Int) (b : Nat), vs = [.int k, .int r, .int i, .int j] ∧ 2 ≤ k ∧ k ≤ 4 ∧ Sz (r + i) b ∧ Sz r b ∧ Sz (r - (k - 1) * i + j) b ∧ 0 < b ∧ b ≤ 1000 ∧ Q (.int (nearZ k r i j)) H
theorem pow_lt_succ {r : Int} {k : Nat} (hr : 0 ≤ r) (hk : 1 ≤ k) : r ^ k < (r + 1) ^ k := by
  induction k with
  | zero => omega
  | succ k ih =>
    rw [Int.pow_succ, Int.pow_succ]
    by_cases h : k = 0
    · subst h
      rw [Int.pow_zero, Int.pow_zero]
      omega
    · have h1 := ih (by omega)
      have h0 : 0 ≤ r ^ k := Int.pow_nonneg hr
      have h2 : r ^ k * r ≤ (r + 1) ^ k * r := Int.mul_le_mul_of_nonneg_right (by omega) hr
      have h3 : (r + 1) ^ k * (r + 1) = (r + 1) ^ k * r + (r + 1) ^ k := by rw [Int.mul_add, Int.mul_one]
      omega
theorem AvgAt.but {C : Addr} {H H' : Hp} {p a : Addr} {L : Parts} (h : AvgAt C H p L) (b : SameBut a H H') (n : p ≠ a) : AvgAt C H' p L := by
  obtain ⟨dx, e⟩ := h
  exact ⟨dx, b _ _ n e⟩
theorem AvgAt.same {C : Addr} {H H' : Hp} {p : Addr} {L : Parts} (h : AvgAt C H p L) (b : Same H H') : AvgAt C H' p L := by
  obtain ⟨dx, e⟩ := h
  exact ⟨dx, b _ _ e⟩
/-- every parameter is given, defaults stand in the tuple at T -/
theorem binds_full {K : PySem.W.Frag} {fd : FuncData} {ps : List Str} {T : Addr} {o : Obj} {its : Array Value} {m : Nat} (lT : K.lookup T = some o) (oT : o.data = .seq its m)
    (h : ∀ us : List Value, us.length = ps.length → ∃ k, bindArgs fd ⟨us, []⟩ = seqItems? (.ref T) >>= k ∧ k (some its) = pure (ps.zip us)) : Binds K fd ps [] := fun s us X hl => by
  rw [List.append_nil] at hl ⊢
  obtain ⟨k, e1, e2⟩ := h us hl
  refine BindsTo.of_looks fun M => ?_
  rw [e1]
  exact looks_items X lT oT (.of_pure e2)
theorem room64 {k : Nat} {A : Around} (r : Room k A) : A.units + 64 < cLine := by
  have := r.un
  omega
/-- go on with any heap of which this is known -/
theorem swap {Φ : Hp → Prop} {H : Hp} (P : Hp → Prop) (h : P H) (q : ∀ G, P G → Φ G) : Φ H := q H h
end Q

set_option Elab.async false
set_option linter.all false
set_option maxRecDepth 100000
set_option maxHeartbeats 4000000
/-! an own error class over FloorError(ValueError) whose __init__ says super().__init__(a text) and then stores its one argument -/
namespace PySem
namespace QErr
open PySem.W PySem.Calls PyProof.Rows PySem.HandSPX
def eA (v : Str) (p1 p2 : Pos) : Arguments := { posonlyargs := [], args := [{ arg := "self", annotation := none, pos := p1 }, { arg := v, annotation := none, pos := p2 }], vararg := none, kwonlyargs := [], kw_defaults := [], kwarg := none, defaults := [] }
def eB (v m : Str) (j : Nat) (q1 q2 q3 q4 q5 q6 q7 q8 q9 q10 : Pos) : List Stmt :=
  [.Expr (.Call (.Attribute (.Call (.Name "super" q1) [] [] q2) "__init__" q3) [.Constant (.str m) j q4] [] q5) q6, .Assign [.Attribute (.Name "self" q7) v q8] (.Name v q9) q10]
def eS (v : Str) : Scope := { kind := .function, names := [(PySem.Str.ofString "self", .local), (v, .local), (PySem.Str.ofString "__class__", .free), (PySem.Str.ofString "super", .globalImplicit)], isGenerator := false, isCoroutine := false, more := [] }
theorem scCell {v : Str} (hv : v = "value" ∨ v = "word" ∨ v = "field") : ∀ y ∈ (eS v).names, y.2 ≠ NameKind.cell := by
  rcases hv with rfl | rfl | rfl <;> decide +kernel
theorem scLook {v : Str} (hv : v = "value" ∨ v = "word" ∨ v = "field") : (eS v).names.lookup v = some NameKind.local := by
  rcases hv with rfl | rfl | rfl <;> decide +kernel
theorem scSelf (v : Str) : (eS v).names.lookup ("self" : Str) = some NameKind.local := rfl
theorem scLoc {v : Str} (hv : v = "value" ∨ v = "word" ∨ v = "field") (a b : Value) : ∀ y ∈ ([("self", a), (v, b)] : List (Str × Value)), (eS v).names.lookup y.1 = some NameKind.local := by
  intro y hy
  simp only [List.mem_cons, List.not_mem_nil, or_false] at hy
  rcases hy with rfl | rfl
  · exact scSelf v
  · exact scLook hv
theorem scSuper {v : Str} (hv : v = "value" ∨ v = "word" ∨ v = "field") : (eS v).names.lookup ("super" : Str) = some NameKind.globalImplicit := by
  rcases hv with rfl | rfl | rfl <;> decide +kernel
theorem scClass {v : Str} (hv : v = "value" ∨ v = "word" ∨ v = "field") : (eS v).names.lookup ("__class__" : Str) = some NameKind.free := by
  rcases hv with rfl | rfl | rfl <;> decide +kernel
structure ErrTxt (prog : Program) (K : Frag) (mg : Str → Option Value) (n v : Str) (C fI : Addr) : Prop where
  gC : mg n = some (.ref C)
  cls : ∃ nm q N bs bm sn sub ab col dd k0 k1 k2 k3 k5, K.lookup C = some (excClassObj nm q C N bs bm true sn sub ab col dd k0 k1 k2 k3 k5 "ValueError.__new__") ∧ refsVE bm = true
  sa : findIn K (.ref C) "__setattr__" = some (some (.builtin "object.__setattr__"))
  ga : findIn K (.ref C) "__getattribute__" = some (some (.builtin "BaseException.__getattribute__"))
  gg : findIn K (.ref C) "__getattr__" = some none
  noN : findIn K (.ref C) v = some none
  iC : findIn K (.ref C) "__init__" = some (some (.ref fI))
  tC : typeIn K (.ref fI) = some (.type "function")
  kC : keepIn K (.ref C) = true
  exC : subIn K (.ref C) (.type "BaseException") = some true
  tyC : typeIn K (.ref C) = some (.type "type")
  hdC : hasDictIn K C = true
  te : exmOne K (.ref C) (.ref C) = some true
  self : mroIn K C (.ref C) = some true
  subV : subIn K (.ref C) (.type "ValueError") = some true
  up : ks_superIn K C C "__init__" = some (some (.builtin "ValueError.__init__"))
  any : nsIn K cStatics "thirdparty.any" = some none
  sup : mg "super" = none
  top : (prog.main.scope.names.lookup ("super" : Str)).isSome = false
  fn : ∃ (qual : Str) (oc : Value) (od : Option Addr) (doc pm : Value) (an : Option Addr) (cda cc : Addr) (ct : Value) (osl : Array (Option Value)) (m : Str) (j : Nat) (p1 p2 q1 q2 q3 q4 q5 q6 q7 q8 q9 q10 : Pos),
    K.lookup fI = some ⟨oc, od, .func (ksFn "__init__" qual (eA v p1 p2) (eB v m j q1 q2 q3 q4 q5 q6 q7 q8 q9 q10) (eS v) .none .none doc pm an (.ref cda) ct cc), osl⟩ ∧ codeIn K (.ref cda) qual = true ∧
    (∃ (ccl : Value) (cdd : Option Addr) (vs : Array Value) (ccs : Array (Option Value)) (file : Str) (tf : Tok), K.lookup cda = some ⟨ccl, cdd, .fields vs, ccs⟩ ∧ vs[2]? = some (.str file tf) ∧ ((prog.main.file : Str) == file) = true) ∧
    (∃ (cl : Value) (cld : Option Addr) (csl : Array (Option Value)), K.lookup cc = some ⟨cl, cld, .cell (some (.ref C)), csl⟩) ∧
    ∃ pl : Env → Sem Bool, ∀ env : Env, eval (.Call (.Attribute (.Call (.Name "super" q1) [] [] q2) "__init__" q3) [.Constant (.str m) j q4] [] q5) env = (do
      let ov ← attributeBase (.Call (.Name "super" q1) [] [] q2) "__init__" env (eval (.Call (.Name "super" q1) [] [] q2) env)
      standAt q3.atName
      let (f, first) ← holding [ov] (getMethod ov "__init__" (pl env))
      callWith q5 f first (backTo q5 (starEach [.Constant (.str m) j q4] env)) [])
/-- what __init__ leaves of a fresh exception at x -/
structure InitEnd (h h' : Heap) (x C dx : Addr) (v : Str) (u : Value) : Prop where
  keep : ∀ b o, b ≠ x → h.get? b = some o → h'.get? b = some o
  obj : ∃ t1 : Addr, h'.get? x = some { cls := .ref C, dict := some dx, data := .fields #[.ref t1, .none, .none, .none, .bool false, .none] }
  dbig : h.objs.size ≤ dx
  dne : dx ≠ x
  ns : h'.Ns1 dx (fun y => if y = v then some u else none)
section
variable {prog : Program} {w : World} {A : Around} {E : Value → Shared → Prop} {R : Result → Shared → Prop} {s : Shared} {K : Frag} {mg : Str → Option Value} {n v : Str} {C fI : Addr}
/-- the bound built-in __init__ is called: the args are laid anew -/
theorem call_up (F : ExcBaseFacts "ValueError" "ValueError.__new__" "ValueError.__init__" veTail) {u x t0 : Addr} {rest : List Value} {Q : Value → Shared → Prop} {nm q : Str} {N : Addr} {bs bm : List Value} {sn : List Str} {sub : List Value} {ab : Bool} {col : Option Bool} {dd : Option Addr} {k0 k1 k2 k3 k5 : Option Value}
    (hC : s.heap.get? C = some (excClassObj nm q C N bs bm true sn sub ab col dd k0 k1 k2 k3 k5 "ValueError.__new__")) (hx : s.heap.get? x = some (excO C t0)) (hu : s.heap.get? u = some (kxs_mw "ValueError.__init__" x)) (hz : rest.length ≤ sizeLine)
    (hq : ∀ h' t1, (∀ b o, b ≠ x → s.heap.get? b = some o → h'.get? b = some o) → h'.get? x = some (excO C t1) → Q .none { s with heap := h' }) :
    wpAny (model prog w) A (call (.ref u) rest) Q E s := by
  obtain ⟨hh, g, d, tk, os⟩ := s
  refine wpAny_call (codeAny_of_tree ?_)
  show wpAny _ A.in1 (callAny (.ref u) ⟨rest, []⟩) _ _ _
  simp only [callAny]
  refine wpAny_bind (wpAny_load hu ?_)
  simp only [kxs_mw, show (Value.type "method-wrapper" == Value.type "method" || Value.type "method-wrapper" == Value.type "builtin_function_or_method" || Value.type "method-wrapper" == Value.type "method-wrapper") = true by decide, if_true]
  refine KFB.if_so (by decide) ?_
  refine wpAny_bind (check_bound_init F.toExcCallFacts hC hx rfl ?_)
  refine wpAny_bind (wpAny_pure (wpAny_pure ?_))
  refine ⟨plainId_quiet F.init.plain _, codeAny_builtin F.initEntry ?_⟩
  exact exc_init_tree (cls := .ref C) (t0 := t0) (dv := none) (c2 := .none) (c3 := .none) (b4 := .bool false) hx hz fun h' k e _ => hq h' _ k e
theorem err_init (T : ErrTxt prog K mg n v C fI) (hv : v = "value" ∨ v = "word" ∨ v = "field") {x t0 : Addr} {u : Value} (X : K.In s.heap) (hlim : s.heap.NoLimit) (G : s.heap.Ns mainGlobals mg)
    (B : ∃ mb, s.heap.Ns builtinsNs mb ∧ ∀ y : Str, y ≠ "__name__" → mb y = bootBuiltins y) (hx : s.heap.get? x = some (excO C t0)) (hnx : K.lookup x = none) (hroom : A.depth < recursionLimit)
    (hq : ∀ h' tk dx, InitEnd s.heap h' x C dx v u → R (.ok (.ret .none)) { s with heap := h', toks := tk }) :
    codeAny (model prog w) A (.call (.ref fI) ⟨[.ref x, u], []⟩) R s := by
  obtain ⟨qual, oc, od, doc, pm, an, cda, cc, ct, osl, m, j, p1, p2, q1, q2, q3, q4, q5, q6, q7, q8, q9, q10, ho, hcd, ⟨ccl, cdd, vs, ccs, file, tf, hcda, hvs, hfile⟩, ⟨cl, cld, csl, hcc⟩, pl, hpl⟩ := T.fn
  obtain ⟨nm, q, N, bs, bm, sn, sub, ab, col, dd, k0, k1, k2, k3, k5, hC, hbm⟩ := T.cls
  have hcl : clsIn K C = some { name := nm, bases := bs, mro := .ref C :: bm, ns := N, qualname := q, hasDict := true, slotNames := sn, subclasses := sub, abstract := ab, collection := col, hasDel := false } := by unfold clsIn; rw [hC] <;> rfl
  have hself : ((([("self", .ref x), (v, u)] : List (Str × Value)).reverse).lookup ("self" : Str)) = some (.ref x) := by
    rcases hv with rfl | rfl | rfl <;> rfl
  have hval : ((([("self", .ref x), (v, u)] : List (Str × Value)).reverse).lookup v) = some u := by
    rcases hv with rfl | rfl | rfl <;> rfl
  refine ks_codeAny_call_defAt (binds := [("self", .ref x), (v, u)]) hroom (X _ _ ho) rfl hlim (codeRec_of X hcd) rfl (BindsTo.of_eq (by rcases hv with rfl | rfl | rfl <;> with_unfolding_all rfl)) (scCell hv) (scLoc hv _ _) (fun h₁ hns k => ?_)
  have X1 : K.In h₁ := X.keeps k
  have hx1 := k _ _ hx
  have hxC : x ≠ C := fun z => by
    have y := X _ _ hC
    rw [← z, hx] at y
    cases y
  show wpAt _ _ _ (execs _ _) _ _ _
  refine ks_wpAt_execs_cons (ks_wpAt_Expr_any (ks_wpAt_MethodCall (pl := pl _) ?_ (hpl _)))
  obtain ⟨mb, hB, hB2⟩ := B
  have hD : h₁.get? C = some (excClassObj nm q C N bs bm true sn sub ab col dd k0 k1 k2 k3 k5 "ValueError.__new__") := X1 _ _ hC
  refine ks_wpAt_super_base (scSuper hv) (scClass hv) (by decide) rfl (X1 _ _ ho) rfl rfl rfl (X1 _ _ hcda) rfl hvs hfile T.top ?_
  refine ks_loadName_global rfl (scSuper hv) (loadGlobal_builtin (G.keeps k) T.sup (hB.keeps k) ((hB2 _ (by decide +kernel)).trans (show bootBuiltins "super" = some (.type "super") by decide +kernel)) ⟨rfl, ?_⟩)
  refine wpAny_loadName_free rfl (scClass hv) rfl ⟨_, X1 _ _ hcc, rfl⟩ ?_
  refine wpAny_loadName_local rfl (scSelf v) hns hself ?_
  refine ks_wpAny_isType_cls hD rfl ⟨rfl, ?_⟩
  refine ks_wpAny_call_super hD rfl hx1 rfl (fun c e => by cases e) (looks_mroIn X1 T.self) (fun h2 hso k2 => ?_)
  have X2 : K.In h2 := X1.keeps k2
  have hx2 := k2 _ _ hx1
  have hup : alongIn K "__init__" (((.ref C :: bm).dropWhile (· != .ref C)).drop 1) = some (some (.builtin "ValueError.__init__")) := by
    have z := T.up
    unfold ks_superIn at z
    rw [hcl] at z
    exact z
  have I2 : InstAt h2 x (excO C t0) C none := ⟨hx2, rfl, rfl, trivial⟩
  refine kxs_getMethod kxs_ValueError hso (looks_opaque X2 T.any) (l₀ := .ref C :: bm) (fun A Q E s k q => wpAny_bind ((looks_clsIn X2 hcl) A _ E s k (wpAny_pure q))) rfl X2 hup (I2.type.andThen (looks_subIn X2 T.subV)) hxC (by decide) ?_
  have k3 : ∀ b o, h2.get? b = some o → (h2.push (kxs_mw "ValueError.__init__" x)).get? b = some o := fun b o e => Heap.get?_push_of_some _ e
  have hu3 : (h2.push (kxs_mw "ValueError.__init__" x)).get? h2.objs.size = some (kxs_mw "ValueError.__init__" x) := Heap.get?_push_at rfl rfl
  refine kxs_callWith (i := "ValueError.__init__") (x := x) (by rfl) (evalArgs_plain ?_)
  refine Calls.spliced_cons (Calls.Constant_str (k := j) (pos := q4) (Calls.spliced_nil ⟨hu3, ?_⟩))
  refine call_up F.excBase_ValueError (k3 _ _ (k2 _ _ hD)) (k3 _ _ hx2) hu3 (by rw [sizeLine_eq]; exact (by decide : 1 ≤ 16777216)) (fun h4 t1 k4 hx4 => ?_)
  have hbase : ∀ b o, b ≠ x → s.heap.get? b = some o → h4.get? b = some o := fun b o hb e => k4 b o hb (k3 _ _ (k2 _ _ (k _ _ e)))
  have X4 : K.In h4 := fun b o e => hbase b o (fun z => by rw [z, hnx] at e; cases e) (X _ _ e)
  have hLx : s.heap.objs.size ≠ x := Nat.ne_of_gt (Heap.lt_size hx)
  have n4 : h4.Ns s.heap.objs.size (fun y => (([("self", .ref x), (v, u)] : List (Str × Value)).reverse).lookup y) := by
    obtain ⟨ob, es, ep, e1, e2⟩ := hns
    exact ⟨ob, es, ep, k4 _ _ hLx (k3 _ _ (k2 _ _ e1)), e2⟩
  have hsz : s.heap.objs.size < h4.objs.size := by
    obtain ⟨ob, es, ep, e1, e2⟩ := n4
    exact Heap.lt_size e1
  refine wpAt_of_wpAny ?_
  show wpAny _ _ (execs _ _) _ _ _
  refine wpAny_execs_cons (plainObj_wpAny_Assign_Attribute ?_)
  refine wpAny_Name (wpAny_loadName_local rfl (scLook hv) n4 hval ?_) (by rcases hv with rfl | rfl | rfl <;> decide)
  refine wpAny_Name (wpAny_loadName_local rfl (scSelf v) n4 hself ?_) (by decide)
  refine set_plain X4 (ox := excO C t1) (od := none) ⟨hx4, rfl, rfl, trivial⟩ T.sa ?_
  refine exc_osa X4 hx4 hcl (show refsVE (.ref C :: bm) = true from hbm) rfl T.noN (fun h5 tk5 dx k5 dn dne hx5 hn5 => ?_)
  exact wpAny_execs_nil (hq h5 tk5 dx ⟨fun b o hb e => k5 b o hb (hbase b o hb e), ⟨t1, hx5⟩, Nat.le_of_lt (Nat.lt_of_lt_of_le hsz dn), dne, hn5⟩)
/-- a made error -/
structure OwnMade (h h' : Heap) (e C d : Addr) (v : Str) (u : Value) : Prop where
  keep : ∀ b o, h.get? b = some o → h'.get? b = some o
  new : h.objs.size ≤ e
  obj : ∃ oe vs, h'.get? e = some oe ∧ oe.cls = .ref C ∧ oe.dict = some d ∧ oe.data = .fields vs ∧ vs[1]? = some .none
  dbig : h.objs.size ≤ d
  dne : d ≠ e
  ns : h'.Ns1 d (fun y => if y = v then some u else none)
theorem one_size (v : Value) : [v].length ≤ sizeLine := by
  rw [sizeLine_eq]
  exact (by decide : 1 ≤ 16777216)
theorem err_made (T : ErrTxt prog K mg n v C fI) (hv : v = "value" ∨ v = "word" ∨ v = "field") {u : Value} (X : K.In s.heap) (hlim : s.heap.NoLimit) (G : s.heap.Ns mainGlobals mg)
    (B : ∃ mb, s.heap.Ns builtinsNs mb ∧ ∀ y : Str, y ≠ "__name__" → mb y = bootBuiltins y) (hroom : A.depth + 1 < recursionLimit)
    (hq : ∀ h' tk e d, OwnMade s.heap h' e C d v u → R (.ok (.ret (.ref e))) { s with heap := h', toks := tk }) :
    codeAny (model prog w) A (.call (.ref C) ⟨[u], []⟩) R s := by
  obtain ⟨nm, q, N, bs, bm, sn, sub, ab, col, dd, k0, k1, k2, k3, k5, hC, hbm⟩ := T.cls
  obtain ⟨hp, g, dr, tk, os⟩ := s
  have k : ∀ b o, hp.get? b = some o → ((hp.push (kdv_tup [u])).push (excO C hp.objs.size)).get? b = some o := fun b o e => Heap.get?_push_of_some _ (Heap.get?_push_of_some _ e)
  have hget : ((hp.push (kdv_tup [u])).push (excO C hp.objs.size)).get? (hp.objs.size + 1) = some (excO C hp.objs.size) := by heap_get
  have hnx : K.lookup (hp.objs.size + 1) = none := by
    cases e : K.lookup (hp.objs.size + 1) with
    | none => rfl
    | some o =>
      have z : hp.get? (hp.objs.size + 1) = some o := X _ _ e
      exact absurd (Nat.lt_of_succ_lt (Heap.lt_size z)) (Nat.lt_irrefl _)
  refine call_own F.excBase_ValueError (fun X => refsVE_contains X bm hbm) (X _ _ hC) (looks_findIn X T.iC) (fun self => bind_fn X self T.tC) (one_size u) ?_
  refine err_init (s := ⟨(hp.push (kdv_tup [u])).push (excO C hp.objs.size), g, dr, tk, os⟩) T hv (X.keeps k) (hlim.keeps k) (G.keeps k) (by obtain ⟨mb, h1, h2⟩ := B; exact ⟨mb, h1.keeps k, h2⟩) hget hnx ?_ fun h' tk' dx ⟨k', hx, dn, dne, hns⟩ => ?_
  · show A.depth + 1 < recursionLimit
    exact hroom
  · obtain ⟨t1, hx⟩ := hx
    have old : ∀ b o, hp.get? b = some o → h'.get? b = some o := fun b o e => k' b o (Nat.ne_of_lt (Nat.lt_succ_of_lt (Heap.lt_size e))) (k b o e)
    have z : hp.objs.size + 1 + 1 ≤ dx := by
      first
        | (simpa only [Heap.size_push] using dn)
        | exact dn
        | (have q := dn; rw [Heap.size_push, Heap.size_push] at q; exact q)
    exact ⟨rfl, hq h' tk' (hp.objs.size + 1) dx ⟨old, Nat.le_succ _, ⟨_, _, hx, rfl, rfl, rfl, rfl⟩, Nat.le_trans (Nat.le_trans (Nat.le_succ _) (Nat.le_succ _)) z, dne, hns⟩⟩
end
end QErr
end PySem
namespace L2
open PySem PySem.Spec PyProof.Rows
theorem relO_one {f : Str} {v : V} {v' : Value} (r : RelV v v') (g : Str) : RelO (List.lookup g [(f, v)]) (if g = f then some v' else none) := by
  by_cases hw : g = f
  · subst hw
    rw [if_pos rfl]
    have q : List.lookup g [(g, v)] = some v := by simp [List.lookup]
    rw [q]
    exact r
  · rw [if_neg hw]
    have qw : (g == f) = false := by simpa using hw
    have q2 : List.lookup g [(f, v)] = none := by simp [List.lookup, qw]
    rw [q2]
    trivial
section
variable {X : Cx} {C fI : Addr} {n f : Str}
/-- n(e), n an own error that keeps its one argument in f -/
def tMkErr (C : Addr) (f : Str) (ta : TA) : St → Hp → XK → Prop := fun σ H Q => ta σ H fun vs H1 => ∃ v, vs = [v] ∧ ∀ d, H1 d = none → Q (.ref C) (some d) (upd H1 d (.xd [(f, v)]))
theorem pmk_err {a : Expr} {ta : TA} {p pos : Pos} {k : Nat} (T : PySem.QErr.ErrTxt X.prog X.K X.mg n f C fI) (hv : f = "value" ∨ f = "word" ∨ f = "field") (hr : Room (k + 1) X.A) (ha : PA X [a] ta) (hg : Gl X n := by rfl)
    (hdb : (n == ("__debug__" : Str)) = false := by decide)
    (he : starEach (a :: []) X.env = (false, eval a X.env) :: starEach [] X.env := by rfl) (hpl : (backTo pos (starEach [] X.env)).any (·.1) = false := by rfl) :
    PMk X (.Call (.Name n p) [a] [] pos) (tMkErr C f ta) := by
  intro pins s σ H Q I h
  refine wpAny_Call_Name_kw (ld_glob I hg T.gC ?_ hdb)
  refine PySem.W.callWith_K (h₀ := X.base) I.ok.mod.kin T.kC (thn (ha.run pos pins s σ H _ I h) fun us s1 hh => ?_) he hpl
  obtain ⟨vs, H1, I1, r1, v, ev, q1⟩ := hh
  subst ev
  refine ⟨I1.kIn, ?_⟩
  cases r1 with
  | cons rv rn =>
    rename_i v' us'
    cases rn
    show wpAny _ _ (call (.ref C) [v']) _ _ _
    have hlim := I1.nolimit
    have G1 := I1.mod.glob.keeps I1.bk
    have B1 : ∃ mb, s1.heap.Ns builtinsNs mb ∧ ∀ y : Str, y ≠ "__name__" → mb y = bootBuiltins y := by
      obtain ⟨mb, h1, h2⟩ := I1.mod.blt
      exact ⟨mb, h1.keeps I1.bk, h2⟩
    obtain ⟨hp, g, dr, tk, os⟩ := s1
    refine wpAny_call (PySem.QErr.err_made T hv I1.kIn hlim G1 B1 (by have := hr.dp; omega) fun h' tk' e d M => ?_)
    show MkP X pins σ Q (.ref e) ⟨h', g, dr, tk', os⟩
    obtain ⟨oe, fv, hoe, hc, hd, hdat, h1⟩ := M.obj
    have hns := M.ns
    obtain ⟨G', g1, g2⟩ := restrict h' fun b => decide (b ≠ e)
    have gk : ∀ b, b ≠ e → G'.get? b = h'.get? b := fun b hb => g1 b (decide_eq_true hb)
    have ge : G'.get? e = none := g2 e (by simp)
    have old : ∀ b o, hp.get? b = some o → G'.get? b = some o := fun b o q => (gk b (Nat.ne_of_lt (Nat.lt_of_lt_of_le (Heap.lt_size q) M.new))).trans (M.keep b o q)
    have ob : ObjOk X.prog X.w (upd H1 d (.xd [(f, v)])) G' d (.xd [(f, v)]) :=
      ⟨_, hns.at (fun o q => (gk d M.dne).trans q), fun f => relO_one rv f⟩
    have J : Inv X pins σ (upd H1 d (.xd [(f, v)])) ⟨G', g, dr, tk', os⟩ := I1.laid (t' := tk') old M.dbig ob
    refine ⟨e, oe, fv, ⟨G', g, dr, tk', os⟩, _, .ref C, some d, rfl, J, fun b o q => ?_, ge, hoe, ⟨hc, hd⟩, hdat, h1, ?_, rfl, I1.bare, raises_own T.exC T.tyC, q1 d (I1.hok.fresh M.dbig)⟩
    · by_cases hb : b = e
      · have q' : G'.get? b = some o := q
        rw [hb, ge] at q'; cases q'
      · exact (gk b hb).symm.trans q
    · rw [upd_ne (Ne.symm M.dne)]
      exact I1.hok.fresh M.new
/-- raise n(e) -/
def tRaiseErr (C : Addr) (f : Str) (W : WX) (ta : TA) : TS := fun _ σ H => tMkErr C f ta σ H fun cls d H' => W cls d σ H'
theorem ps_raiseErr {a : Expr} {ta : TA} {W : WX} {p pos pos2 : Pos} {k : Nat} (hc : X.calm = true) (T : PySem.QErr.ErrTxt X.prog X.K X.mg n f C fI) (hv : f = "value" ∨ f = "word" ∨ f = "field") (hr : Room (k + 1) X.A) (tk : Takes X W) (ha : PA X [a] ta) (hg : Gl X n := by rfl)
    (hdb : (n == ("__debug__" : Str)) = false := by decide)
    (he : starEach (a :: []) X.env = (false, eval a X.env) :: starEach [] X.env := by rfl) (hpl : (backTo pos (starEach [] X.env)).any (·.1) = false := by rfl) :
    PS X (.Raise (some (.Call (.Name n p) [a] [] pos)) none pos2) (tRaiseErr C f W ta) := ps_raise hc tk (pmk_err T hv hr ha hg hdb he hpl)
end
end L2

set_option Elab.async false
set_option linter.all false
set_option maxRecDepth 100000
set_option maxHeartbeats 4000000
/-! try with several clauses, each of which names its exception -/
namespace L2
open PySem PySem.Spec PyProof.Rows
abbrev Suite := Addr → Value → Option Addr → TS
/-- what several clauses, each with its class, its name's slot and its suite, wish -/
def wClauses (K : PySem.W.Frag) (out : WX) (D : Ends) : List (Value × Nat × Suite) → WX
  | [] => out
  | cl :: more => wAs K cl.1 cl.2.1 cl.2.2 (wClauses K out D more) D
inductive Clauses (X : Cx) : List ExceptHandler → List (Value × Nat × Suite) → Prop
  | done : Clauses X [] []
  | one {x n : Str} {c : Value} {i : Nat} {u : Suite} {first : Stmt} {more : List Stmt} {q1 q2 : Pos} {hds : List ExceptHandler} {l : List (Value × Nat × Suite)}
      (slot : X.N[i]? = some n) (here : X.env.kindOf n = some .local) (named : Names X x c)
      (walks : ∀ (a : Addr) (oe : Obj) (cls : Value) (d : Option Addr) (pn : List (Addr × Obj)), Zc cls d oe → (∃ vs, oe.data = .fields vs) → PSs (X.suite a ((a, oe) :: pn)) (first :: more) (u a cls d))
      (tail : Clauses X hds l) : Clauses X (.ExceptHandler (some (.Name x q1)) (some n) (first :: more) q2 :: hds) ((c, i, u) :: l)
section
variable {X : Cx} {body : List Stmt} {hd : ExceptHandler} {hds : List ExceptHandler} {l : List (Value × Nat × Suite)} {pos : Pos} {tb : WX → TS} {out : WX}
theorem ps_try_clauses (hs : X.stack = X.env :: X.outer) (hf : X.env.frame = some X.env.locals) (hN : X.N.Nodup) (tk : Takes X out)
    (hb : ∀ (W : WX) (pn : List (Addr × Obj)) (xe : Value → Shared → Prop), Takes (X.tr pn xe) W → PassesOwn (model X.prog X.w) X.A X.env xe → PSs (X.tr pn xe) body (tb W))
    (cls : Clauses X (hd :: hds) l) : PS X (.Try body (hd :: hds) [] [] pos) (fun D σ H => tb (wClauses X.K out D l) D σ H) := by
  constructor
  intro pins s σ H D I hyp
  have good := I.ok
  have frames : X.A.frames = some (X.env :: X.outer) := good.frames.trans (by rw [hs])
  apply wpAny_Try_except
  refine wpAny_mono ((hb (wClauses X.K out D l) (X.pn ++ pins) _ ?land PassesOwn.looking).run [] s σ H D (I.toTry _) hyp) ?fine (fun e s1 z => z)
  case land =>
    intro u s2 seen
    obtain ⟨a, B, sI, pins2, σ2, H2, kind, d, rfl, J0, nb, up, sky, na, os, ag, wish⟩ := seen
    have J := J0.ofTry good
    rw [show (X.tr (X.pn ++ pins) _).stack = X.env :: X.outer from hs] at sky
    show wpAny (model X.prog X.w) X.A (noteFrame (.ref a) X.env) _ _ _
    refine Sky.land Zc.steady frames hf sky fun h3 fl up3 => ?_
    have J3 : Inv X pins σ2 H2 { s2 with heap := h3 } := J.landed nb fl.1 (up.trans up3) os ag
    obtain ⟨oe, vs, at3, z3, dat3⟩ := fl.there
    have off : a ∉ frs (X.env :: X.outer) := fun hm => by
      obtain ⟨_, o, e1, e2⟩ := fl.2.2.1.mem hm
      cases at3.symm.trans e1
      exact e2 _ dat3
    have offL : a ≠ X.env.locals := fun z => off (by rw [z]; exact List.mem_filterMap.mpr ⟨X.env, List.mem_cons_self, hf⟩)
    have offF : a ∉ X.fs := fun hm => by
      obtain ⟨e, e1, e2⟩ := List.mem_filterMap.mp hm
      exact off (List.mem_filterMap.mpr ⟨e, List.mem_cons_of_mem _ e1, e2⟩)
    have S3 := J3.suite at3 dat3 na offL offF
    suffices go : ∀ {hs' : List ExceptHandler} {l' : List (Value × Nat × Suite)}, Clauses X hs' l' → wClauses X.K out D l' kind d σ2 H2 → wpAny (model X.prog X.w) X.A (handleBy (.ref a) X.env hs') (SP X pins D) X.xe { s2 with heap := h3 } from go cls wish
    intro hs' l' known
    induction known with
    | done =>
      intro left
      refine wpAny_handleBy_nil ?_
      obtain ⟨_, _, _, oe', vs', T, _, _, e1, _, e2, e3, _⟩ := id fl
      unfold PySem.passOn
      refine wpAny_bind (wpAny_field e1 e2 e3 ?_)
      have some_ : ¬ ((Value.ref T == Value.none) = true) := by simp
      rw [if_neg some_]
      have out_ : wpAny (model X.prog X.w) X.A (setFlight (.ref a) X.env.frame) (fun _ s4 => wpAny (model X.prog X.w) X.A (throw (.ref a) : Sem Flow) (SP X pins D) X.xe s4) X.xe { s2 with heap := h3 } := by
        rw [hf]
        refine HandSPX.setFlight_upZ fl fun h4 held up4 => wpAny_throw (tk _ _ ?_)
        exact ⟨a, B, sI, pins, σ2, H2, kind, d, rfl, J, nb, (up.trans up3).trans up4, .inr (.inr (by rw [hs]; exact held)), na, os, ag, left⟩
      first
        | exact wpAny_bind out_
        | exact wpAny_bind (wpAny_pure (wpAny_bind out_))
    | @one x n c i u first more q1 q2 hds2 l2 slot here named walks tail ih =>
      intro wished
      obtain ⟨b, isb, yes, no⟩ := wished
      refine wpAny_handleBy_cons (codeAny_handlers_test ?_) (by intro z; cases z)
      have kinds : PySem.W.Looks (model X.prog X.w) h3 (typeOf (.ref a)) kind := fun A Q E s k q => wpAny_typeOf_ref (k _ _ at3) (z3.1.symm ▸ q)
      have asked : ∀ {Q E : Value → Shared → Prop}, Q c { s2 with heap := h3 } → wpAny (model X.prog X.w) (X.A.mark (some (.ref a))) (eval (.Name x q1) X.env) Q E { s2 with heap := h3 } := fun {Q E} q => by
        rcases named with ⟨g1, g2, g3 | ⟨g4, g5, g6⟩⟩
        · exact ld_glob (X := X.suite a ((a, oe) :: (X.pn ++ pins))) S3 g1 g3 q g2
        · exact ld_blt (X := X.suite a ((a, oe) :: (X.pn ++ pins))) S3 g1 g4 g5 q g6 g2
      refine asked ((PySem.W.exm_one (M := model X.prog X.w) J3.kIn kinds isb).here ?_)
      cases b
      · exact ih (no rfl)
      · refine codeAny_handlers_suite_as (HandSPX.lands_againZ fl fun h4 fl4 up4 => ?_)
        have J4 : Inv X pins σ2 H2 { s2 with heap := h4 } := J.landed nb fl4.1 ((up.trans up3).trans up4) os ag
        obtain ⟨oe4, vs4, at4, z4, dat4⟩ := fl4.there
        have S4 := J4.suite at4 dat4 na offL offF
        refine store_ok (X := X.suite a ((a, oe4) :: (X.pn ++ pins))) (v := .ref a) S4 hN slot (.inl here) rfl (fun s5 S5 => ?_) (.inr here)
        refine wpAny_mono ((walks a oe4 kind d (X.pn ++ pins) z4 ⟨_, dat4⟩).run [] s5 _ H2 _ S5 (yes rfl a na)) (fun f s6 behind => ?_) (fun _ _ z => z.elim)
        cases f
        · obtain ⟨σ6, H6, S6, q6⟩ := behind
          exact gone_ok (S6.unsuite good) hN slot here fun s7 J7 => ⟨_, _, J7, q6⟩
        · obtain ⟨σ6, H6, S6, q6⟩ := behind
          exact gone_ok (S6.unsuite good) hN slot here fun s7 J7 => ⟨_, _, J7, q6⟩
        · obtain ⟨σ6, H6, S6, q6⟩ := behind
          exact gone_ok (S6.unsuite good) hN slot here fun s7 J7 => ⟨_, _, J7, q6⟩
        · obtain ⟨v6, σ6, H6, S6, r6, q6⟩ := behind
          exact gone_ok (S6.unsuite good) hN slot here fun s7 J7 => ⟨_, _, _, J7, r6, q6⟩
  case fine =>
    intro f s1 behind
    cases f
    · obtain ⟨σ1, H1, J1, q1⟩ := behind
      exact wpAny_execs_nil ⟨σ1, H1, J1.ofTry good, q1⟩
    · obtain ⟨σ1, H1, J1, q1⟩ := behind
      exact ⟨σ1, H1, J1.ofTry good, q1⟩
    · obtain ⟨σ1, H1, J1, q1⟩ := behind
      exact ⟨σ1, H1, J1.ofTry good, q1⟩
    · obtain ⟨v1, σ1, H1, J1, r1, q1⟩ := behind
      exact ⟨v1, σ1, H1, J1.ofTry good, r1, q1⟩
end
end L2

set_option Elab.async false
set_option linter.all false
set_option maxRecDepth 100000
set_option maxHeartbeats 4000000
/-! bundles for defs that raise -/
namespace QX
open PySem PySem.Spec PyProof.Rows L2
/-- a def that may raise, called by its name -/
structure Cal (P : Program) (w : World) (K : PySem.W.Frag) (mg : Str → Option Value) (base : Heap) (k : Nat) (x : Str) (sp : Sp) : Prop where
  ex : ∃ (f : Addr) (fd : FuncData) (ps : List Str), FnOk P w K mg base (L2.CX P w) k f fd ps sp ∧ mg x = some (.ref f) ∧ PySem.W.keepIn K (.ref f) = true ∧ Binds K fd ps []
/-- a method that may raise -/
structure Met (P : Program) (w : World) (K : PySem.W.Frag) (mg : Str → Option Value) (base : Heap) (k : Nat) (C : Addr) (m : Str) (sp : Sp) : Prop where
  ex : ∃ (f : Addr) (fd : FuncData) (ps : List Str), Cls K C ∧ Meth K C m f ∧ FnOk P w K mg base (L2.CX P w) k f fd ps sp ∧ Binds K fd ps []
section
variable {P : Program} {w : World} {K : PySem.W.Frag} {mg : Str → Option Value} {base : Heap}
theorem fnx {x qual : Str} {st : Stmt} {f : Addr} {fd : FuncData} {N ps : List Str} {k : Nat} {sp : Sp} (F : C8.Fun K x qual st f fd) (S : FnScope N ps (C8.fnScope st)) (len : ∀ vs H Q E, sp vs H Q E → vs.length = ps.length)
    (body : ∀ (cdv : Value) (A : Around) (outer : List Env) (s : Shared) (H : Hp) (vs : List V) (Q : VK) (E : XK), Room k (A.deeper (envOfC qual (C8.fnScope st) s.heap.objs.size f cdv)) → sp vs H Q E →
      ∃ t, PSs (cxOf (L2.CX P w) P w K mg base N qual (C8.fnScope st) f cdv A outer s H E) (C8.fnBody st) t ∧ t { nx := fun _ H' => Q .non H', rt := Q } (start N vs) H) : FnOk P w K mg base (L2.CX P w) (k + 1) f fd ps sp := by
  obtain ⟨_, _, _, _, _, _, _, cdv, _, _, rfl, at_, code⟩ := F.ex
  exact fn_of at_ code S len fun A outer s H vs Q E room held => body cdv A outer s H vs Q E room held
theorem calx {x : Str} {st : Stmt} {f : Addr} {fd : FuncData} {N ps : List Str} {k : Nat} {sp : Sp} (F : C8.Def K mg x st f fd) (b : Binds K fd ps []) (S : FnScope N ps (C8.fnScope st)) (len : ∀ vs H Q E, sp vs H Q E → vs.length = ps.length)
    (body : ∀ (cdv : Value) (A : Around) (outer : List Env) (s : Shared) (H : Hp) (vs : List V) (Q : VK) (E : XK), Room k (A.deeper (envOfC x (C8.fnScope st) s.heap.objs.size f cdv)) → sp vs H Q E →
      ∃ t, PSs (cxOf (L2.CX P w) P w K mg base N x (C8.fnScope st) f cdv A outer s H E) (C8.fnBody st) t ∧ t { nx := fun _ H' => Q .non H', rt := Q } (start N vs) H) : Cal P w K mg base (k + 1) x sp :=
  ⟨f, fd, ps, fnx F.fn S len body, F.mgf, F.kp, b⟩
theorem metx {m qual : Str} {C : Addr} {st : Stmt} {f : Addr} {fd : FuncData} {N ps : List Str} {k : Nat} {sp : Sp} (c : Cls K C) (me : Meth K C m f) (F : C8.Fun K m qual st f fd) (b : Binds K fd ps []) (S : FnScope N ps (C8.fnScope st)) (len : ∀ vs H Q E, sp vs H Q E → vs.length = ps.length)
    (body : ∀ (cdv : Value) (A : Around) (outer : List Env) (s : Shared) (H : Hp) (vs : List V) (Q : VK) (E : XK), Room k (A.deeper (envOfC qual (C8.fnScope st) s.heap.objs.size f cdv)) → sp vs H Q E →
      ∃ t, PSs (cxOf (L2.CX P w) P w K mg base N qual (C8.fnScope st) f cdv A outer s H E) (C8.fnBody st) t ∧ t { nx := fun _ H' => Q .non H', rt := Q } (start N vs) H) : Met P w K mg base (k + 1) C m sp :=
  ⟨f, fd, ps, c, me, fnx F S len body, b⟩
end
section
variable {X : Cx} {k j : Nat} {C : Addr} {x m : Str} {sp : Sp} {W : WX} {p pos apos : Pos} {e o : Expr} {es : List Expr} {ta : TE} {t : TA}
theorem pe_cx (c : Cal X.prog X.w X.K X.mg X.base k x sp) (tk : Takes X W) (hr : Room j X.A) (hk : k ≤ j) (hg : Gl X x) (ha : PA X (e :: es) t)
    (hdb : (x == ("__debug__" : Str)) = false := by decide) (he : starEach (e :: es) X.env = (false, eval e X.env) :: starEach es X.env := by rfl) (hpl : (backTo pos (starEach es X.env)).any (·.1) = false := by rfl) :
    PE X (.Call (.Name x p) (e :: es) [] pos) (tCallS sp (WE W) t) := by
  obtain ⟨f, fd, ps, F, hm, kp, b⟩ := c.ex
  exact pe_callS F (hr.mono hk) hg hm kp b (passAt tk) ha hdb he hpl
/-- o.m(e, ..), m may raise what W takes -/
def tMeX (C : Addr) (m : Str) (sp : Sp) (W : WX) (ta : TE) (t : TA) : TE := fun σ H Q => ta σ H fun v H1 => ∃ (a dx : Addr) (fs : List (Str × V)), v = .ref a ∧ H1 a = some (.ins C dx fs) ∧ fs.lookup m = none ∧ t σ H1 fun vs H2 => sp (v :: vs) H2 Q (WE W σ)
theorem pe_mx {pl : Sem Bool} (c : Met X.prog X.w X.K X.mg X.base k C m sp) (tk : Takes X W) (hr : Room j X.A) (hk : k ≤ j) (he : PE X o ta) (ha : PA X (e :: es) t)
    (hst : starEach (e :: es) X.env = (false, eval e X.env) :: starEach es X.env := by rfl) (hpl : (backTo pos (starEach es X.env)).any (·.1) = false := by rfl)
    (ht : eval (.Call (.Attribute o m apos) (e :: es) [] pos) X.env = (do
      let ov ← eval o X.env
      standAt apos.atName
      let (f, first) ← holding [ov] (getMethod ov m pl)
      callWith pos f first (backTo pos (starEach (e :: es) X.env)) (backToKw pos (keywordEach [] X.env))) := by rfl) :
    PE X (.Call (.Attribute o m apos) (e :: es) [] pos) (tMeX C m sp W ta t) := by
  obtain ⟨f, fd, ps, cl, me, F, b⟩ := c.ex
  constructor
  intro pins s σ H Q I hyp
  refine PySem.W.methodCall_KW (pl := pl) (thn (he.run pins s σ H _ I hyp) fun u s1 seen => ?_) ht
  obtain ⟨v, H1, I1, rv, a, dx, fs, rfl, at_, none_, more⟩ := seen
  obtain rfl : u = Value.ref a := rv
  refine getmeth_ok I1 at_ cl me none_ (PySem.W.callWith_K (first := [.ref a]) (h₀ := X.base) I.ok.mod.kin me.kp (thn (ha.run pos pins s1 σ H1 _ I1 more) fun us s2 behind => ?_) hst hpl)
  obtain ⟨vs, H2, I2, rs, held⟩ := behind
  exact ⟨I2.kIn, run_fnS (us := .ref a :: us) (vs := .ref a :: vs) F (hr.mono hk) b (passAt tk σ) I2 (.cons rfl rs) held⟩
end
/-- a class of ours that may be made by its name; its __init__ may raise -/
structure Mak (P : Program) (w : World) (K : PySem.W.Frag) (mg : Str → Option Value) (base : Heap) (k : Nat) (x : Str) (C : Addr) (sp : Sp) (dvs : List V) : Prop where
  ex : ∃ (f : Addr) (fd : FuncData) (ps : List Str) (ds : List Value), Mk K C f ∧ FnOk P w K mg base (L2.CX P w) k f fd ps sp ∧ mg x = some (.ref C) ∧ Binds K fd ps ds ∧ Vals dvs ds
section
variable {P : Program} {w : World} {K : PySem.W.Frag} {mg : Str → Option Value} {base : Heap}
theorem makx {x qual : Str} {C : Addr} {st : Stmt} {f : Addr} {fd : FuncData} {N ps : List Str} {ds : List Value} {dvs : List V} {k : Nat} {sp : Sp} (M : Mk K C f) (hm : mg x = some (.ref C)) (F : C8.Fun K "__init__" qual st f fd) (b : Binds K fd ps ds) (d : Vals dvs ds) (S : FnScope N ps (C8.fnScope st))
    (len : ∀ vs H Q E, sp vs H Q E → vs.length = ps.length)
    (body : ∀ (cdv : Value) (A : Around) (outer : List Env) (s : Shared) (H : Hp) (vs : List V) (Q : VK) (E : XK), Room k (A.deeper (envOfC qual (C8.fnScope st) s.heap.objs.size f cdv)) → sp vs H Q E →
      ∃ t, PSs (cxOf (L2.CX P w) P w K mg base N qual (C8.fnScope st) f cdv A outer s H E) (C8.fnBody st) t ∧ t { nx := fun _ H' => Q .non H', rt := Q } (start N vs) H) : Mak P w K mg base (k + 1) x C sp dvs :=
  ⟨f, fd, ps, ds, M, fnx F S len body, hm, b, d⟩
end
section
variable {X : Cx} {k j : Nat} {C : Addr} {x : Str} {sp : Sp} {dvs : List V} {W : WX} {p pos : Pos} {e : Expr} {es : List Expr} {t : TA}
/-- C(e, ..), whose __init__ may raise what W takes -/
def tMkX (C : Addr) (sp : Sp) (dvs : List V) (W : WX) (t : TA) : TE := fun σ H Q => t σ H fun vs H1 => ∀ a dx, H1 a = none → H1 dx = none → dx ≠ a →
  sp (.ref a :: (vs ++ dvs)) (upd (upd H1 dx (.own a)) a (.ins C dx [])) (fun v H2 => v = .non ∧ Q (.ref a) H2) (WE W σ)
theorem pe_mkx (c : Mak X.prog X.w X.K X.mg X.base k x C sp dvs) (tk : Takes X W) (hr : Room j X.A) (hk : k + 1 ≤ j) (hg : Gl X x) (ha : PA X (e :: es) t)
    (hdb : (x == ("__debug__" : Str)) = false := by decide) (he : starEach (e :: es) X.env = (false, eval e X.env) :: starEach es X.env := by rfl) (hpl : (backTo pos (starEach es X.env)).any (·.1) = false := by rfl) :
    PE X (.Call (.Name x p) (e :: es) [] pos) (tMkX C sp dvs W t) := by
  obtain ⟨f, fd, ps, ds, M, F, hm, b, d⟩ := c.ex
  have room : Room (k + 1) X.A := hr.mono hk
  constructor
  intro pins s σ H Q I hyp
  refine wpAny_Call_Name_kw (ld_glob I hg hm (PySem.W.callWith_K (h₀ := X.base) I.ok.mod.kin M.kp (thn (ha.run pos pins s σ H _ I hyp) fun us s1 behind => ?_) he hpl) hdb)
  obtain ⟨vs, H1, I1, rs, held⟩ := behind
  refine ⟨I1.kIn, ?_⟩
  show wpAny _ _ (call (.ref C) us) _ _ _
  have here := held (s1.heap.objs.size + 1) s1.heap.objs.size (I1.hok.fresh (Nat.le_succ _)) (I1.hok.fresh (Nat.le_refl _)) (Nat.ne_of_lt (Nat.lt_succ_self _))
  have J := Inv.made (C := C) I1
  have all : Vals (V.ref (s1.heap.objs.size + 1) :: (vs ++ dvs)) (Value.ref (s1.heap.objs.size + 1) :: (us ++ ds)) := .cons rfl (rs.append d)
  have long : (Value.ref (s1.heap.objs.size + 1) :: us ++ ds).length = ps.length := (F.len _ _ _ _ here ▸ all.length).symm
  refine wpAny_call (make_map (f := f) I1.kIn M.makes M.init (beq_iff_eq.mp M.fn) (codeAny_mono (F.run _ X.stack _ _ ⟨Value.ref (s1.heap.objs.size + 1) :: us, []⟩ (Value.ref (s1.heap.objs.size + 1) :: (us ++ ds)) _ _ (WE W σ) (room.make C us []) (J.env0.make C us [])
    (b _ (Value.ref (s1.heap.objs.size + 1) :: us) J.kIn long) all here) fun r s2 got => ?_))
  match r, got with
  | .error er, got => exact passAt tk σ pins _ _ er s2 J got
  | .ok (.ret u), got =>
    obtain ⟨v, H3, I3, rv, rfl, q3⟩ := J.after got
    exact ⟨rv, V.ref (s1.heap.objs.size + 1), H3, I3, rfl, q3⟩
  | .ok .next, got => exact got.elim
  | .ok .brk, got => exact got.elim
  | .ok .cont, got => exact got.elim
end
/-- what the written part says of an error's class -/
theorem exm_of {K : PySem.W.Frag} {A S : Addr} {b : Bool} (h1 : PySem.W.subIn K (.ref S) (.type "BaseException") = some true) (h2 : PySem.W.isClsIn K S = true) (h3 : PySem.W.typeIn K (.ref S) = some (.type "type")) (h4 : PySem.W.subIn K (.ref A) (.ref S) = some b) :
    PySem.W.exmOne K (.ref A) (.ref S) = some b := by
  have e1 : (PySem.W.subIn K (.ref S) (.type "BaseException") == some true) = true := by rw [h1] <;> rfl
  have e2 : ((PySem.W.clsIn K S).isSome && PySem.W.typeIn K (.ref S) == some (.type "type")) = true := by
    have h2' : (PySem.W.clsIn K S).isSome = true := h2
    rw [h2', h3] <;> rfl
  unfold PySem.W.exmOne PySem.W.kitCls
  simp only [e1, e2, if_true]
  exact h4
end QX
namespace QX
open PySem PySem.Spec PyProof.Rows L2
theorem call_form {o : Expr} {name : Str} {a : Expr} {q3 q5 : Pos} (ho : (q3.endLine == q5.line) = true) (ha : ∀ env : Env, starEach [a] env = [(false, eval a env)]) : ∃ pl : Env → Sem Bool, ∀ env : Env, eval (.Call (.Attribute o name q3) [a] [] q5) env = (do
      let ov ← attributeBase o name env (eval o env)
      standAt q3.atName
      let (f, first) ← holding [ov] (getMethod ov name (pl env))
      callWith q5 f first (backTo q5 (starEach [a] env)) []) := by
  refine ⟨fun env => (do return (← importBound o env).getD true), fun env => ?_⟩
  rw [arm_eval_Call]
  have few : methodCallForm ([a].length + ([] : List Keyword).length) (backTo q5 (starEach [a] env)) (backToKw q5 (keywordEach [] env)) = true := by
    rw [ha env] <;> rfl
  have at_ : methodCallPos true o env q3 q5 = pure q5 := by
    unfold methodCallPos
    rw [ho] <;> rfl
  have kw : backToKw q5 (keywordEach [] env) = [] := rfl
  refine congrArg _ (funext fun ov => congrArg _ (funext fun _ => ?_))
  unfold methodCall
  rw [few, at_, kw]
  unfold calleeOf
  rw [if_pos rfl]
  simp only [pure_bind]
theorem up_of {K : PySem.W.Frag} {C N S NS : Addr} {nm q nmS qS : Str} {bs bsS bmS : List Value} {sn snS : List Str} {sub subS : List Value} {hd hdS ab abS : Bool} {col colS : Option Bool} {dd ddS : Option Addr} {k0 k1 k2 k3 k5 y0 y1 y2 y3 y5 : Option Value} {new newS : String} {r : Option (Option Value)}
    (xC : K.lookup C = some (PySem.excClassObj nm q C N bs (.ref S :: bmS) hd sn sub ab col dd k0 k1 k2 k3 k5 new)) (xS : K.lookup S = some (PySem.excClassObj nmS qS S NS bsS bmS hdS snS subS abS colS ddS y0 y1 y2 y3 y5 newS))
    (h : PySem.W.findIn K (.ref S) "__init__" = r) : PySem.W.ks_superIn K C C "__init__" = r := by
  have e1 : PySem.W.clsIn K C = some { name := nm, bases := bs, mro := .ref C :: .ref S :: bmS, ns := N, qualname := q, hasDict := hd, slotNames := sn, subclasses := sub, abstract := ab, collection := col, hasDel := false } := by
    unfold PySem.W.clsIn
    rw [xC] <;> rfl
  have e2 : ((Value.ref C :: .ref S :: bmS).dropWhile (· != .ref C)).drop 1 = .ref S :: bmS := by simp [List.dropWhile_cons]
  unfold PySem.W.ks_superIn
  rw [e1]
  show PySem.W.alongIn K "__init__" (((Value.ref C :: .ref S :: bmS).dropWhile (· != .ref C)).drop 1) = r
  rw [e2]
  have e3 : PySem.W.findIn K (.ref S) "__init__" = PySem.W.alongIn K "__init__" (.ref S :: bmS) := by
    show (match K.lookup S with
      | some ⟨_, _, .cls cd, _⟩ => PySem.W.alongIn K "__init__" cd.mro
      | _ => none) = _
    rw [xS] <;> rfl
  rw [← e3]
  exact h
theorem err_mk {prog : Program} {K : PySem.W.Frag} {h : Heap} {mg : Str → Option Value} (n v : Str) (X : K.In h) (G : h.Ns mainGlobals mg)
    {C fI N cda cc S NS : Addr} {nmS qS : Str} {bsS bmS : List Value} {snS : List Str} {subS : List Value} {hdS abS : Bool} {colS : Option Bool} {ddS : Option Addr} {y0 y1 y2 y3 y5 : Option Value} {newS : String} {nm q qual : Str} {bs : List Value} {sn : List Str} {sub : List Value} {ab : Bool} {col : Option Bool} {dd : Option Addr} {k0 k1 k2 k3 k5 : Option Value} {oc : Value} {od : Option Addr} {doc pm : Value} {an : Option Addr} {ct : Value} {osl : Array (Option Value)} {m : Str} {j : Nat} {p1 p2 q1 q2 q3 q4 q5 q6 q7 q8 q9 q10 : Pos}
    {ccl : Value} {cdd : Option Addr} {vs : Array Value} {ccs : Array (Option Value)} {file : Str} {tf : Tok} {cl : Value} {cld : Option Addr} {csl : Array (Option Value)}
    (aC : PySem.W.nsIn K mainGlobals n = some (some (.ref C))) (xC : K.lookup C = some (PySem.excClassObj nm q C N bs (.ref S :: bmS) true sn sub ab col dd k0 k1 k2 k3 k5 "ValueError.__new__")) (bC : PySem.HandSPX.refsVE bmS = true) (xS : K.lookup S = some (PySem.excClassObj nmS qS S NS bsS bmS hdS snS subS abS colS ddS y0 y1 y2 y3 y5 newS))
    (sa : PySem.W.findIn K (.ref C) "__setattr__" = some (some (.builtin "object.__setattr__"))) (ga : PySem.W.findIn K (.ref C) "__getattribute__" = some (some (.builtin "BaseException.__getattribute__"))) (gg : PySem.W.findIn K (.ref C) "__getattr__" = some none) (nb : PySem.W.findIn K (.ref C) v = some none)
    (iC : PySem.W.findIn K (.ref C) "__init__" = some (some (.ref fI))) (tI : PySem.W.typeIn K (.ref fI) = some (.type "function"))
    (kC : PySem.W.keepIn K (.ref C) = true) (eC : PySem.W.subIn K (.ref C) (.type "BaseException") = some true) (tC : PySem.W.typeIn K (.ref C) = some (.type "type")) (hC : PySem.W.hasDictIn K C = true) (cC : PySem.W.isClsIn K C = true) (sC : PySem.W.subIn K (.ref C) (.ref C) = some true)
    (mC : PySem.W.mroIn K C (.ref C) = some true) (vC : PySem.W.subIn K (.ref C) (.type "ValueError") = some true) (uC : PySem.W.findIn K (.ref S) "__init__" = some (some (.builtin "ValueError.__init__"))) (anyC : PySem.W.nsIn K cStatics "thirdparty.any" = some none)
    (sup : PySem.W.nsIn K mainGlobals "super" = some none) (top : (prog.main.scope.names.lookup ("super" : Str)).isSome = false)
    (lI : K.lookup fI = some ⟨oc, od, .func (PySem.W.ksFn "__init__" qual (PySem.QErr.eA v p1 p2) (PySem.QErr.eB v m j q1 q2 q3 q4 q5 q6 q7 q8 q9 q10) (PySem.QErr.eS v) .none .none doc pm an (.ref cda) ct cc), osl⟩) (cI : PySem.W.codeIn K (.ref cda) qual = true)
    (lcd : K.lookup cda = some ⟨ccl, cdd, .fields vs, ccs⟩) (hvs : vs[2]? = some (.str file tf)) (hfile : ((prog.main.file : Str) == file) = true) (lcc : K.lookup cc = some ⟨cl, cld, .cell (some (.ref C)), csl⟩) (same : (q3.endLine == q5.line) = true) :
    PySem.QErr.ErrTxt prog K mg n v C fI := {
  gC := PySem.W.mg_of X G aC, cls := ⟨nm, q, N, bs, .ref S :: bmS, sn, sub, ab, col, dd, k0, k1, k2, k3, k5, xC, bC⟩, sa := sa, ga := ga, gg := gg, noN := nb, iC := iC, tC := tI, kC := kC, exC := eC, tyC := tC, hdC := hC
  te := exm_of eC cC tC sC, self := mC, subV := vC, up := up_of xC xS uC, any := anyC, sup := PySem.W.mg_none_of X G sup, top := top
  fn := ⟨qual, oc, od, doc, pm, an, cda, cc, ct, osl, m, j, p1, p2, q1, q2, q3, q4, q5, q6, q7, q8, q9, q10, lI, cI, ⟨ccl, cdd, vs, ccs, file, tf, lcd, hvs, hfile⟩, ⟨cl, cld, csl, lcc⟩, call_form same (fun env => rfl)⟩ }
end QX

set_option Elab.async false
set_option linter.all false
set_option maxRecDepth 100000
set_option maxHeartbeats 4000000
namespace Q
open PySem PySem.Spec PyProof.Rows L2
/-- no integer from l on -/
def Bad (K : PySem.W.Frag) (H : Hp) (l : Int) (x : V) : Prop := IsI K H x false ∨ ∃ i, x = .int i ∧ i < l
/-- a number from l on is asked for: nothing, or the error at C with the very object -/
def spReqX (K : PySem.W.Frag) (C : Addr) (l : Int) : Sp := fun vs H Q E => ∃ x, vs = [x] ∧ ((∃ i, x = .int i ∧ l ≤ i ∧ Q .non H) ∨ (Bad K H l x ∧ ∀ d, H d = none → E (.ref C) (some d) (upd H d (.xd [("value", x)]))))
def spStepX (K : PySem.W.Frag) (C CN CS : Addr) : Sp := fun vs H Q E => ∃ (p : Addr) (nv xv : V), vs = [.ref p, nv, xv] ∧
  ((Bad K H 0 nv ∧ ∀ d, H d = none → E (.ref CN) (some d) (upd H d (.xd [("value", nv)]))) ∨
    ((∃ i, nv = .int i ∧ 0 ≤ i) ∧ Bad K H 1 xv ∧ ∀ d, H d = none → E (.ref CS) (some d) (upd H d (.xd [("value", xv)]))))
def spRefused (K : PySem.W.Frag) (C CN CS : Addr) : Sp := fun vs H Q _ => ∃ (p : Addr) (L : Parts) (nv xv : V), vs = [.ref p, nv, xv] ∧ AvgAt C H p L ∧
  ((Bad K H 0 nv ∧ ∀ (t : Addr) (H' : Hp), Same H H' → H' t = some (.tup [.str "number", nv]) → Q (.ref t) H') ∨
    ((∃ i, nv = .int i ∧ 0 ≤ i) ∧ Bad K H 1 xv ∧ ∀ (t : Addr) (H' : Hp), Same H H' → H' t = some (.tup [.str "start", xv]) → Q (.ref t) H'))
theorem root_pos {n r : Int} {k : Nat} (hn : 1 ≤ n) (h0 : 0 ≤ r) (h : n < (r + 1) ^ k) : 1 ≤ r := by
  rcases Int.lt_or_le 0 r with h1 | h1
  · omega
  · have e : r = 0 := by omega
    rw [e, Int.zero_add, Int.one_pow] at h
    omega
/-! ### the law's own defs of law k05 -/
def spLoop (C : Addr) : Sp := fun vs H Q _ => ∃ (p : Addr) (L : Parts), vs = [.ref p] ∧ H p = some (.tup L.vs) ∧ L.Ok ∧ ∀ (x : Addr) (H' : Hp), H x = none → Same H H' → AvgAt C H' x L → Q (.ref x) H'
def spLed : Sp := fun vs H Q _ => ∃ (p : Addr) (L : Parts) (n x : Int) (b : Nat), vs = [.ref p, .int n, .int x] ∧ H p = some (.tup L.vs) ∧ L.Ok ∧ 0 ≤ n ∧ 1 ≤ x ∧ Sz x b ∧ 0 < b ∧ b ≤ 2000 ∧ Q (.int (stepZ L n x)) H
def spNumber : Sp := fun vs H Q _ => ∃ (a : Addr) (c : Nat) (k : Int), vs = [.ref a, .int k] ∧ StrAt H a c ∧ c ≤ 90000 ∧ 2 ≤ k ∧ k ≤ 4 ∧ ∀ (n : Int) (H' : Hp), 1 ≤ n → Sz n 700 → SameBut a H H' → StrAt H' a (c + 20) → Q (.int n) H'
def spRoot : Sp := fun vs H Q _ => ∃ n k : Int, vs = [.int n, .int k] ∧ 0 ≤ n ∧ Sz n 700 ∧ 2 ≤ k ∧ k ≤ 4 ∧ ∀ (r : Int) (H' : Hp), 0 ≤ r → r ≤ n → r ^ k.toNat ≤ n → n < (r + 1) ^ k.toNat → Same H H' → Q (.int r) H'
/-! ### above the root a step never turns the order -/
theorem quot_drop {k n x : Int} (hk : k = 2 ∨ k = 3 ∨ k = 4) (hx : 1 ≤ x) (h0 : 0 ≤ n) (hn : n < x ^ k.toNat) : n / x ^ (k - 1).toNat - (k - 1) ≤ n / (x + 1) ^ (k - 1).toNat := by
  have p0 : 0 < x ^ (k - 1).toNat := Int.pow_pos (by omega)
  have p1 : 0 < (x + 1) ^ (k - 1).toNat := Int.pow_pos (by omega)
  have q0 : 0 ≤ n / x ^ (k - 1).toNat := Int.ediv_nonneg h0 (Int.le_of_lt p0)
  have q1 : n / x ^ (k - 1).toNat * x ^ (k - 1).toNat ≤ n := Int.ediv_mul_le n (by omega)
  have q2 : n / x ^ (k - 1).toNat < x := by
    refine Int.ediv_lt_of_lt_mul p0 ?_
    have e : k.toNat = (k - 1).toNat + 1 := by omega
    rw [e, Int.pow_succ, Int.mul_comm] at hn
    exact hn
  rw [Int.le_ediv_iff_mul_le p1]
  refine Int.le_trans ?_ q1
  generalize n / x ^ (k - 1).toNat = q at *
  have xx : 0 ≤ x * x := Int.mul_nonneg (by omega) (by omega)
  rcases hk with rfl | rfl | rfl
  · show (q - (2 - 1)) * (x + 1) ^ (1 : Int).toNat ≤ q * x ^ (1 : Int).toNat
    rw [pw1, pw1]
    have e : q * x - (q - (2 - 1)) * (x + 1) = x + 1 - q := by grind
    omega
  · show (q - (3 - 1)) * (x + 1) ^ (2 : Int).toNat ≤ q * x ^ (2 : Int).toNat
    rw [pw2, pw2]
    have e : q * (x * x) - (q - (3 - 1)) * ((x + 1) * (x + 1)) = (x - q) * (2 * x + 1) + 3 * x + 2 := by grind
    have h : 0 ≤ (x - q) * (2 * x + 1) := Int.mul_nonneg (by omega) (by omega)
    omega
  · show (q - (4 - 1)) * (x + 1) ^ (3 : Int).toNat ≤ q * x ^ (3 : Int).toNat
    rw [pw3, pw3]
    have e : q * (x * x * x) - (q - (4 - 1)) * ((x + 1) * (x + 1) * (x + 1)) = (x - q) * (3 * (x * x) + 3 * x + 1) + 6 * (x * x) + 8 * x + 3 := by grind
    have h : 0 ≤ (x - q) * (3 * (x * x) + 3 * x + 1) := Int.mul_nonneg (by omega) (by omega)
    omega
theorem step_up {L : Parts} (ok : L.Ok) {n x : Int} (hx : 1 ≤ x) (h0 : 0 ≤ n) (hn : n < x ^ L.k.toNat) : stepZ L n x ≤ stepZ L n (x + 1) := by
  have k2 := ok.k2
  have k4 := ok.k4
  have a1 := ok.a1
  have c1 := ok.c1
  have ca := ok.ca
  have hk3 : L.k = 2 ∨ L.k = 3 ∨ L.k = 4 := by omega
  have d := quot_drop hk3 hx h0 hn
  unfold stepZ
  refine Int.ediv_le_ediv (by omega) ?_
  generalize n / x ^ (L.k - 1).toNat = q1 at *
  generalize n / (x + 1) ^ (L.k - 1).toNat = q2 at *
  have h1 : L.c * (q1 - q2) ≤ L.c * (L.k - 1) := Int.mul_le_mul_of_nonneg_left (by omega) (by omega)
  rw [Int.mul_sub] at h1
  have h2 : L.a * (x + 1) = L.a * x + L.a := by rw [Int.mul_add, Int.mul_one]
  omega
theorem step_mono {L : Parts} (ok : L.Ok) {n x : Int} (hx : 1 ≤ x) (h0 : 0 ≤ n) (hn : n < x ^ L.k.toNat) : ∀ m : Nat, n < (x + m) ^ L.k.toNat ∧ stepZ L n x ≤ stepZ L n (x + m)
  | 0 => ⟨by rw [Int.natCast_zero, Int.add_zero]; exact hn, by rw [Int.natCast_zero, Int.add_zero]; exact Int.le_refl _⟩
  | m + 1 => by
    obtain ⟨h1, h2⟩ := step_mono ok hx h0 hn m
    have k2 := ok.k2
    have e : x + ((m + 1 : Nat) : Int) = x + m + 1 := by omega
    rw [e]
    exact ⟨Int.lt_trans h1 (pow_lt_succ (by omega) (by omega)), Int.le_trans h2 (step_up ok (by omega) h0 h1)⟩
theorem step_le {L : Parts} (ok : L.Ok) {n x z : Int} (hx : 1 ≤ x) (h0 : 0 ≤ n) (hn : n < x ^ L.k.toNat) (hz : x ≤ z) : n < z ^ L.k.toNat ∧ stepZ L n x ≤ stepZ L n z := by
  have := step_mono ok hx h0 hn (z - x).toNat
  have e : x + ((z - x).toNat : Int) = z := by omega
  rw [e] at this
  exact this
theorem step_nn {L : Parts} (ok : L.Ok) {n x : Int} (hx : 1 ≤ x) (h0 : 0 ≤ n) : 0 ≤ stepZ L n x := by
  have a1 := ok.a1
  have c1 := ok.c1
  have d0 := ok.d0
  unfold stepZ
  refine Int.ediv_nonneg ?_ (by omega)
  have p0 : 0 < x ^ (L.k - 1).toNat := Int.pow_pos (by omega)
  have q0 : 0 ≤ n / x ^ (L.k - 1).toNat := Int.ediv_nonneg h0 (Int.le_of_lt p0)
  have h1 : 0 ≤ L.c * (n / x ^ (L.k - 1).toNat) := Int.mul_nonneg (by omega) q0
  have h2 : L.a * 1 ≤ L.a * x := Int.mul_le_mul_of_nonneg_left hx (by omega)
  omega
/-! ### objects that are none -/
def OddV (H : Hp) (l : Int) (v : V) (d : PyData) : Prop :=
  (∃ i, v = .int i ∧ d = .int i ∧ i < l) ∨ (∃ b, v = .bl b ∧ d = .bool b) ∨ (v = .non ∧ d = .none) ∨ (v = .str "9" ∧ d = .str "9") ∨ (v = .str "1" ∧ d = .str "1") ∨
    (∃ a, v = .ref a ∧ H a = some (.lst [.int 4]) ∧ d = .list [.int 4]) ∨ (∃ a, v = .ref a ∧ H a = some (.tup [.int 3]) ∧ d = .tuple [.int 3])
theorem OddV.mono {H H' : Hp} {l : Int} {v : V} {d : PyData} (h : OddV H l v d) (k : ∀ a o, v = .ref a → H a = some o → H' a = some o) : OddV H' l v d := by
  rcases h with h | h | h | h | h | ⟨a, e, e1, e2⟩ | ⟨a, e, e1, e2⟩
  · exact .inl h
  · exact .inr (.inl h)
  · exact .inr (.inr (.inl h))
  · exact .inr (.inr (.inr (.inl h)))
  · exact .inr (.inr (.inr (.inr (.inl h))))
  · exact .inr (.inr (.inr (.inr (.inr (.inl ⟨a, e, k a _ e e1, e2⟩)))))
  · exact .inr (.inr (.inr (.inr (.inr (.inr ⟨a, e, k a _ e e1, e2⟩)))))
theorem OddV.same {H H' : Hp} {l : Int} {v : V} {d : PyData} (h : OddV H l v d) (k : Same H H') : OddV H' l v d := h.mono fun a o _ e => k a o e
theorem OddV.bad {K : PySem.W.Frag} {H : Hp} {l : Int} {v : V} {d : PyData} (h : OddV H l v d) : Bad K H l v := by
  rcases h with ⟨i, rfl, _, h⟩ | ⟨b, rfl, _⟩ | ⟨rfl, _⟩ | ⟨rfl, _⟩ | ⟨rfl, _⟩ | ⟨a, rfl, e, _⟩ | ⟨a, rfl, e, _⟩
  · exact .inr ⟨i, rfl, h⟩
  · exact .inl (isI_bl K H b)
  · exact .inl (isI_non K H)
  · exact .inl (isI_str K H _)
  · exact .inl (isI_str K H _)
  · exact .inl (isI_lst K e)
  · exact .inl (isI_tup K e)
theorem OddV.dp {K : PySem.W.Frag} {H : Hp} {l : Int} {v : V} {d : PyData} (h : OddV H l v d) : Dp K H v d := by
  rcases h with ⟨i, rfl, rfl, h⟩ | ⟨b, rfl, rfl⟩ | ⟨rfl, rfl⟩ | ⟨rfl, rfl⟩ | ⟨rfl, rfl⟩ | ⟨a, rfl, e, rfl⟩ | ⟨a, rfl, e, rfl⟩
  · exact .int i
  · exact .bl b
  · exact .non
  · exact .str _
  · exact .str _
  · exact .lst (SqL.of e) (.cons (.int 4) .nil)
  · exact .tup (SqT.of e) (.cons (.int 3) .nil)
theorem OddV.lay {H : Hp} {l : Int} {v : V} {d : PyData} (h : OddV H l v d) : d.canLay0 = true ∧ d.depth ≤ 2 := by
  rcases h with ⟨i, rfl, rfl, h⟩ | ⟨b, rfl, rfl⟩ | ⟨rfl, rfl⟩ | ⟨rfl, rfl⟩ | ⟨rfl, rfl⟩ | ⟨a, rfl, e, rfl⟩ | ⟨a, rfl, e, rfl⟩
  · exact ⟨rfl, by show PyData.depth (.int i) ≤ 2; unfold PyData.depth; omega⟩
  · exact ⟨rfl, by show PyData.depth (.bool b) ≤ 2; unfold PyData.depth; omega⟩
  · exact ⟨rfl, by decide⟩
  · exact ⟨by decide +kernel, by decide +kernel⟩
  · exact ⟨by decide +kernel, by decide +kernel⟩
  · exact ⟨by decide +kernel, by decide +kernel⟩
  · exact ⟨by decide +kernel, by decide +kernel⟩
theorem OddV.ty {K : PySem.W.Frag} {H : Hp} {l : Int} {v : V} {d : PyData} (h : OddV H l v d) : ∃ (t : Value) (b : Bool), TyX K H v t ∧ PySem.W.kitOne K t (.type "bool") = some b := by
  rcases h with ⟨i, rfl, _, h⟩ | ⟨b, rfl, _⟩ | ⟨rfl, _⟩ | ⟨rfl, _⟩ | ⟨rfl, _⟩ | ⟨a, rfl, e, _⟩ | ⟨a, rfl, e, _⟩
  · exact ⟨_, false, .base (.int i), kit_ty (by decide +kernel)⟩
  · exact ⟨_, true, .base (.bl b), kit_ty (by decide +kernel)⟩
  · exact ⟨_, false, .base .non, kit_ty (by decide +kernel)⟩
  · exact ⟨_, false, .base (.str _), kit_ty (by decide +kernel)⟩
  · exact ⟨_, false, .base (.str _), kit_ty (by decide +kernel)⟩
  · exact ⟨_, false, .base (.lst e), kit_ty (by decide +kernel)⟩
  · exact ⟨_, false, .base (.tup e), kit_ty (by decide +kernel)⟩
theorem pair_shaped {d : PyData} (s : Str) (hs : PyData.canLay0 (.str s) = true) (h1 : d.canLay0 = true) (h2 : d.depth ≤ 2) : SeqAt.shaped (.tuple [.str s, d]) = true := by
  unfold SeqAt.shaped
  rw [Bool.and_eq_true, decide_eq_true_eq]
  refine ⟨?_, ?_⟩
  · show (PyData.canLay0 (.str s) && (PyData.canLay0 d && true)) = true
    rw [hs, h1] <;> rfl
  · simp only [PyData.depth, PyData.depthAll]
    omega
end Q

set_option Elab.async false
set_option linter.all false
set_option maxRecDepth 100000
set_option maxHeartbeats 4000000
/-! == and != of instances by an own __eq__ that answers True or False -/
namespace QEq
open PySem PySem.Spec PyProof.Rows L2
/-- what the text must have for != of an instance: no own __ne__ -/
structure NeTxt (K : PySem.W.Frag) (C : Addr) : Prop where
  ne : PySem.W.findIn K (.ref C) "__ne__" = some (some (.builtin "object.__ne__"))
  mro : PySem.W.mroIn K C (.type "object") = some true
/-- isinstance by the class of an instance -/
structure ClsTxt (K : PySem.W.Frag) (C : Addr) : Prop where
  cl : Cls K C
  ha : PySem.W.findIn K (.ref C) "__class__" = some (some (.builtin "object.__class__"))
  hn : PySem.W.specialIn K (.builtin "object.__class__") "__get__" = some (some (.builtin "getset_descriptor.__get__"))
  htk : PySem.W.takesIn K (.builtin "object.__class__") = some true
  hm : PySem.W.mroIn K C (.type "object") = some true
  cC : PySem.W.isClsIn K C = true
  tC : PySem.W.typeIn K (.ref C) = some (.type "type")
  nTup : PySem.W.subIn K (.type "tuple") (.ref C) = some false
  nNon : PySem.W.subIn K (.type "NoneType") (.ref C) = some false
  nStr : PySem.W.subIn K (.type "str") (.ref C) = some false
theorem ClsTxt.ty {K : PySem.W.Frag} {C : Addr} (c : ClsTxt K C) {H : Hp} {a dx : Addr} {fs : List (Str × V)} (h : H a = some (.ins C dx fs)) : TyX K H (.ref a) (.ref C) := .base (.ins h c.cl c.ha c.hn c.htk c.hm)
theorem kit_self {K : PySem.W.Frag} {C : Addr} : PySem.W.kitOne K (.ref C) (.ref C) = some true := by
  unfold PySem.W.kitOne
  rw [if_pos (by simp)]
theorem ClsTxt.kit {K : PySem.W.Frag} {C : Addr} (c : ClsTxt K C) {T : String} (h : PySem.W.subIn K (.type T) (.ref C) = some false) : PySem.W.kitOne K (.type T) (.ref C) = some false := by
  have e : ((PySem.W.clsIn K C).isSome && PySem.W.typeIn K (.ref C) == some (.type "type")) = true := by
    have h2 : (PySem.W.clsIn K C).isSome = true := c.cC
    rw [h2, c.tC] <;> rfl
  unfold PySem.W.kitOne
  rw [if_neg (by simp)]
  unfold PySem.W.kitCls
  simp only [e, if_true]
  exact h
theorem ClsTxt.nf {K : PySem.W.Frag} {C : Addr} {T : String} (h : PySem.W.subIn K (.type T) (.ref C) = some false) : PySem.W.notFirst K C (.type T) = true := by
  unfold PySem.W.notFirst
  rw [h]
  simp
theorem nf_self {K : PySem.W.Frag} {C : Addr} : PySem.W.notFirst K C (.ref C) = true := by
  unfold PySem.W.notFirst
  simp
/-- x == y, x an instance with an own == -/
def rEqO (K : PySem.W.Frag) (C : Addr) (sp : Sp) : R2 := fun x y H Q => ∃ (a dx : Addr) (fs : List (Str × V)) (t : Value), x = .ref a ∧ H a = some (.ins C dx fs) ∧ TyX K H y t ∧ PySem.W.notFirst K C t = true ∧
  sp [x, y] H (fun v H' => ∃ b, v = .bl b ∧ Q (.bl b) H') C8.E0
/-- x != y, likewise -/
def rNeO (K : PySem.W.Frag) (C : Addr) (sp : Sp) : R2 := fun x y H Q => ∃ (a dx : Addr) (fs : List (Str × V)) (t : Value), x = .ref a ∧ H a = some (.ins C dx fs) ∧ TyX K H y t ∧ PySem.W.notFirst K C t = true ∧
  sp [x, y] H (fun v H' => ∃ b, v = .bl b ∧ Q (.bl (!b)) H') C8.E0
section
variable {X : Cx} {k j : Nat} {C f : Addr} {fd : FuncData} {ps : List Str} {ds : List Value} {dvs : List V} {sp : Sp}
/-- the call of __eq__ somewhere below the running body -/
theorem run_at (F : FnOk X.prog X.w X.K X.mg X.base C8.CX0 k f fd ps sp) (b : Binds X.K fd ps ds) (d : Vals dvs ds) {A : Around} (sb : Sub X k A) {pins : List (Addr × Obj)} {σ : L2.St} {H : Hp} {s : Shared} {Q : VK} {us : List Value} {vs : List V}
    (I : Inv X pins σ H s) (r : Vals vs us) (h : sp (vs ++ dvs) H Q C8.E0) : wpAny (model X.prog X.w) A (call (.ref f) us) (EP X pins σ Q) X.xe s := by
  have e0 : Env0 X.prog X.w X.K X.mg X.base A X.stack s H := by
    have e := I.env0
    exact ⟨by rw [sb.fr]; exact e.frames, e.mod, e.bs, e.bsz, e.funs, e.frf, e.hok, e.bare⟩
  have r2 : Vals (vs ++ dvs) (us ++ ds) := r.append d
  have hl : (us ++ ds).length = ps.length := by rw [← r2.length]; exact F.len _ _ _ _ h
  refine wpAny_call (codeAny_mono (F.run A X.stack s H ⟨us, []⟩ (us ++ ds) (vs ++ dvs) Q C8.E0 sb.room e0 (b s us I.kIn hl) r2 h) fun r s' hq => ?_)
  cases r with
  | error e => exact hq.elim
  | ok fl =>
    cases fl with
    | ret w => exact I.after hq
    | next => exact False.elim hq
    | brk => exact False.elim hq
    | cont => exact False.elim hq
theorem op_eqO (c : C8.Met X.prog X.w X.K X.mg X.base k C "__eq__" sp []) (hr : Room j X.A) (hk : k ≤ j) : OpR X (compareOp .Eq) (rEqO X.K C sp) := by
  obtain ⟨f, fd, ps, ds, hc, hm, F, b, d⟩ := c.ex
  intro pins s σ H x y v u Q I rx ry hq
  obtain ⟨a, dx, fs, t, rfl, ha, ty, nf, hsp⟩ := hq
  cases (show v = Value.ref a from rx)
  obtain ⟨mA, J, _⟩ := ins_get I.hok ha
  obtain ⟨od, J, _⟩ := J.look
  obtain ⟨m, hF⟩ := I.fr
  obtain ⟨P, Z, p, hx⟩ := kit_of I ry ty
  have r2 : Vals [V.ref a, y] [Value.ref a, u] := .cons rfl (.cons ry .nil)
  have hrk := hr.mono hk
  show wpAny (model X.prog X.w) X.A (richCompare .Eq (.ref a) u) (EP X pins σ Q) X.xe s
  refine PySem.W.cmp_K (op := .Eq) (tb := t) hrk.units0 hF I.ok.mod.kin J (Z.ty _ _ I.kIn p) nf hm.at_ hm.fn ?_
  refine wpAny_mono (run_at (Q := fun v H' => ∃ b, v = .bl b ∧ Q (.bl b) H') F b d ⟨hrk, rfl⟩ I r2 (by exact hsp)) (fun r s' z => ?_) fun _ _ x => x
  obtain ⟨w', H', I', rw', bb, rfl, q⟩ := z
  cases (show r = Value.bool bb from rw')
  exact ⟨.bl bb, H', I', rfl, q⟩
theorem ifBoundB {K : PySem.W.Frag} {s : Shared} {x C : Addr} {ox : Obj} {od : Option Obj} {name : Str} {id : String} {M : Model} {A : Around} {E : Value → Shared → Prop} {args : List Value} {Q : Option Value → Shared → Prop} (X : K.In s.heap) (I : PySem.W.InstAt s.heap x ox C od) (hs : PySem.W.findIn K (.ref C) name = some (some (.builtin id)))
    (hb : ∀ self, bindSpecial (.builtin id) self = pure (.builtin id, [self])) (h : wpAny M A (call (.builtin id) (.ref x :: args)) (fun v => Q (some v)) E s) : wpAny M A (callSpecialIfBound? (.ref x) name args) Q E s := by
  simp only [callSpecialIfBound?, bindSpecialIfBound?]
  refine wpAny_holding (wpAny_bind (wpAny_bind (wpAny_bind (I.type.here ((PySem.W.looks_findIn X hs).here ?_)))))
  simp only [hb]
  refine wpAny_bind (wpAny_askSetting (wpAny_ite ?_))
  have fin : wpAny M A (call (.builtin id) ([.ref x] ++ args) >>= fun v => pure (some v)) Q E s := wpAny_bind (wpAny_mono h (fun v s' h' => wpAny_pure h') fun _ _ h' => h')
  split
  · exact wpAny_bind (wpAny_pure (wpAny_pure fin))
  · exact wpAny_tryCatch (wpAny_bind (wpAny_pure (wpAny_pure fin)))
theorem op_neO (c : C8.Met X.prog X.w X.K X.mg X.base k C "__eq__" sp []) (hr : Room j X.A) (hk : k + 1 ≤ j) (n : NeTxt X.K C) : OpR X (compareOp .NotEq) (rNeO X.K C sp) := by
  obtain ⟨f, fd, ps, ds, hc, hm, F, b, d⟩ := c.ex
  intro pins s σ H x y v u Q I rx ry hq
  obtain ⟨a, dx, fs, t, rfl, ha, ty, nf, hsp⟩ := hq
  cases (show v = Value.ref a from rx)
  obtain ⟨mA, J, _⟩ := ins_get I.hok ha
  obtain ⟨od, J, _⟩ := J.look
  obtain ⟨P, Z, p, hx⟩ := kit_of I ry ty
  have r2 : Vals [V.ref a, y] [Value.ref a, u] := .cons rfl (.cons ry .nil)
  have hrk := hr.mono hk
  have sb : Sub X k X.A.in1 := ⟨hrk.in1, rfl⟩
  have hcall : wpAny (model X.prog X.w) X.A (call (.builtin "object.__ne__") [.ref a, u]) (fun r s' => r ≠ .notImplemented ∧ EP X pins σ Q r s') X.xe s := by
    refine wpAny_call (codeAny_call_builtin PySem.F.cmp_object.ne.plain PySem.F.cmpEntry_ne (PySem.W.check_slot (i := "object.__ne__") (owner := "object") (n := "__ne__") PySem.F.cmpKind_ne PySem.F.cmpSplit_ne (J.type.andThen (PySem.W.looks_mroIn I.kIn n.mro)) (PySem.F.cmpArgs_ne _ _) ?_))
    unfold Builtin.«object.__ne__»
    refine wpAny_bind (m := slotArgs "__ne__" 1 _) (wpAny_pure ?_)
    refine wpAny_bind (m := cRoomFor _ _) (wpAny_cRoomFor sb.room.units0 ?_)
    refine wpAny_bind (m := callSpecialIfBound? (.ref a) (Str.ofString "__eq__") _) (PySem.W.ifBound_K I.kIn J hm.at_ hm.fn (wpAny_mono (run_at (Q := fun v H' => ∃ b, v = .bl b ∧ Q (.bl (!b)) H') F b d sb I r2 (by exact hsp)) (fun r s' z => ?_) fun _ _ x => x))
    obtain ⟨w', H', I', rw', bb, rfl, q⟩ := z
    cases (show r = Value.bool bb from rw')
    refine wpAny_bind (m := truthy (.bool bb)) (wpAny_truthy_bool ?_)
    exact wpAny_pure ⟨(fun x => nomatch x), .bl (!bb), H', I', rfl, q⟩
  have one : wpAny (model X.prog X.w) X.A (tryCompare (.ref a) "__ne__" u) (fun r s' => ∃ v, r = some v ∧ EP X pins σ Q v s') X.xe s := by
    unfold tryCompare
    refine wpAny_bind (ifBoundB I.kIn J n.ne PySem.F.cmp_object.ne.bind (wpAny_mono hcall (fun v s' hv => ?_) fun _ _ e => e))
    obtain ⟨h1, h2⟩ := hv
    cases v <;> first | exact absurd rfl h1 | exact wpAny_pure ⟨_, rfl, h2⟩
  show wpAny (model X.prog X.w) X.A (richCompare .NotEq (.ref a) u) (EP X pins σ Q) X.xe s
  unfold richCompare
  simp only [oneThing_ref]
  refine wpAny_holding (wpAny_bind (wpAny_cRoomFor hrk.units0 ?_))
  refine wpAny_bind (J.type.here (wpAny_bind ((Z.ty _ _ I.kIn p).here ?_)))
  split
  · rename_i q
    have e : PySem.W.subIn X.K t (.ref C) = some false := by
      rcases Bool.or_eq_true_iff.mp nf with e | e
      · rw [beq_iff_eq.mp e] at q; simp at q
      · exact beq_iff_eq.mp e
    refine wpAny_bind ((PySem.W.looks_subIn I.kIn e).here ?_)
    simp only [Bool.false_eq_true, if_false]
    refine wpAny_bind (wpAny_mono one (fun r s' z => ?_) fun _ _ e => e)
    obtain ⟨v, rfl, hq⟩ := z
    exact wpAny_pure hq
  · refine wpAny_bind (wpAny_pure ?_)
    simp only [Bool.false_eq_true, if_false]
    refine wpAny_bind (wpAny_mono one (fun r s' z => ?_) fun _ _ e => e)
    obtain ⟨v, rfl, hq⟩ := z
    exact wpAny_pure hq
end
end QEq

set_option Elab.async false
set_option linter.all false
set_option maxRecDepth 100000
set_option maxHeartbeats 4000000
namespace Q
open PySem PySem.Spec PyProof.Rows L2
theorem room65 {k : Nat} {A : Around} (r : Room k A) : A.units + 65 < cLine := by
  have := r.un
  omega
/-! ### parts of an average loop that may be anything -/
/-- any value: an integer, a text, or neither -/
def AnyV (K : PySem.W.Frag) (H : Hp) (v : V) : Prop := (∃ i, v = .int i) ∨ (∃ s, v = .str s) ∨ (((∀ i, v ≠ .int i) ∧ ∀ s, v ≠ .str s) ∧ IsI K H v false ∧ ∃ t, TyX K H v t ∧ PySem.W.kitOne K t (.type "str") = some false)
def inW (v : V) (lo hi : Int) : Bool := match v with
  | .int i => decide (lo ≤ i) && decide (i ≤ hi)
  | _ => false
def isWd (v : V) (l : List Str) : Bool := match v with
  | .str s => decide (s ∈ l)
  | _ => false
def intOf (v : V) : Int := match v with
  | .int i => i
  | _ => 0
def strOf (v : V) : Str := match v with
  | .str s => s
  | _ => ""
theorem intOf_int (i : Int) : intOf (.int i) = i := rfl
theorem strOf_str (s : Str) : strOf (.str s) = s := rfl
def mostC (k a : Int) : Int := if 6 - a < a / (k - 1) then 6 - a else a / (k - 1)
/-- the first part that is not so -/
def faultV (k a c d stop told mend : V) : Option Str :=
  bif inW k 2 4 then bif inW a 1 5 then bif inW c 1 (mostC (intOf k) (intOf a)) then bif inW d (-intOf a) (intOf a + intOf c) then bif isWd stop stops then bif isWd told (tellingsOf (strOf stop)) then bif isWd mend mendings then none
    else some "mend" else some "told" else some "stop" else some "d" else some "c" else some "a" else some "k"
def spWithin2 (K : PySem.W.Frag) : Sp := spIsWithin K
theorem AnyV.within {K : PySem.W.Frag} {H : Hp} {v : V} (h : AnyV K H v) {lo hi : Int} {Q : VK} (q : Q (.bl (inW v lo hi)) H) : (∃ i, v = .int i ∧ Q (.bl (decide (lo ≤ i) && decide (i ≤ hi))) H) ∨ (IsI K H v false ∧ Q (.bl false) H) := by
  rcases h with ⟨i, rfl⟩ | ⟨s, rfl⟩ | ⟨⟨n1, n2⟩, h, _⟩
  · exact .inl ⟨i, rfl, q⟩
  · exact .inr ⟨isI_str K H s, q⟩
  · refine .inr ⟨h, ?_⟩
    have e : inW v lo hi = false := by
      cases v <;> first | rfl | exact absurd rfl (n1 _)
    rw [e] at q
    exact q
theorem AnyV.word {K : PySem.W.Frag} {H : Hp} {v : V} (h : AnyV K H v) {l : List Str} {Q : VK} (q : Q (.bl (isWd v l)) H) : (∃ s, v = .str s ∧ Q (.bl (decide (s ∈ l))) H) ∨ ((∃ t, TyX K H v t ∧ PySem.W.kitOne K t (.type "str") = some false) ∧ Q (.bl false) H) := by
  rcases h with ⟨i, rfl⟩ | ⟨s, rfl⟩ | ⟨⟨n1, n2⟩, _, h⟩
  · exact .inr ⟨⟨_, .base (.int i), kit_ty (by decide +kernel)⟩, q⟩
  · exact .inl ⟨s, rfl, q⟩
  · refine .inr ⟨h, ?_⟩
    have e : isWd v l = false := by
      cases v <;> first | rfl | exact absurd rfl (n2 _)
    rw [e] at q
    exact q
theorem AnyV.no {K : PySem.W.Frag} {H : Hp} {v : V} (h : AnyV K H v) {lo hi : Int} (e : inW v lo hi = false) : (∃ i, v = .int i ∧ (decide (lo ≤ i) && decide (i ≤ hi)) = false) ∨ IsI K H v false := by
  rcases h with ⟨i, rfl⟩ | ⟨s, rfl⟩ | ⟨_, h, _⟩
  · exact .inl ⟨i, rfl, e⟩
  · exact .inr (isI_str K H s)
  · exact .inr h
theorem AnyV.noW {K : PySem.W.Frag} {H : Hp} {v : V} (h : AnyV K H v) {l : List Str} (e : isWd v l = false) : (∃ s, v = .str s ∧ decide (s ∈ l) = false) ∨ ∃ t, TyX K H v t ∧ PySem.W.kitOne K t (.type "str") = some false := by
  rcases h with ⟨i, rfl⟩ | ⟨s, rfl⟩ | ⟨_, _, h⟩
  · exact .inr ⟨_, .base (.int i), kit_ty (by decide +kernel)⟩
  · exact .inl ⟨s, rfl, e⟩
  · exact .inr h
theorem inW_int {v : V} {lo hi : Int} (h : inW v lo hi = true) : ∃ i, v = .int i ∧ lo ≤ i ∧ i ≤ hi := by
  cases v <;> first | exact absurd h Bool.false_ne_true | skip
  rename_i i
  have h2 : (decide (lo ≤ i) && decide (i ≤ hi)) = true := h
  rw [Bool.and_eq_true, decide_eq_true_eq, decide_eq_true_eq] at h2
  exact ⟨i, rfl, h2.1, h2.2⟩
theorem isWd_str {v : V} {l : List Str} (h : isWd v l = true) : ∃ s, v = .str s ∧ s ∈ l := by
  cases v <;> first | exact absurd h Bool.false_ne_true | skip
  rename_i s
  exact ⟨s, rfl, of_decide_eq_true h⟩
/-- what is told of a fault -/
def tellV : Option Str → V
  | none => .non
  | some s => .str s
def spWrong (K : PySem.W.Frag) : Sp := fun vs H Q _ => ∃ k a c d stop told mend : V, vs = [k, a, c, d, stop, told, mend] ∧ AnyV K H k ∧ AnyV K H a ∧ AnyV K H c ∧ AnyV K H d ∧ AnyV K H stop ∧ (∀ H', Same H H' → AnyV K H' told) ∧ (∀ H', Same H H' → AnyV K H' mend) ∧
  ∀ H' : Hp, Same H H' → Q (tellV (faultV k a c d stop told mend)) H'
def avgFV (k a c d stop told mend : V) : List (Str × V) := putF "mend" mend (putF "told" told (putF "stop" stop (putF "d" d (putF "c" c (putF "a" a (putF "k" k []))))))
/-- Average(..) of any parts: the loop, or BadLoop with the first part that is not so -/
def spAvgX (K : PySem.W.Frag) (C CB : Addr) : Sp := fun vs H Q E => ∃ (x dx : Addr) (k a c d stop told mend : V), vs = [.ref x, k, a, c, d, stop, told, mend] ∧ H x = some (.ins C dx []) ∧
  AnyV K H k ∧ AnyV K H a ∧ AnyV K H c ∧ AnyV K H d ∧ AnyV K H stop ∧ (∀ H', Same H H' → AnyV K H' told) ∧ (∀ H', Same H H' → AnyV K H' mend) ∧
  (faultV k a c d stop told mend = none → ∀ H', H' x = some (.ins C dx (avgFV k a c d stop told mend)) → SameBut x H H' → Q .non H') ∧
  ∀ w, faultV k a c d stop told mend = some w → ∀ (H' : Hp) (dd : Addr), Same H H' → H' dd = some (.xd [("word", .str w)]) → E (.ref CB) (some dd) H'
/-- the values that parts are made of -/
def PartV (H : Hp) (v : V) : Prop := (∃ i, v = .int i) ∨ (∃ s, v = .str s ∧ PyData.strOk s = true) ∨ (∃ b, v = .bl b) ∨ v = .non ∨ (∃ (a : Addr) (ns : List Int), v = .ref a ∧ ns.length ≤ 2 ∧ H a = some (.lst (ns.map V.int))) ∨ ∃ (a : Addr) (ns : List Int), v = .ref a ∧ H a = some (.tup (ns.map V.int))
theorem PartV.mono {H H' : Hp} {v : V} (h : PartV H v) (k : ∀ (a : Addr) (ns : List Int), (ns.length ≤ 2 ∧ H a = some (.lst (ns.map V.int)) → H' a = some (.lst (ns.map V.int))) ∧ (H a = some (.tup (ns.map V.int)) → H' a = some (.tup (ns.map V.int)))) : PartV H' v := by
  rcases h with h | h | h | h | ⟨a, xs, e, hl, h⟩ | ⟨a, xs, e, h⟩
  · exact .inl h
  · exact .inr (.inl h)
  · exact .inr (.inr (.inl h))
  · exact .inr (.inr (.inr (.inl h)))
  · exact .inr (.inr (.inr (.inr (.inl ⟨a, xs, e, hl, (k a xs).1 ⟨hl, h⟩⟩))))
  · exact .inr (.inr (.inr (.inr (.inr ⟨a, xs, e, (k a xs).2 h⟩))))
theorem PartV.same {H H' : Hp} {v : V} (h : PartV H v) (k : Same H H') : PartV H' v := h.mono fun a ns => ⟨fun e => k _ _ e.2, fun e => k _ _ e⟩
theorem PartV.but {H H' : Hp} {v : V} {p : Addr} {c : Nat} (h : PartV H v) (k : SameBut p H H') (st : StrAt H p c) : PartV H' v := by
  obtain ⟨x, y, z, hp, _⟩ := st
  refine h.mono fun a ns => ⟨fun ⟨hl, e⟩ => k _ _ (fun n => ?_) e, fun e => k _ _ (fun n => ?_) e⟩
  · rw [n, hp] at e
    injection e with e
    injection e with e
    have := congrArg List.length e
    rw [List.length_map] at this
    have h3 : 3 = ns.length := this
    omega
  · rw [n, hp] at e
    cases e
theorem dpI (K : PySem.W.Frag) (H : Hp) : ∀ l : List Int, DpAll K H (l.map V.int) (l.map PyData.int)
  | [] => .nil
  | x :: l => .cons (.int x) (dpI K H l)
theorem layI : ∀ l : List Int, PyData.canLayAll0 (l.map PyData.int) = true ∧ PyData.depthAll (l.map PyData.int) ≤ 1
  | [] => ⟨rfl, Nat.zero_le _⟩
  | x :: l => by
    obtain ⟨h1, h2⟩ := layI l
    refine ⟨?_, ?_⟩
    · show (true && PyData.canLayAll0 (l.map PyData.int)) = true
      rw [h1] <;> rfl
    · show PyData.depthAll (PyData.int x :: l.map PyData.int) ≤ 1
      simp only [PyData.depthAll, PyData.depth]
      omega
/-- a part as nested data -/
theorem any_no (l : List Str) (d : PyData) (h : ∀ s, PyData.eqv (.str s) d = false) : (l.map PyData.str).any (fun z => PyData.eqv z d) = false := by
  rw [List.any_map]
  refine List.any_eq_false.mpr fun s _ => ?_
  show ¬ PyData.eqv (.str s) d = true
  rw [h]
  exact Bool.false_ne_true
theorem PartV.dp {K : PySem.W.Frag} {H : Hp} {v : V} (h : PartV H v) : ∃ d : PyData, Dp K H v d ∧ d.canLay0 = true ∧ d.depth ≤ 2 ∧ ∀ l : List Str, (l.map PyData.str).any (fun z => PyData.eqv z d) = isWd v l := by
  rcases h with ⟨i, rfl⟩ | ⟨s, rfl, hs⟩ | ⟨b, rfl⟩ | rfl | ⟨a, xs, rfl, hl, h⟩ | ⟨a, xs, rfl, h⟩
  · exact ⟨_, .int i, rfl, by simp only [PyData.depth]; omega, fun l => any_no l _ fun s => rfl⟩
  · refine ⟨_, .str s, hs, by simp only [PyData.depth]; omega, fun l => ?_⟩
    show _ = decide (s ∈ l)
    rw [List.any_map]
    induction l with
    | nil => rfl
    | cons x l ih =>
      rw [List.any_cons, ih]
      show ((x == s) || decide (s ∈ l)) = decide (s ∈ x :: l)
      by_cases e : x = s
      · subst e
        simp
      · have h1 : (x == s) = false := by simpa using e
        have h2 : ¬ s = x := fun e' => e e'.symm
        rw [h1, Bool.false_or]
        simp [h2]
  · exact ⟨_, .bl b, rfl, by simp only [PyData.depth]; omega, fun l => any_no l _ fun s => rfl⟩
  · exact ⟨_, .non, rfl, by simp only [PyData.depth]; omega, fun l => any_no l _ fun s => rfl⟩
  · obtain ⟨h1, h2⟩ := layI xs
    exact ⟨_, .lst (SqL.of h) (dpI K H xs), h1, by simp only [PyData.depth]; omega, fun l => any_no l _ fun s => rfl⟩
  · obtain ⟨h1, h2⟩ := layI xs
    exact ⟨_, .tup (SqT.of h) (dpI K H xs), h1, by simp only [PyData.depth]; omega, fun l => any_no l _ fun s => rfl⟩
theorem parts_dp {K : PySem.W.Frag} {H : Hp} : ∀ {vs : List V}, (∀ v ∈ vs, PartV H v) → ∃ ds : List PyData, DpAll K H vs ds ∧ PyData.canLayAll0 ds = true ∧ PyData.depthAll ds ≤ 2
  | [], _ => ⟨[], .nil, rfl, Nat.zero_le _⟩
  | v :: vs, h => by
    obtain ⟨d, h1, h2, h3, _⟩ := (h v (List.mem_cons_self ..)).dp (K := K)
    obtain ⟨ds, g1, g2, g3⟩ := parts_dp (K := K) (vs := vs) fun v hv => h v (List.mem_cons_of_mem _ hv)
    refine ⟨d :: ds, .cons h1 g1, ?_, ?_⟩
    · show (d.canLay0 && PyData.canLayAll0 ds) = true
      rw [h2, g2] <;> rfl
    · simp only [PyData.depthAll]
      omega
theorem shaped_of {d : PyData} (h1 : d.canLay0 = true) (h2 : d.depth ≤ 3) : SeqAt.shaped d = true := by
  unfold SeqAt.shaped
  rw [Bool.and_eq_true, decide_eq_true_eq]
  exact ⟨h1, by omega⟩
theorem PartV.any {K : PySem.W.Frag} {H : Hp} {v : V} (h : PartV H v) : AnyV K H v := by
  have no : ∀ {x : V}, (∀ i, x ≠ .int i) → (∀ s, x ≠ .str s) → IsI K H x false → (∃ t, TyX K H x t ∧ PySem.W.kitOne K t (.type "str") = some false) → AnyV K H x := fun a b c d => .inr (.inr ⟨⟨a, b⟩, c, d⟩)
  rcases h with h | ⟨s, h, _⟩ | ⟨b, rfl⟩ | rfl | ⟨a, xs, rfl, _, h⟩ | ⟨a, xs, rfl, h⟩
  · exact .inl h
  · exact .inr (.inl ⟨s, h⟩)
  · exact no (fun _ z => by cases z) (fun _ z => by cases z) (isI_bl K H b) ⟨_, .base (.bl b), kit_ty (by decide +kernel)⟩
  · exact no (fun _ z => by cases z) (fun _ z => by cases z) (isI_non K H) ⟨_, .base .non, kit_ty (by decide +kernel)⟩
  · exact no (fun _ z => by cases z) (fun _ z => by cases z) (isI_lst K h) ⟨_, .base (.lst h), kit_ty (by decide +kernel)⟩
  · exact no (fun _ z => by cases z) (fun _ z => by cases z) (isI_tup K h) ⟨_, .base (.tup h), kit_ty (by decide +kernel)⟩
/-- a value is an integer (no bool), or it is none -/
theorem PartV.isI {K : PySem.W.Frag} {H : Hp} {v : V} (h : PartV H v) : (∃ i, v = .int i) ∨ ((∀ i, v ≠ .int i) ∧ IsI K H v false) := by
  rcases h.any (K := K) with h | ⟨s, rfl⟩ | ⟨⟨n, _⟩, h, _⟩
  · exact .inl h
  · exact .inr ⟨fun _ z => (by cases z), isI_str K H s⟩
  · exact .inr ⟨n, h⟩
/-- no part is wrong: these are parts of a loop -/
theorem fault_none {k a c d stop told mend : V} (h : faultV k a c d stop told mend = none) : ∃ L : Parts, L.Ok ∧ [k, a, c, d, stop, told, mend] = L.vs := by
  unfold faultV at h
  cases hk : inW k 2 4 with
  | false => rw [hk] at h; cases h
  | true =>
    obtain ⟨k', rfl, k2, k4⟩ := inW_int hk
    cases ha : inW a 1 5 with
    | false => rw [hk, ha] at h; cases h
    | true =>
      obtain ⟨a', rfl, a1, a5⟩ := inW_int ha
      simp only [intOf_int, hk, ha, cond_true] at h
      cases hc : inW c 1 (mostC k' a') with
      | false => rw [hc] at h; cases h
      | true =>
        obtain ⟨c', rfl, c1, cm⟩ := inW_int hc
        simp only [intOf_int, hc, cond_true] at h
        cases hd : inW d (-a') (a' + c') with
        | false => rw [hd] at h; cases h
        | true =>
          obtain ⟨d', rfl, d0, d1⟩ := inW_int hd
          simp only [hd, cond_true] at h
          cases hs : isWd stop stops with
          | false => rw [hs] at h; cases h
          | true =>
            obtain ⟨st, rfl, hst⟩ := isWd_str hs
            simp only [hs, cond_true, strOf_str] at h
            cases ht : isWd told (tellingsOf st) with
            | false => rw [ht] at h; cases h
            | true =>
              obtain ⟨to, rfl, hto⟩ := isWd_str ht
              simp only [ht, cond_true] at h
              cases hm : isWd mend mendings with
              | false => rw [hm] at h; cases h
              | true =>
                obtain ⟨me, rfl, hme⟩ := isWd_str hm
                have cm' : c' ≤ 6 - a' ∧ c' ≤ a' / (k' - 1) := by
                  unfold mostC at cm
                  split at cm <;> omega
                have ca : c' * (k' - 1) ≤ a' := (Int.le_ediv_iff_mul_le (by omega)).mp cm'.2
                refine ⟨⟨k', a', c', d', st, to, me⟩, ⟨k2, k4, a1, c1, ca, (by show a' + c' ≤ 6; omega), d0, d1, hst, ?_, ?_, hme⟩, rfl⟩
                · show to ∈ tellings
                  unfold tellingsOf at hto
                  split at hto
                  · rw [List.mem_singleton.mp hto]
                    decide
                  · exact hto
                · intro hl
                  show to = "old"
                  unfold tellingsOf at hto
                  rw [if_pos hl] at hto
                  exact List.mem_singleton.mp hto
theorem fault_ok {k a c d stop told mend : V} {w : Str} (h : faultV k a c d stop told mend = some w) : PyData.strOk w = true := by
  have hs : ∀ s ∈ (["k", "a", "c", "d", "stop", "told", "mend"] : List Str), PyData.strOk s = true := by decide +kernel
  refine hs w ?_
  unfold faultV at h
  cases e1 : inW k 2 4 <;> simp only [e1, cond_true, cond_false] at h <;> first | (injection h with h; subst h; simp; done) | skip
  cases e2 : inW a 1 5 <;> simp only [e2, cond_true, cond_false] at h <;> first | (injection h with h; subst h; simp; done) | skip
  cases e3 : inW c 1 (mostC (intOf k) (intOf a)) <;> simp only [e3, cond_true, cond_false] at h <;> first | (injection h with h; subst h; simp; done) | skip
  cases e4 : inW d (-intOf a) (intOf a + intOf c) <;> simp only [e4, cond_true, cond_false] at h <;> first | (injection h with h; subst h; simp; done) | skip
  cases e5 : isWd stop stops <;> simp only [e5, cond_true, cond_false] at h <;> first | (injection h with h; subst h; simp; done) | skip
  cases e6 : isWd told (tellingsOf (strOf stop)) <;> simp only [e6, cond_true, cond_false] at h <;> first | (injection h with h; subst h; simp; done) | skip
  cases e7 : isWd mend mendings <;> simp only [e7, cond_true, cond_false] at h <;> first | (injection h with h; subst h; simp; done) | cases h
theorem avgFV_L (L : Parts) : avgFV (.int L.k) (.int L.a) (.int L.c) (.int L.d) (.str L.stop) (.str L.told) (.str L.mend) = avgF L := rfl
/-- the weights that are possible -/
theorem wts_iff {k a c : Int} (k2 : 2 ≤ k) (k4 : k ≤ 4) (a1 : 1 ≤ a) (a5 : a ≤ 5) : (a, c) ∈ wts k ↔ 1 ≤ c ∧ c ≤ mostC k a := by
  have hk : k = 2 ∨ k = 3 ∨ k = 4 := by omega
  have ha : a = 1 ∨ a = 2 ∨ a = 3 ∨ a = 4 ∨ a = 5 := by omega
  have e2 : wts 2 = [(1, 1), (2, 1), (2, 2), (3, 1), (3, 2), (3, 3), (4, 1), (4, 2), (5, 1)] := by decide
  have e3 : wts 3 = [(2, 1), (3, 1), (4, 1), (4, 2), (5, 1)] := by decide
  have e4 : wts 4 = [(3, 1), (4, 1), (5, 1)] := by decide
  have m : ∀ k a : Int, mostC k a = if 6 - a < a / (k - 1) then 6 - a else a / (k - 1) := fun _ _ => rfl
  rcases hk with rfl | rfl | rfl <;> rcases ha with rfl | rfl | rfl | rfl | rfl <;> (first | rw [e2] | rw [e3] | rw [e4]) <;> (rw [m]; simp only [List.mem_cons, Prod.mk.injEq, List.not_mem_nil, or_false, true_and]; constructor <;> intro h <;> (try split at h) <;> (try split) <;> omega)
def prD (p : Int × Int) : PyData := .tuple [.int p.1, .int p.2]
theorem prs_dp {K : PySem.W.Frag} {H : Hp} : ∀ {vs : List V} {ps : List (Int × Int)}, Prs H vs ps → DpAll K H vs (ps.map prD)
  | _, _, .nil => .nil
  | _, _, .cons ⟨r, e, h⟩ t => by
    subst e
    exact .cons (.tup (SqT.of h) (.cons (.int _) (.cons (.int _) .nil))) (prs_dp t)
theorem prs_lay : ∀ ps : List (Int × Int), PyData.canLayAll0 (ps.map prD) = true ∧ PyData.depthAll (ps.map prD) ≤ 2
  | [] => ⟨rfl, Nat.zero_le _⟩
  | p :: ps => by
    obtain ⟨h1, h2⟩ := prs_lay ps
    refine ⟨?_, ?_⟩
    · show (true && PyData.canLayAll0 (ps.map prD)) = true
      rw [h1] <;> rfl
    · show PyData.depthAll (prD p :: ps.map prD) ≤ 2
      have e : (prD p).depth ≤ 2 := by
        unfold prD
        simp only [PyData.depthAll, PyData.depth]
        omega
      simp only [PyData.depthAll]
      omega
theorem prs_any (ps : List (Int × Int)) (a c : Int) : (ps.map prD).any (fun z => PyData.eqv z (prD (a, c))) = decide ((a, c) ∈ ps) := by
  induction ps with
  | nil => rfl
  | cons p ps ih =>
    rw [List.map_cons, List.any_cons, ih]
    obtain ⟨x, y⟩ := p
    show (((x == a) && ((y == c) && true)) || decide ((a, c) ∈ ps)) = decide ((a, c) ∈ (x, y) :: ps)
    rw [Bool.and_true, Bool.eq_iff_iff]
    simp only [Bool.or_eq_true, Bool.and_eq_true, beq_iff_eq, decide_eq_true_eq, List.mem_cons, Prod.mk.injEq]
    constructor
    · rintro (⟨h1, h2⟩ | h)
      · exact .inl ⟨h1.symm, h2.symm⟩
      · exact .inr h
    · rintro (⟨h1, h2⟩ | h)
      · exact .inl ⟨h1.symm, h2.symm⟩
      · exact .inr h
theorem dpS (K : PySem.W.Frag) (H : Hp) : ∀ l : List Str, DpAll K H (l.map V.str) (l.map PyData.str)
  | [] => .nil
  | x :: l => .cons (.str x) (dpS K H l)
theorem isWd_less {v : V} {st : Str} (h : isWd v tellings = false) : isWd v (tellingsOf st) = false := by
  cases v <;> first | rfl | skip
  rename_i s
  have h1 : s ∉ tellings := of_decide_eq_false h
  refine decide_eq_false fun h2 => h1 ?_
  unfold tellingsOf at h2
  split at h2
  · rw [List.mem_singleton.mp h2]
    decide
  · exact h2
/-- _law_fault: the first part that is not so -/
def spFault : Sp := fun vs H Q _ => ∃ (p : Addr) (k a c d stop told mend : V), vs = [.ref p] ∧ H p = some (.tup [k, a, c, d, stop, told, mend]) ∧ (∀ v ∈ [k, a, c, d, stop, told, mend], PartV H v) ∧
  ∀ H' : Hp, Same H H' → Q (tellV (faultV k a c d stop told mend)) H'
/-- _law_spoilt: one of the parts is another one -/
def spSpoilt : Sp := fun vs H Q _ => ∃ (st p : Addr) (n : Nat) (ps : List V), vs = [.ref st, .ref p] ∧ StrAt H st n ∧ n ≤ 90000 ∧ H p = some (.tup ps) ∧ ps.length = 7 ∧ (∀ v ∈ ps, PartV H v) ∧
  ∀ (t : Addr) (qs : List V) (H' : Hp), SameBut st H H' → StrAt H' st (n + 2) → H' t = some (.tup qs) → qs.length = 7 → (∀ v ∈ qs, PartV H' v) → Q (.ref t) H'
/-- _law_loop of any seven parts -/
def spLoopX (C CB : Addr) : Sp := fun vs H Q E => ∃ (p : Addr) (k a c d stop told mend : V), vs = [.ref p] ∧ H p = some (.tup [k, a, c, d, stop, told, mend]) ∧ (∀ v ∈ [k, a, c, d, stop, told, mend], PartV H v) ∧
  (faultV k a c d stop told mend = none → ∀ (x dx : Addr) (H' : Hp), H x = none → H' x = some (.ins C dx (avgFV k a c d stop told mend)) → Same H H' → Q (.ref x) H') ∧
  ∀ w, faultV k a c d stop told mend = some w → ∀ (H' : Hp) (dd : Addr), Same H H' → H' dd = some (.xd [("word", .str w)]) → E (.ref CB) (some dd) H'
/-- _law_made: the parts again, or the word -/
def spMade : Sp := fun vs H Q _ => ∃ (p : Addr) (k a c d stop told mend : V), vs = [.ref p] ∧ H p = some (.tup [k, a, c, d, stop, told, mend]) ∧ (∀ v ∈ [k, a, c, d, stop, told, mend], PartV H v) ∧
  (faultV k a c d stop told mend = none → ∀ (t : Addr) (H' : Hp), Same H H' → H' t = some (.tup [k, a, c, d, stop, told, mend]) → Q (.ref t) H') ∧
  ∀ w, faultV k a c d stop told mend = some w → ∀ H' : Hp, Same H H' → Q (.str w) H'
theorem avgFV_k (k a c d stop told mend : V) : (avgFV k a c d stop told mend).lookup ("k" : Str) = some k := by
  unfold avgFV
  rw [lookup_putF, if_neg (by decide +kernel), lookup_putF, if_neg (by decide +kernel), lookup_putF, if_neg (by decide +kernel), lookup_putF, if_neg (by decide +kernel), lookup_putF, if_neg (by decide +kernel), lookup_putF, if_neg (by decide +kernel), lookup_putF, if_pos rfl]
theorem avgFV_a (k a c d stop told mend : V) : (avgFV k a c d stop told mend).lookup ("a" : Str) = some a := by
  unfold avgFV
  rw [lookup_putF, if_neg (by decide +kernel), lookup_putF, if_neg (by decide +kernel), lookup_putF, if_neg (by decide +kernel), lookup_putF, if_neg (by decide +kernel), lookup_putF, if_neg (by decide +kernel), lookup_putF, if_pos rfl]
theorem avgFV_c (k a c d stop told mend : V) : (avgFV k a c d stop told mend).lookup ("c" : Str) = some c := by
  unfold avgFV
  rw [lookup_putF, if_neg (by decide +kernel), lookup_putF, if_neg (by decide +kernel), lookup_putF, if_neg (by decide +kernel), lookup_putF, if_neg (by decide +kernel), lookup_putF, if_pos rfl]
theorem avgFV_d (k a c d stop told mend : V) : (avgFV k a c d stop told mend).lookup ("d" : Str) = some d := by
  unfold avgFV
  rw [lookup_putF, if_neg (by decide +kernel), lookup_putF, if_neg (by decide +kernel), lookup_putF, if_neg (by decide +kernel), lookup_putF, if_pos rfl]
theorem avgFV_stop (k a c d stop told mend : V) : (avgFV k a c d stop told mend).lookup ("stop" : Str) = some stop := by
  unfold avgFV
  rw [lookup_putF, if_neg (by decide +kernel), lookup_putF, if_neg (by decide +kernel), lookup_putF, if_pos rfl]
theorem avgFV_told (k a c d stop told mend : V) : (avgFV k a c d stop told mend).lookup ("told" : Str) = some told := by
  unfold avgFV
  rw [lookup_putF, if_neg (by decide +kernel), lookup_putF, if_pos rfl]
theorem avgFV_mend (k a c d stop told mend : V) : (avgFV k a c d stop told mend).lookup ("mend" : Str) = some mend := by
  unfold avgFV
  rw [lookup_putF, if_pos rfl]
/-! ### slices and sums of tuples, whichever object they hand back -/
theorem sl_to {xs : List V} {k : Nat} (hk : k ≤ xs.length) : cutV xs none (some (k : Int)) = xs.take k := by
  unfold cutV
  rw [HT.sIx_nat]
  show (xs.drop 0).take (min k xs.length - 0) = _
  rw [List.drop_zero, Nat.sub_zero, Nat.min_eq_left hk]
theorem sl_from {xs : List V} {k : Nat} (hk : k ≤ xs.length) : cutV xs (some (k : Int)) none = xs.drop k := by
  unfold cutV
  rw [HT.sIx_nat]
  show (xs.drop (min k xs.length)).take (xs.length - min k xs.length) = _
  rw [Nat.min_eq_left hk]
  exact List.take_of_length_le (by rw [List.length_drop]; omega)
theorem rslA_to {K : PySem.W.Frag} {H : Hp} {a : Addr} {xs : List V} {k : Nat} {Q : VK} (ha : H a = some (.tup xs)) (hk : k < xs.length) (q : ∀ (c : Addr) (H' : Hp), Same H H' → H' c = some (.tup (xs.take k)) → Q (.ref c) H') : rSlA K (.ref a) none (some (k : Int)) H Q := by
  refine ⟨a, xs, rfl, SqT.of ha, fun h => ?_, fun _ p np => q p _ (same_new np _) ?_⟩
  · have h2 := h.2
    rw [HT.sIx_nat, Nat.min_eq_left (Nat.le_of_lt hk)] at h2
    omega
  · rw [upd_same, sl_to (Nat.le_of_lt hk)]
theorem rslA_from {K : PySem.W.Frag} {H : Hp} {a : Addr} {xs : List V} {k : Nat} {Q : VK} (ha : H a = some (.tup xs)) (h0 : 0 < k) (hk : k ≤ xs.length) (q : ∀ (c : Addr) (H' : Hp), Same H H' → H' c = some (.tup (xs.drop k)) → Q (.ref c) H') : rSlA K (.ref a) (some (k : Int)) none H Q := by
  refine ⟨a, xs, rfl, SqT.of ha, fun h => ?_, fun _ p np => q p _ (same_new np _) ?_⟩
  · have h1 := h.1
    rw [HT.sIx_nat, Nat.min_eq_left hk] at h1
    omega
  · rw [upd_same, sl_from hk]
theorem cat_any {K : PySem.W.Frag} {H : Hp} {a b : Addr} {xs ys : List V} {Q : VK} (ha : H a = some (.tup xs)) (hb : H b = some (.tup ys)) (hz : xs.length + ys.length ≤ 1000) (q : ∀ (c : Addr) (H' : Hp), Same H H' → H' c = some (.tup (xs ++ ys)) → Q (.ref c) H') : rCatA K (.ref a) (.ref b) H Q := by
  refine ⟨a, b, xs, ys, rfl, rfl, SqT.of ha, SqT.of hb, small _ hz, fun e => ?_, fun _ e => ?_, fun _ _ p np => q p _ (same_new np _) upd_same⟩
  · refine q b H (Same.refl H) ?_
    rw [hb, e, List.nil_append]
  · refine q a H (Same.refl H) ?_
    rw [ha, e, List.append_nil]
/-- the values that may stand in a part's place -/
def someV (t l : Addr) : List V := [.non, .bl true, .str "old", .str "none", .str "equal", .str "near", .int 0, .int 1, .int 2, .int 3, .int 5, .int 6, .int (-1), .int 7, .ref t, .ref l, .str "", .bl false, .int (-6), .str "new", .str "held", .str "less", .str "under", .str "both", .int 4]
theorem someV_part {H : Hp} {t l : Addr} (ht : H t = some (.tup [.int 2])) (hl : H l = some (.lst [.int 1])) : ∀ v ∈ someV t l, PartV H v := by
  intro v hv
  unfold someV at hv
  simp only [List.mem_cons, List.not_mem_nil, or_false] at hv
  have hs : ∀ s ∈ (["old", "none", "equal", "near", "", "new", "held", "less", "under", "both"] : List Str), PyData.strOk s = true := by decide +kernel
  rcases hv with rfl | rfl | rfl | rfl | rfl | rfl | rfl | rfl | rfl | rfl | rfl | rfl | rfl | rfl | rfl | rfl | rfl | rfl | rfl | rfl | rfl | rfl | rfl | rfl | rfl <;>
    first | exact .inl ⟨_, rfl⟩ | exact .inr (.inr (.inr (.inl rfl))) | exact .inr (.inr (.inl ⟨_, rfl⟩)) | exact .inr (.inl ⟨_, rfl, hs _ (by simp)⟩) | exact .inr (.inr (.inr (.inr (.inr ⟨_, [2], rfl, ht⟩)))) | exact .inr (.inr (.inr (.inr (.inl ⟨_, [1], rfl, by decide, hl⟩))))
/-- some parameters by their defaults, which stand in the tuple at T -/
theorem binds_dflt {K : PySem.W.Frag} {fd : FuncData} {ps : List Str} {ds : List Value} {T : Addr} {o : Obj} {its : Array Value} {m : Nat} (n : Nat) (hn : n + ds.length = ps.length) (lT : K.lookup T = some o) (oT : o.data = .seq its m)
    (h : ∀ us : List Value, us.length = n → ∃ k, bindArgs fd ⟨us, []⟩ = seqItems? (.ref T) >>= k ∧ k (some its) = pure (ps.zip (us ++ ds))) : Binds K fd ps ds := fun s us X hl => by
  obtain ⟨k, e1, e2⟩ := h us (by rw [List.length_append] at hl; omega)
  refine BindsTo.of_looks fun M => ?_
  rw [e1]
  exact looks_items X lT oT (.of_pure e2)
/-! ### == of loops -/
def Parts.eqB (L M : Parts) : Bool := (L.k == M.k) && ((L.a == M.a) && ((L.c == M.c) && ((L.d == M.d) && ((L.stop == M.stop) && ((L.told == M.told) && (L.mend == M.mend))))))
theorem eqB_refl (L : Parts) : L.eqB L = true := by
  unfold Parts.eqB
  simp
def Parts.ds (L : Parts) : List PyData := [.int L.k, .int L.a, .int L.c, .int L.d, .str L.stop, .str L.told, .str L.mend]
theorem eqB_eqv (L M : Parts) : PyData.eqv (.tuple L.ds) (.tuple M.ds) = L.eqB M := by
  show ((L.k == M.k) && ((L.a == M.a) && ((L.c == M.c) && ((L.d == M.d) && ((L.stop == M.stop) && ((L.told == M.told) && ((L.mend == M.mend) && true))))))) = _
  rw [Bool.and_true] <;> rfl
theorem Parts.dp {K : PySem.W.Frag} {H : Hp} {p : Addr} {L : Parts} (h : H p = some (.tup L.vs)) : Dp K H (.ref p) (.tuple L.ds) :=
  .tup (SqT.of h) (.cons (.int _) (.cons (.int _) (.cons (.int _) (.cons (.int _) (.cons (.str _) (.cons (.str _) (.cons (.str _) .nil)))))))
theorem Parts.Ok.part {L : Parts} (ok : L.Ok) {H : Hp} : ∀ v ∈ L.vs, PartV H v := by
  have w1 : ∀ s ∈ stops, PyData.strOk s = true := by decide +kernel
  have w2 : ∀ s ∈ tellings, PyData.strOk s = true := by decide +kernel
  have w3 : ∀ s ∈ mendings, PyData.strOk s = true := by decide +kernel
  intro v hv
  unfold Parts.vs at hv
  simp only [List.mem_cons, List.not_mem_nil, or_false] at hv
  rcases hv with rfl | rfl | rfl | rfl | rfl | rfl | rfl
  · exact .inl ⟨_, rfl⟩
  · exact .inl ⟨_, rfl⟩
  · exact .inl ⟨_, rfl⟩
  · exact .inl ⟨_, rfl⟩
  · exact .inr (.inl ⟨_, rfl, w1 _ ok.st⟩)
  · exact .inr (.inl ⟨_, rfl, w2 _ ok.te⟩)
  · exact .inr (.inl ⟨_, rfl, w3 _ ok.me⟩)
theorem Parts.Ok.shaped {L : Parts} (ok : L.Ok) : SeqAt.shaped (.tuple L.ds) = true := by
  have w1 : ∀ s ∈ stops, PyData.strOk s = true := by decide +kernel
  have w2 : ∀ s ∈ tellings, PyData.strOk s = true := by decide +kernel
  have w3 : ∀ s ∈ mendings, PyData.strOk s = true := by decide +kernel
  refine shaped_of ?_ ?_
  · show (true && (true && (true && (true && (PyData.strOk L.stop && (PyData.strOk L.told && (PyData.strOk L.mend && true))))))) = true
    rw [w1 _ ok.st, w2 _ ok.te, w3 _ ok.me] <;> rfl
  · unfold Parts.ds
    simp only [PyData.depth, PyData.depthAll]
    omega
/-- loop == anything -/
def spAvgEq (K : PySem.W.Frag) (C : Addr) : Sp := fun vs H Q _ => ∃ (a : Addr) (L : Parts) (y : V), vs = [.ref a, y] ∧ AvgAt C H a L ∧
  ((∃ (b : Addr) (M : Parts), y = .ref b ∧ AvgAt C H b M ∧ Q (.bl (L.eqB M)) H) ∨ (∃ t, TyX K H y t ∧ PySem.W.kitOne K t (.ref C) = some false ∧ Q (.bl false) H))
end Q

set_option Elab.async false
set_option linter.all false
set_option maxRecDepth 100000
set_option maxHeartbeats 4000000
/-! enumerate over a tuple -/
namespace PySem
namespace QEnum
section
variable {prog : Program} {w : World} {A : Around} {E : Value → Shared → Prop} {s : Shared}
/-- one turn of a tuple's iterator: the item, or the end -/
theorem next_tup {it t : Addr} {i : Nat} {items : Array Value} {Q : Value → Shared → Prop} (calm : A.handled = none) (at_ : s.heap.IsTupleIter it t i) (tup : s.heap.IsTuple t items)
    (go : ∀ x h', items[i]? = some x → h'.IsTupleIter it t (i + 1) → Heap.SameBut it s.heap h' → Q x { s with heap := h' })
    (stop : items[i]? = none → ∀ h' e, Heap.ExtBut it s.heap h' → (∃ o, h'.get? e = some o ∧ o.cls = .type "StopIteration") → E (.ref e) { s with heap := h' }) :
    wpAny (model prog w) A (Builtin.SmallTypes.nextOf (.ref it)) Q E s := by
  obtain ⟨oi, gi, ci, di⟩ := id at_
  obtain ⟨ot, gt, _, k, dt⟩ := tup
  unfold Builtin.SmallTypes.nextOf
  refine wpAny_bind (wpAny_callSpecial?_slot (name := Str.ofString "__next__") at_.typeIs F.slot_tuple_iterator_next (wpAny_call_entry F.slot_tuple_iterator_next at_.typeIs F.entry_tuple_iterator_next ?_ (F.args_tuple_iterator_next_1 _)))
  have some_ : ¬ ((Value.ref t == Value.none) = true) := Bool.false_ne_true
  show wpAny _ _ (field (.ref it) 0 >>= _) _ _ s
  refine wpAny_bind (wpAny_field gi di (x := .ref t) rfl ?_)
  show wpAny _ _ (if (Value.ref t == Value.none) = true then _ else _) _ _ s
  rw [if_neg some_]
  show wpAny _ _ (field (.ref it) 1 >>= _) _ _ s
  refine wpAny_bind (wpAny_field gi di (x := .int i 0) rfl ?_)
  show wpAny _ _ (seqItems? (.ref t) >>= _) _ _ s
  refine wpAny_bind (wpAny_seqItems gt dt ?_)
  cases e : items[i]? with
  | some x =>
    simp only [Int.toNat_natCast, e]
    refine wpAny_bind (wpAny_setField gi di (by simp) (wpAny_pure ⟨x, rfl, wpAny_pure (go x _ e ⟨_, Heap.get?_update_self _ gi (Obj.isFreed_of_fields (Obj.data_mapFields di _)), (Obj.cls_mapFields ..).trans ci, ?_⟩ (Heap.SameBut.update ..))⟩))
    rw [Obj.data_mapFields di]
    simp [rawInt]
  | none =>
    simp only [Int.toNat_natCast, e]
    refine wpAny_bind (wpAny_rule (wpAny_bind (wpAny_setField gi di (by simp) ?_)))
    show wpAny _ _ (newExc (.type "StopIteration") [] >>= _) _ _ _
    refine wpAny_bind ?_
    simp only [newExc, newTuple]
    refine wpAny_bind (wpAny_newObj_type ?_ (by size_fits))
    refine wpAny_bind (m := firstArgMember _ _) (wpAny_of_eq (a := Value.none) (by first | rfl | (simp only [firstArgMember]; rfl)) ?_)
    refine wpAny_newObj_type ?_ (by size_fits)
    simp only [raiseNew]
    refine wpAny_bind (wpAny_handled ?_)
    first | rw [show A.in1.handled = none from calm] | rw [calm]
    exact wpAny_bind (wpAny_pure (wpAny_throw (stop e _ _ (((Heap.SameBut.update ..).extBut.push _).push _) ⟨_, Heap.get?_push_size _ rfl, rfl⟩)))
end
theorem draws_tup {prog : Program} {w : World} {A : Around} (calm : A.handled = none) (it t : Addr) (hne : t ≠ it) (items : Array Value) :
    Draws prog w A it [it, t] items.size (fun i v => items[i]? = some v) (fun i h => h.IsTupleIter it t i ∧ h.IsTuple t items) where
  live := fun _ _ st => by
    obtain ⟨⟨o, ho, _⟩, _⟩ := st
    exact ⟨o, ho⟩
  frame := fun _ _ _ st hk => ⟨st.1.at fun o e => hk it (by simp) o e, st.2.at fun o e => hk t (by simp) o e⟩
  item := fun i s Q E hi st hQ => next_tup calm st.1 st.2 (fun x h' e at' same => hQ x h' s.toks e ⟨at', st.2.extBut same.extBut hne⟩ same) (fun e => by simp [hi] at e)
  done := fun s Q E st hE => next_tup calm st.1 st.2 (fun x h' e => by simp at e) (fun _ => hE)
open Sem (wp)
open AutoSeq1 (wpAny_loadPart')
abbrev tIt (t : Addr) : Obj := { cls := .type "tuple_iterator", data := .fields #[.ref t, .int 0 0] }
abbrev eIt (it : Addr) : Obj := { cls := .type "enumerate", data := .fields #[.none, .bool false, .ref it, rawInt 0, .none, .none] }
theorem meets_new (t : Addr) (items : Array Value) (n : Nat) (dct : Option Addr) (sl : Array (Option Value)) :
    Meets (Builtin.«enumerate.__new__» ⟨[.type "enumerate", .ref t], []⟩) (fun _ R s => s.heap.get? t = some { cls := .type "tuple", dict := dct, data := .seq items n, slots := sl } ∧
      R (.ok (.ret (.ref (s.heap.push (tIt t)).objs.size))) { s with heap := (s.heap.push (tIt t)).push (eIt s.heap.objs.size) }) :=
  .of_wp fun prog w A R s h => by
    obtain ⟨hp, g, d, tk, os⟩ := s
    obtain ⟨at_, h⟩ := h
    have sub := sub_enumerate
    have tup : Heap.IsTuple (Shared.heap ⟨hp, g, d, tk, os⟩) t items := ⟨_, at_, rfl, n, rfl⟩
    wp_walk using wpAny_loadPart' at_
    refine wpAny_stack_any fun st => wpAny_pure ?_
    split
    · rename_i c _ _ _ _ _
      cases (c == Value.type "enumerate")
      all_goals
        wp_walk using wpAny_loadPart' at_, wpAny_pyIter_tuple tup
        exact ⟨_, rfl, h⟩
    · wp_walk using wpAny_loadPart' at_, wpAny_pyIter_tuple tup
      exact ⟨_, rfl, h⟩
section
variable {prog : Program} {w : World} {A : Around} {E : Value → Shared → Prop} {s : Shared}
theorem call_tup {t : Addr} {items : Array Value} {Q : Value → Shared → Prop} (tup : s.heap.IsTuple t items)
    (h : ∀ h', IsEnum h' (s.heap.objs.size + 1) s.heap.objs.size 0 .none → h'.IsTupleIter s.heap.objs.size t 0 → h'.objs.size = s.heap.objs.size + 2 →
      (∀ b o, s.heap.get? b = some o → h'.get? b = some o) → Q (.ref (s.heap.objs.size + 1)) { s with heap := h' }) :
    wpAny (model prog w) A (call (.type "enumerate") [.ref t]) Q E s := by
  obtain ⟨⟨c, dct, dt, sl⟩, at_, ec, n, ed⟩ := tup
  obtain rfl : c = .type "tuple" := ec
  obtain rfl : dt = .seq items n := ed
  refine callType_new F.called_enumerate (by decide) (F.typeCall_enumerate_1 _) (F.newCall_enumerate_1 _) (fun obj => F.args_object_init_2 obj _) F.entry_enumerate_new (meets_new t items n dct sl) ⟨at_, ?_⟩
  have z1 : (s.heap.push (tIt t)).objs.size = s.heap.objs.size + 1 := Heap.size_push ..
  have top : IsEnum ((s.heap.push (tIt t)).push (eIt s.heap.objs.size)) (s.heap.objs.size + 1) s.heap.objs.size 0 .none := by
    have y := Heap.get?_push_size (s.heap.push (tIt t)) (o := eIt s.heap.objs.size) rfl
    rw [z1] at y
    exact y
  show _ ∧ _
  rw [z1]
  exact ⟨⟨_, top, rfl⟩, h _ top ⟨_, Heap.get?_push_of_some _ (Heap.get?_push_size _ rfl), rfl, rfl⟩ (by rw [Heap.size_push, z1]) fun b o y => Heap.get?_push_of_some _ (Heap.get?_push_of_some _ y)⟩
end
end QEnum
end PySem
namespace L2
open PySem PySem.Spec PyProof.Rows
/-- the tuple at a, each item in a new pair -/
def IteT (K : PySem.W.Frag) (a : Addr) : It :=
  ⟨fun i H => ∃ (xs : List V) (x : V), SqT K H a xs ∧ xs[i]? = some x, fun i H v H' => ∃ T x, v = .ref T ∧ H T = none ∧ H' = upd H T (.tup [.int (i : Nat), x]) ∧ ∀ xs, SqT K H a xs → xs[i]? = some x, fun i H => ∃ xs : List V, SqT K H a xs ∧ xs.length ≤ i⟩
theorem turn_enumT {P : Program} {w : World} {K : PySem.W.Frag} {elts : List Expr} {kk : Nat} {tpos : Pos} (a e it : Addr) :
    Turn P w K (.Tuple elts kk tpos) (IteT K a) [e, it] e (fun i h => (∃ old, IsEnum h e it ((i : Nat) : Int) old) ∧ h.IsTupleIter it a i ∧ e ≠ it ∧ a ≠ it ∧ e ≠ a) where
  mem := by simp
  obj := fun i h st b hb => by
    obtain ⟨⟨old, he⟩, ⟨o, ho, _, hd⟩, _⟩ := st
    rcases (show b = e ∨ b = it by simpa using hb) with rfl | rfl
    · exact ⟨_, he, fun v q => nomatch q⟩
    · exact ⟨o, ho, fun v q => by rw [hd] at q; cases q⟩
  keep := fun i h h' st k => by
    obtain ⟨⟨old, he⟩, hi, r⟩ := st
    exact ⟨⟨old, k e (by simp) _ he⟩, hi.at fun o q => k it (by simp) o q, r⟩
  item := by
    intro X hP hw hK hc i pins s σ H E I free st ready
    subst hP hw hK
    obtain ⟨⟨old, he⟩, hit, hne, hai, hea⟩ := st
    obtain ⟨xs, x, hq, hx⟩ := ready
    obtain ⟨its, rv, p, hz⟩ := I.tuple hq
    obtain ⟨u, hu, ru⟩ := rv.get hx
    have low : ∀ b, b ∈ [e, it] → b < s.heap.objs.size := fun b hb => by
      obtain ⟨o, ho, _, _⟩ := id hit
      rcases (show b = e ∨ b = it by simpa using hb) with rfl | rfl
      · exact Heap.lt_size he
      · exact Heap.lt_size ho
    have tp : s.heap.IsTuple a its.toArray := p
    have hlt : i < its.toArray.size := by
      have := (List.getElem?_eq_some_iff.mp hu).1
      simpa using this
    refine wpAny_pyNext_enum_itemD (QEnum.draws_tup (A := X.A.in1) (I.ok.hd hc) it a hai its.toArray) he ⟨hit, tp⟩ hlt hne (by simp [hne, hea]) fun y h' tk hy ho hit' hT hsz hk => ?_
    have ey : y = u := by
      have h1 : its.toArray[i]? = some u := by simpa using hu
      exact Option.some.inj (hy.symm.trans h1)
    subst ey
    refine ⟨_, rfl, wpAny_letOwnedTupleGo_enum (s := { s with heap := h', toks := tk + 1 }) ho fun h2 he2 sb => ?_⟩
    have le : e < s.heap.objs.size := low e (by simp)
    have hT2 : h2.get? s.heap.objs.size = some { cls := .type "tuple", data := .seq #[.int i tk, y] } := (sb.2 _ (Nat.ne_of_gt le)).trans hT
    have fresh := I.hok.fresh (Nat.le_refl s.heap.objs.size)
    have new : ObjOk X.prog X.w (upd H s.heap.objs.size (.tup [.int (i : Nat), x])) h2 s.heap.objs.size (.tup [.int (i : Nat), x]) :=
      ⟨by show 2 ≤ sizeLine; decide, [.int i tk, y], .cons ⟨_, rfl⟩ (.cons ru .nil), ⟨_, hT2, rfl, _, rfl⟩⟩
    have I1 : Inv X pins σ (upd H s.heap.objs.size (.tup [.int (i : Nat), x])) { s with heap := h2, toks := tk + 1 } :=
      I.turnedNew (ch := [e, it]) (fun b ob hb q => (sb.2 b (fun z => hb (by simp [z]))).trans (hk b ob (fun z => hb (by simp [z])) (fun z => hb (by simp [z])) q)) free (Nat.le_refl _) new
    refine ⟨.ref s.heap.objs.size, _, I1, rfl, ⟨_, x, rfl, fresh, rfl, fun ys hy => by rw [I.tuple_inj hy hq]; exact hx⟩, ⟨⟨y, ?_⟩, hit'.1.at fun o q => (sb.2 it (Ne.symm hne)).trans q, hne, hai, hea⟩, fun b hb => ?_⟩
    · rw [show ((i + 1 : Nat) : Int) = (i : Int) + 1 by omega]
      exact he2
    · rw [upd_ne (Nat.ne_of_lt (low b hb))]
      exact (free b hb).1
  done := by
    intro X hP hw hK hc i pins s σ H E I free st over
    subst hP hw hK
    obtain ⟨⟨old, he⟩, hit, hne, hai, hea⟩ := st
    obtain ⟨xs, hq, hx⟩ := over
    obtain ⟨its, rv, p, hz⟩ := I.tuple hq
    obtain ⟨f0, f1, f2, f3, f4, f5⟩ := free it (by simp)
    have tp : s.heap.IsTuple a its.toArray := p
    have hl := rv.length
    have over2 : its.toArray[i]? = none := by simp; omega
    have D : Draws X.prog X.w X.A.in1 it [it, a] i (fun _ _ => False) (fun j h => h.IsTupleIter it a i ∧ h.IsTuple a its.toArray ∧ j = i) := {
      live := fun _ _ z => by
        obtain ⟨⟨o, ho, _⟩, _⟩ := z
        exact ⟨o, ho⟩
      frame := fun _ _ _ z k => ⟨z.1.at fun o e => k it (by simp) o e, z.2.1.at fun o e => k a (by simp) o e, z.2.2⟩
      item := fun j s Q E hj z _ => absurd z.2.2 (Nat.ne_of_lt hj)
      done := fun s Q E z hE => QEnum.next_tup (I.ok.hd hc) z.1 z.2.1 (fun x h' e => by rw [over2] at e; cases e) (fun _ => hE) }
    exact wpAny_pyNext_enum_endD D he ⟨hit, tp, rfl⟩ fun h' eb => ⟨rfl, I.turned (t' := s.toks) (fun b o hb q => eb b o hb q) f0 f1 f3 f4 f5⟩
  self := fun A i s Q E st h => by
    obtain ⟨⟨_, he⟩, _⟩ := st
    exact wpAny_pyIter_enum he h
def iEnumA (K : PySem.W.Frag) (ta : TA) : TI := fun σ H R => ta σ H fun vs H1 => ∃ a xs, vs = [.ref a] ∧ ((SqL K H1 a xs ∧ R (Ite K a) H1) ∨ (SqT K H1 a xs ∧ R (IteT K a) H1))
theorem pi_enumA {X : Cx} {e : Expr} {ta : TA} {p pos tpos : Pos} {elts : List Expr} {kk : Nat} (hg : Gl X "enumerate") (hm : X.mg "enumerate" = none) (ha : PA X [e] ta) (hs : starEach [e] X.env = [(false, eval e X.env)] := by rfl) :
    PI X (.Tuple elts kk tpos) (.Call (.Name "enumerate" p) [e] [] pos) (iEnumA X.K ta) := by
  constructor
  intro pins s σ H R I hyp
  refine Call_ (ld_blt I hg hm boot_enumerate (PyProof.Rows.callWith_type1 (thn (ha.run pos pins s σ H _ I hyp) fun us s1 behind => ?_) hs rfl))
  obtain ⟨vs, H1, I1, rs, a, xs, rfl, q⟩ := behind
  cases rs with
  | cons r rr =>
    cases rr
    cases r
    have two : ∀ b, b ∈ [s1.heap.objs.size + 1, s1.heap.objs.size] → s1.heap.objs.size ≤ b := fun b hb => by
      rcases (show b = s1.heap.objs.size + 1 ∨ b = s1.heap.objs.size by simpa using hb) with rfl | rfl
      · exact Nat.le_add_right _ _
      · exact Nat.le_refl _
    have apart : ∀ b ∈ [s1.heap.objs.size + 1, s1.heap.objs.size], FpOk X pins H1 b := fun b hb => I1.fpOk (two b hb) (I1.hok.fresh (two b hb))
    rcases q with ⟨hq, q⟩ | ⟨hq, q⟩
    · obtain ⟨its, rv, p', hz⟩ := I1.list hq
      refine call_enumerate_list p'.isList fun h' he hit hsz hk => wpAny_pyIter_enum he ?_
      exact ⟨s1.heap.objs.size + 1, [s1.heap.objs.size + 1, s1.heap.objs.size], _, _, H1, rfl, I1.kept (t' := s1.toks) hk, turn_enum a (s1.heap.objs.size + 1) s1.heap.objs.size, ⟨⟨.none, he⟩, hit, Nat.succ_ne_self _⟩, apart, q⟩
    · obtain ⟨its, rv, p', hz⟩ := I1.tuple hq
      have tp : s1.heap.IsTuple a its.toArray := p'
      have la : a < s1.heap.objs.size := by
        obtain ⟨o, ho, _⟩ := tp
        exact Heap.lt_size ho
      refine QEnum.call_tup tp fun h' he hit hsz hk => wpAny_pyIter_enum he ?_
      exact ⟨s1.heap.objs.size + 1, [s1.heap.objs.size + 1, s1.heap.objs.size], _, _, H1, rfl, I1.kept (t' := s1.toks) hk, turn_enumT a (s1.heap.objs.size + 1) s1.heap.objs.size, ⟨⟨.none, he⟩, hit, Nat.succ_ne_self _, Nat.ne_of_lt la, Nat.ne_of_gt (Nat.lt_succ_of_lt la)⟩, apart, q⟩
end L2

set_option Elab.async false
set_option linter.all false
set_option maxRecDepth 100000
set_option maxHeartbeats 4000000
namespace Q
open PySem PySem.Spec PyProof.Rows L2
/-! ### one part of a loop changed -/
def fields : List Str := ["a", "c", "d", "stop", "told", "mend"]
def faultL : List V → Option Str
  | [k, a, c, d, s, t, m] => faultV k a c d s t m
  | _ => none
def avgFL : List V → List (Str × V)
  | [k, a, c, d, s, t, m] => avgFV k a c d s t m
  | _ => []
def spReqField (K : PySem.W.Frag) (CF : Addr) : Sp := fun vs H Q E => ∃ x : V, vs = [x] ∧
  ((∃ s, x = .str s ∧ s ∈ fields ∧ Q .non H) ∨ (AnyV K H x ∧ isWd x fields = false ∧ ∀ d, H d = none → E (.ref CF) (some d) (upd H d (.xd [("field", x)]))))
/-- changed: the loop, BadField, or BadLoop -/
def spChanged (K : PySem.W.Frag) (C CF CB : Addr) : Sp := fun vs H Q E => ∃ (p : Addr) (L : Parts) (fv v : V), vs = [.ref p, fv, v] ∧ AvgAt C H p L ∧ L.Ok ∧
  ((∃ (i : Nat) (s : Str), fv = .str s ∧ fields[i]? = some s ∧ PartV H v ∧
      (faultL (L.vs.set (i + 1) v) = none → ∀ (x dx : Addr) (H' : Hp), H x = none → H' x = some (.ins C dx (avgFL (L.vs.set (i + 1) v))) → Same H H' → Q (.ref x) H') ∧
      ∀ w, faultL (L.vs.set (i + 1) v) = some w → ∀ (H' : Hp) (dd : Addr), Same H H' → H' dd = some (.xd [("word", .str w)]) → E (.ref CB) (some dd) H') ∨
    (AnyV K H fv ∧ isWd fv fields = false ∧ ∀ d, H d = none → E (.ref CF) (some d) (upd H d (.xd [("field", fv)]))))
/-- _law_tried -/
def spTried (K : PySem.W.Frag) (C : Addr) : Sp := fun vs H Q _ => ∃ (p : Addr) (L : Parts) (fv v : V), vs = [.ref p, fv, v] ∧ AvgAt C H p L ∧ L.Ok ∧
  ((∃ (i : Nat) (s : Str), fv = .str s ∧ fields[i]? = some s ∧ PartV H v ∧
      (faultL (L.vs.set (i + 1) v) = none → ∀ (t x dx : Addr) (H' : Hp), Same H H' → H' x = some (.ins C dx (avgFL (L.vs.set (i + 1) v))) → H' t = some (.tup [.str "loop", .ref x]) → Q (.ref t) H') ∧
      ∀ w, faultL (L.vs.set (i + 1) v) = some w → ∀ (t : Addr) (H' : Hp), Same H H' → H' t = some (.tup [.str "part", .str w]) → Q (.ref t) H') ∨
    (AnyV K H fv ∧ isWd fv fields = false ∧ ∀ (t : Addr) (H' : Hp), Same H H' → H' t = some (.tup [.str "field", fv]) → Q (.ref t) H'))
/-- _law_refused_part -/
def spRefPart : Sp := fun vs H Q _ => ∃ (p : Addr) (k a c d stop told mend : V), vs = [.ref p] ∧ H p = some (.tup [k, a, c, d, stop, told, mend]) ∧ (∀ v ∈ [k, a, c, d, stop, told, mend], PartV H v) ∧
  ∀ H' : Hp, Same H H' → Q (tellV (faultV k a c d stop told mend)) H'
theorem due_eq (L : Parts) (v : V) {i : Nat} (h : i < 6) : L.vs.take (i + 1) ++ [v] ++ L.vs.drop (i + 2) = L.vs.set (i + 1) v := by
  have : i = 0 ∨ i = 1 ∨ i = 2 ∨ i = 3 ∨ i = 4 ∨ i = 5 := by omega
  rcases this with rfl | rfl | rfl | rfl | rfl | rfl <;> rfl
theorem set7 (L : Parts) (v : V) {i : Nat} (h : i < 6) : ∃ k a c d s t m : V, L.vs.set (i + 1) v = [k, a, c, d, s, t, m] := by
  have : i = 0 ∨ i = 1 ∨ i = 2 ∨ i = 3 ∨ i = 4 ∨ i = 5 := by omega
  rcases this with rfl | rfl | rfl | rfl | rfl | rfl <;> exact ⟨_, _, _, _, _, _, _, rfl⟩
theorem fields_ix {i : Nat} {s : Str} (h : fields[i]? = some s) : i < 6 := (List.getElem?_eq_some_iff.mp h).1
theorem fields_mem {i : Nat} {s : Str} (h : fields[i]? = some s) : s ∈ fields := List.mem_of_getElem? h
/-- the values that are tried -/
def someW (t : Addr) : List V := ((List.range 14).map fun i => V.int (-6 + (i : Nat))) ++ [.str "notless", .str "equal", .str "near1", .str "near2", .str "back", .str "under", .str "held"] ++ [.str "old", .str "new", .str "less", .str "more", .str "none", .str "down", .str "up", .str "both", .non, .bl true, .str "near", .ref t]
theorem someW_part {H : Hp} {t : Addr} (ht : H t = some (.tup [.int 1])) : ∀ v ∈ someW t, PartV H v := by
  have hs : ∀ s ∈ (["notless", "equal", "near1", "near2", "back", "under", "held", "old", "new", "less", "more", "none", "down", "up", "both", "near"] : List Str), PyData.strOk s = true := by decide +kernel
  intro v hv
  unfold someW at hv
  rcases List.mem_append.mp hv with hv | hv
  · rcases List.mem_append.mp hv with hv | hv
    · obtain ⟨i, _, rfl⟩ := List.mem_map.mp hv
      exact .inl ⟨_, rfl⟩
    · simp only [List.mem_cons, List.not_mem_nil, or_false] at hv
      rcases hv with rfl | rfl | rfl | rfl | rfl | rfl | rfl <;> exact .inr (.inl ⟨_, rfl, hs _ (by simp)⟩)
  · simp only [List.mem_cons, List.not_mem_nil, or_false] at hv
    rcases hv with rfl | rfl | rfl | rfl | rfl | rfl | rfl | rfl | rfl | rfl | rfl | rfl <;>
      first | exact .inr (.inl ⟨_, rfl, hs _ (by simp)⟩) | exact .inr (.inr (.inr (.inl rfl))) | exact .inr (.inr (.inl ⟨_, rfl⟩)) | exact .inr (.inr (.inr (.inr (.inr ⟨_, [1], rfl, ht⟩))))
/-! ### the dict of the parts -/
def kvsL (L : Parts) : List (Key × V) := [(.inr "a", .int L.a), (.inr "c", .int L.c), (.inr "d", .int L.d), (.inr "stop", .str L.stop), (.inr "told", .str L.told), (.inr "mend", .str L.mend)]
def dictL (L : Parts) : List (Key × V) := mergeK [] (kvsL L)
theorem putK_len1 (c : List (Key × V)) (k : Key) (x : V) : (putK c k x).length ≤ c.length + 1 := by
  unfold putK
  split
  · rw [List.length_map]
    omega
  · rw [List.length_append]
    exact Nat.le_refl _
theorem mergeK_len : ∀ (more kvs : List (Key × V)), (mergeK kvs more).length ≤ kvs.length + more.length
  | [], kvs => Nat.le_refl _
  | x :: more, kvs => by
    have h := mergeK_len more (putK kvs x.1 x.2)
    have h2 := putK_len1 kvs x.1 x.2
    show (mergeK (putK kvs x.1 x.2) more).length ≤ kvs.length + (more.length + 1)
    omega
theorem dictL_len (L : Parts) : (dictL L).length ≤ 6 := mergeK_len (kvsL L) []
theorem dictL_get (L : Parts) : valV (dictL L) (.inr "a") = some (.int L.a) ∧ valV (dictL L) (.inr "c") = some (.int L.c) ∧ valV (dictL L) (.inr "d") = some (.int L.d) ∧ valV (dictL L) (.inr "stop") = some (.str L.stop) ∧ valV (dictL L) (.inr "told") = some (.str L.told) ∧ valV (dictL L) (.inr "mend") = some (.str L.mend) := by
  unfold dictL mergeK kvsL
  simp only [List.foldl_cons, List.foldl_nil]
  refine ⟨?_, ?_, ?_, ?_, ?_, ?_⟩ <;> repeat (first | rw [valV_put, if_pos rfl] | rw [valV_put, if_neg (by decide +kernel)])
theorem putL_get (L : Parts) (s : Str) (v : V) : valV (putK (dictL L) (.inr s) v) (.inr "a") = some (if ("a" : Str) = s then v else .int L.a) ∧ valV (putK (dictL L) (.inr s) v) (.inr "c") = some (if ("c" : Str) = s then v else .int L.c) ∧ valV (putK (dictL L) (.inr s) v) (.inr "d") = some (if ("d" : Str) = s then v else .int L.d) ∧
    valV (putK (dictL L) (.inr s) v) (.inr "stop") = some (if ("stop" : Str) = s then v else .str L.stop) ∧ valV (putK (dictL L) (.inr s) v) (.inr "told") = some (if ("told" : Str) = s then v else .str L.told) ∧ valV (putK (dictL L) (.inr s) v) (.inr "mend") = some (if ("mend" : Str) = s then v else .str L.mend) := by
  obtain ⟨h1, h2, h3, h4, h5, h6⟩ := dictL_get L
  have e : ∀ (u : Str) (x : V), valV (dictL L) (.inr u) = some x → valV (putK (dictL L) (.inr s) v) (.inr u) = some (if u = s then v else x) := fun u x h => by
    rw [valV_put, h]
    by_cases z : u = s
    · rw [if_pos z, if_pos (by rw [z])]
    · rw [if_neg z, if_neg (fun y => z (by injection y))]
  exact ⟨e _ _ h1, e _ _ h2, e _ _ h3, e _ _ h4, e _ _ h5, e _ _ h6⟩
/-- the parts as they are read from the dict -/
def pickL (L : Parts) (s : Str) (v : V) : List V := [.int L.k, if ("a" : Str) = s then v else .int L.a, if ("c" : Str) = s then v else .int L.c, if ("d" : Str) = s then v else .int L.d, if ("stop" : Str) = s then v else .str L.stop, if ("told" : Str) = s then v else .str L.told, if ("mend" : Str) = s then v else .str L.mend]
theorem pickL_eq (L : Parts) (v : V) {i : Nat} {s : Str} (h : fields[i]? = some s) : pickL L s v = L.vs.set (i + 1) v := by
  have hi := fields_ix h
  have : i = 0 ∨ i = 1 ∨ i = 2 ∨ i = 3 ∨ i = 4 ∨ i = 5 := by omega
  rcases this with rfl | rfl | rfl | rfl | rfl | rfl <;> (injection h with h; subst h; unfold pickL; repeat (first | rw [if_pos rfl] | rw [if_neg (by decide +kernel)])) <;> rfl
end Q

set_option Elab.async false
set_option linter.all false
set_option maxRecDepth 100000
set_option maxHeartbeats 4000000
namespace Q
open PySem PySem.Spec PyProof.Rows L2
def top (i : Nat) : Stmt := PySem.Challenge.pw_floorward_k22_fields_changed.main.body.getD i (.Pass ⟨0, 0, 0, 0⟩)
/-! _law_stream: 0:_law_script 1:_law_k 2:_law_cell -/
abbrev s_Lstream : Stmt := top 26
theorem sc_Lstream : FnScope ["_law_script", "_law_k", "_law_cell"] ["_law_script", "_law_k"] (C8.fnScope s_Lstream) := C8.fnScope_by (by decide +kernel)
/-! _law_draw: 0:_law_stream_here 1:_law_many 2:_law_digit 3:_law_spread -/
abbrev s_Ldraw : Stmt := top 27
theorem sc_Ldraw : FnScope ["_law_stream_here", "_law_many", "_law_digit", "_law_spread"] ["_law_stream_here", "_law_many"] (C8.fnScope s_Ldraw) := C8.fnScope_by (by decide +kernel)
/-! _law_pick: 0:_law_stream_here 1:_law_things -/
abbrev s_Lpick : Stmt := top 28
theorem sc_Lpick : FnScope ["_law_stream_here", "_law_things"] ["_law_stream_here", "_law_things"] (C8.fnScope s_Lpick) := C8.fnScope_by (by decide +kernel)
/-! _law_weights: 0:_law_k 1:_law_found 2:_law_a 3:_law_c -/
abbrev s_Lweights : Stmt := top 29
theorem sc_Lweights : FnScope ["_law_k", "_law_found", "_law_a", "_law_c"] ["_law_k"] (C8.fnScope s_Lweights) := C8.fnScope_by (by decide +kernel)
/-! _law_parts: 0:_law_stream_here 1:_law_k 2:_law_a 3:_law_c 4:_law_d 5:_law_stop 6:_law_told 7:_law_mend -/
abbrev s_Lparts : Stmt := top 30
theorem sc_Lparts : FnScope ["_law_stream_here", "_law_k", "_law_a", "_law_c", "_law_d", "_law_stop", "_law_told", "_law_mend"] ["_law_stream_here"] (C8.fnScope s_Lparts) := C8.fnScope_by (by decide +kernel)
/-! is_int: 0:value -/
abbrev s_is_int : Stmt := top 6
theorem sc_is_int : FnScope ["value"] ["value"] (C8.fnScope s_is_int) := C8.fnScope_by (by decide +kernel)
/-! is_within: 0:value 1:least 2:greatest -/
abbrev s_is_within : Stmt := top 7
theorem sc_is_within : FnScope ["value", "least", "greatest"] ["value", "least", "greatest"] (C8.fnScope s_is_within) := C8.fnScope_by (by decide +kernel)
/-! is_word: 0:value 1:words -/
abbrev s_is_word : Stmt := top 9
theorem sc_is_word : FnScope ["value", "words"] ["value", "words"] (C8.fnScope s_is_word) := C8.fnScope_by (by decide +kernel)
/-! possible_tellings: 0:stop -/
abbrev s_possible_tellings : Stmt := top 18
theorem sc_possible_tellings : FnScope ["stop"] ["stop"] (C8.fnScope s_possible_tellings) := C8.fnScope_by (by decide +kernel)
/-! is_loop_power: 0:k -/
abbrev s_is_loop_power : Stmt := top 16
theorem sc_is_loop_power : FnScope ["k"] ["k"] (C8.fnScope s_is_loop_power) := C8.fnScope_by (by decide +kernel)
/-! greatest_c: 0:k 1:a -/
abbrev s_greatest_c : Stmt := top 17
theorem sc_greatest_c : FnScope ["k", "a"] ["k", "a"] (C8.fnScope s_greatest_c) := C8.fnScope_by (by decide +kernel)
/-! wrong_part: 0:k 1:a 2:c 3:d 4:stop 5:told 6:mend -/
abbrev s_wrong_part : Stmt := top 19
theorem sc_wrong_part : FnScope ["k", "a", "c", "d", "stop", "told", "mend"] ["k", "a", "c", "d", "stop", "told", "mend"] (C8.fnScope s_wrong_part) := C8.fnScope_by (by decide +kernel)
/-! Average.__init__: 0:self 1:k 2:a 3:c 4:d 5:stop 6:told 7:mend 8:word -/
abbrev s_Average___init__ : Stmt := inClass (top 20) 0
theorem sc_Average___init__ : FnScope ["self", "k", "a", "c", "d", "stop", "told", "mend", "word"] ["self", "k", "a", "c", "d", "stop", "told", "mend"] (C8.fnScope s_Average___init__) := C8.fnScope_by (by decide +kernel)
/-! Average.__eq__: 0:self 1:other -/
abbrev s_Average___eq__ : Stmt := inClass (top 20) 1
theorem sc_Average___eq__ : FnScope ["self", "other"] ["self", "other"] (C8.fnScope s_Average___eq__) := C8.fnScope_by (by decide +kernel)
/-! _law_loop: 0:_law_parts_here -/
abbrev s_Lloop : Stmt := top 31
theorem sc_Lloop : FnScope ["_law_parts_here"] ["_law_parts_here"] (C8.fnScope s_Lloop) := C8.fnScope_by (by decide +kernel)
/-! require_field: 0:field -/
abbrev s_require_field : Stmt := top 23
theorem sc_require_field : FnScope ["field"] ["field"] (C8.fnScope s_require_field) := C8.fnScope_by (by decide +kernel)
/-! changed: 0:loop 1:field 2:value 3:parts -/
abbrev s_changed : Stmt := top 24
theorem sc_changed : FnScope ["loop", "field", "value", "parts"] ["loop", "field", "value"] (C8.fnScope s_changed) := C8.fnScope_by (by decide +kernel)
/-! _law_refused_part: 0:_law_parts_here 1:e -/
abbrev s_Lrefused_part : Stmt := top 32
theorem sc_Lrefused_part : FnScope ["_law_parts_here", "e"] ["_law_parts_here"] (C8.fnScope s_Lrefused_part) := C8.fnScope_by (by decide +kernel)
/-! _law_tried: 0:_law_loop_here 1:_law_field 2:_law_value 3:e -/
abbrev s_Ltried : Stmt := top 33
theorem sc_Ltried : FnScope ["_law_loop_here", "_law_field", "_law_value", "e"] ["_law_loop_here", "_law_field", "_law_value"] (C8.fnScope s_Ltried) := C8.fnScope_by (by decide +kernel)
/-! law: 0:_law_script 1:_law_fields 2:_law_some 3:_law_turn 4:_law_stream_here 5:_law_parts_here 6:_law_loop_here 7:_law_k 8:_law_field 9:_law_value 10:_law_due 11:_law_part 12:_law_told 13:_law_odd -/
abbrev s_law : Stmt := top 34
theorem sc_law : FnScope ["_law_script", "_law_fields", "_law_some", "_law_turn", "_law_stream_here", "_law_parts_here", "_law_loop_here", "_law_k", "_law_field", "_law_value", "_law_due", "_law_part", "_law_told", "_law_odd"] ["_law_script"] (C8.fnScope s_law) := C8.fnScope_by (by decide +kernel)
/-- what the walks ask of the top's names -/
structure Txt (K : PySem.W.Frag) (mg : Str → Option Value) : Prop where
  b_abs : mg "abs" = none
  b_bool : mg "bool" = none
  b_enumerate : mg "enumerate" = none
  b_int : mg "int" = none
  b_isinstance : mg "isinstance" = none
  b_len : mg "len" = none
  b_list : mg "list" = none
  b_min : mg "min" = none
  b_range : mg "range" = none
  b_str : mg "str" = none
  c_FIELDS : ∃ a : Addr, mg "FIELDS" = some (.ref a) ∧ ∀ H : Hp, SqT K H a [.str "a", .str "c", .str "d", .str "stop", .str "told", .str "mend"]
  c_LOOKS : ∃ a : Addr, mg "LOOKS" = some (.ref a) ∧ ∀ H : Hp, SqT K H a [.str "under", .str "held"]
  c_MENDS : ∃ a : Addr, mg "MENDS" = some (.ref a) ∧ ∀ H : Hp, SqT K H a [.str "none", .str "down", .str "up", .str "both"]
  c_MOST_WEIGHT : ∃ u, mg "MOST_WEIGHT" = some u ∧ RelV (.int 6) u
  c_STOPS : ∃ a : Addr, mg "STOPS" = some (.ref a) ∧ ∀ H : Hp, SqT K H a [.str "notless", .str "equal", .str "near1", .str "near2", .str "back", .str "under", .str "held"]
  c_TELLINGS : ∃ a : Addr, mg "TELLINGS" = some (.ref a) ∧ ∀ H : Hp, SqT K H a [.str "old", .str "new", .str "less", .str "more"]

local macro_rules | `(tactic| walk_at "rd") => `(tactic| repeat (first | refine ⟨_, rfl, ?_⟩ | refine ⟨_, _, rfl, rfl, ?_⟩ | refine ⟨_, _, rfl, ?_⟩ | refine ⟨_, _, _, rfl, ?_⟩ | refine .inl ⟨_, rfl, ?_⟩ | refine ⟨rfl, ?_⟩))

section
variable {P : Program} {w : World} {K : PySem.W.Frag} {mg : Str → Option Value} {base : Heap}
theorem ok_Lstream {f : Addr} {fd : FuncData} (F : C8.Def K mg "_law_stream" s_Lstream f fd) (b : Binds K fd ["_law_script", "_law_k"] []) (T : Txt K mg) : C8.Cal P w K mg base 1 "_law_stream" (spStream K) [] := by
  refine C8.cal0 F b .nil sc_Lstream (fun vs H Q E h => ?_) (fun cdv A outer s H vs Q E hr h => ?_)
  · obtain ⟨a, ns, k, rfl, hS, h63, hk, q⟩ := h
    rfl
  · obtain ⟨a, ns, k, rfl, hS, h63, hk, q⟩ := h
    refine ⟨_, pss_cons (ps_set (i := 2) sc_Lstream.nd rfl (Or.inl rfl) (pe_ifExp (pt_cmpR op_lt (pv 1) (pe_callB (call_len_seq) rfl T.b_len PySem.boot_len (pa_cons (pv 0) pa_nil)) (nomark _)) (pe_callB (call_abs) rfl T.b_abs boot_abs (pa_cons (pe_ix ix_list (pv 0) (pv 1) (fun _ _ => rfl)) pa_nil)) pe_int))
      (pss_one (ps_ret (pe_lst (pa_cons (pe_ifExp (pt_cmpR op_ge (pv 2) (pe_op op_pow pe_int pe_int) (nomark _)) (pv 2) pe_int) (pa_cons (pe_op op_add (pe_op op_mod (pe_callTy (call_int1) rfl T.b_int boot_int (pa_cons (pv 2) pa_nil)) pe_int) (pe_op op_mul pe_int (pv 1))) (pa_cons pe_int pa_nil)))))), ?_⟩
    have ex : ∃ cell : Int, 0 ≤ cell ∧ ((k < ns.length ∧ ∃ z, atI (ns.map V.int) (k : Int) = some (V.int z) ∧ cell = (if z < 0 then -z else z)) ∨ (¬ k < ns.length ∧ cell = 0)) := by
      by_cases hlt : k < ns.length
      · refine ⟨_, ?_, .inl ⟨hlt, ns[k], atI_nat (by rw [List.getElem?_map, List.getElem?_eq_getElem hlt] <;> rfl), rfl⟩⟩
        split <;> omega
      · exact ⟨0, by decide, .inr ⟨hlt, rfl⟩⟩
    obtain ⟨cell, h0, hc⟩ := ex
    have hl : (ns.map V.int).length = ns.length := List.length_map _
    walk_at "rd"
    refine ⟨a, _, rfl, .inl hS, ?_⟩
    walk_at "rd"
    refine if_join (.int cell) ?_ (fun c Q q => ?_) (fun c Q q => ?_)
    · walk_at "rd"
      refine ⟨⟨by decide, by decide, by decide⟩, ?_⟩
      walk_at "rd"
      refine if_join (.int (if 10 ^ (18 : Int).toNat ≤ cell then cell else 0)) ?_ (fun c Q q => ?_) (fun c Q q => ?_)
      · walk_at "rd"
        refine ⟨(by show (0 : Int) < 2147483647; decide), ?_⟩
        walk_at "rd"
        refine ⟨.inl ⟨by decide, by decide⟩, ?_⟩
        walk_at "rd"
        refine ⟨(by show 3 ≤ sizeLine; decide), fun p hp => q p _ hp (same_new hp _) ⟨_, _, _, upd_same, ?_, ?_, ?_, Int.le_refl 0, Int.le_refl 0⟩⟩
        · split <;> omega
        · omega
        · omega
      · refine ⟨_, rfl, ?_⟩
        have c' := of_decide_eq_true c
        rw [if_pos c'] at q
        exact q
      · have c' := of_decide_eq_false c
        rw [if_neg c'] at q
        exact q
    · have c' := of_decide_eq_true c
      rcases hc with ⟨_, z, hz, rfl⟩ | ⟨h, _⟩
      · exact ⟨_, rfl, _, rfl, a, _, _, _, rfl, rfl, hS, hz, _, rfl, q⟩
      · rw [hl] at c'
        omega
    · have c' := of_decide_eq_false c
      rcases hc with ⟨h, _⟩ | ⟨_, rfl⟩
      · rw [hl] at c'
        omega
      · exact q
theorem ok_Ldraw {f : Addr} {fd : FuncData} (F : C8.Def K mg "_law_draw" s_Ldraw f fd) (b : Binds K fd ["_law_stream_here", "_law_many"] []) (T : Txt K mg) : C8.Cal P w K mg base 1 "_law_draw" (spDraw) [] := by
  refine C8.cal0 F b .nil sc_Ldraw (fun vs H Q E h => ?_) (fun cdv A outer s H vs Q E hr h => ?_)
  · obtain ⟨a, c, m, b', rfl, hA, hc, hm, hb, hb2, q⟩ := h
    rfl
  · obtain ⟨a, c, m, b', rfl, hA, hc, hm, hb, hb2, q⟩ := h
    refine ⟨_, pss_cons (ps_if (pt_cmpR op_gt (pe_ix ix_list (pv 0) pe_int (fun _ _ => rfl)) pe_int (nomark _)) (pss_cons (ps_set (i := 2) sc_Ldraw.nd rfl (Or.inl rfl) (pe_op op_mod (pe_callTy (call_int1) rfl T.b_int boot_int (pa_cons (pe_ix ix_list (pv 0) pe_int (fun _ _ => rfl)) pa_nil)) (pv 1)))
        (pss_cons (ps_asg (pe_op op_fdivW (pe_ix ix_list (pv 0) pe_int (fun _ _ => rfl)) (pv 1)) (pg_sub (pv 0) pe_int set_list))
        (pss_one (ps_ret (pv 2))))) (pss_nil))
      (pss_cons (ps_asg (pe_op op_add (pe_ix ix_list (pv 0) pe_int (fun _ _ => rfl)) pe_int) (pg_sub (pv 0) pe_int set_list))
      (pss_cons (ps_set (i := 3) sc_Ldraw.nd rfl (Or.inl rfl) (pe_op op_mod (pe_op op_pow (pe_callTy (call_int1) rfl T.b_int boot_int (pa_cons (pe_op op_add (pe_op op_add (pe_ix ix_list (pv 0) pe_int (fun _ _ => rfl)) (pe_op op_mul pe_int (pe_ix ix_list (pv 0) pe_int (fun _ _ => rfl)))) pe_int) pa_nil)) pe_int) pe_int))
      (pss_one (ps_ret (pe_op op_mod (pe_op op_fdiv (pe_op op_mod (pe_callTy (call_int1) rfl T.b_int boot_int (pa_cons (pe_op op_mul (pe_op op_add (pv 3) (pe_ix ix_list (pv 0) pe_int (fun _ _ => rfl))) pe_int) pa_nil)) pe_int) pe_int) (pv 1)))))), ?_⟩
    obtain ⟨x, y, z, h1, h2, h3, h4, h5, h6⟩ := hA
    have L0 : SqL K H a [.int x, .int y, .int z] := SqL.of h1
    walk_at "rd"
    refine ⟨a, _, _, _, rfl, rfl, L0, atI_nat (j := 0) rfl, ?_⟩
    walk_at "rd"
    refine ite2 (fun c => ?_) (fun c => ?_)
    · have c' : 0 < x := of_decide_eq_true c
      walk_at "rd"
      refine ⟨a, _, _, _, rfl, rfl, L0, atI_nat (j := 0) rfl, ?_⟩
      walk_at "rd"
      refine ⟨hm, ?_⟩
      walk_at "rd"
      refine ⟨a, _, _, _, rfl, rfl, L0, atI_nat (j := 0) rfl, ?_⟩
      walk_at "rd"
      refine ⟨Sz.d _ hm hb hb2, ?_⟩
      walk_at "rd"
      refine ⟨a, _, _, 0, rfl, rfl, h1, rfl, ?_⟩
      walk_at "rd"
      exact q _ _ (Int.emod_nonneg _ (by omega)) (Int.emod_lt_of_pos _ hm) (but_upd _ _ _) ⟨_, _, _, upd_same, Int.ediv_nonneg h2 (by omega), h3, h4, h5, by omega⟩
    · walk_at "rd"
      refine ⟨a, _, _, _, rfl, rfl, L0, atI_nat (j := 2) rfl, ?_⟩
      walk_at "rd"
      refine ⟨a, _, _, 2, rfl, rfl, h1, rfl, ?_⟩
      have L1 : SqL K (upd H a (.lst [.int x, .int y, .int (z + 1)])) a [.int x, .int y, .int (z + 1)] := SqL.of upd_same
      walk_at "rd"
      refine ⟨a, _, _, _, rfl, rfl, L1, atI_nat (j := 1) rfl, ?_⟩
      walk_at "rd"
      refine ⟨a, _, _, _, rfl, rfl, L1, atI_nat (j := 2) rfl, ?_⟩
      walk_at "rd"
      refine ⟨.inl ⟨by decide, by decide⟩, ?_⟩
      walk_at "rd"
      refine ⟨⟨by decide, by decide, by omega⟩, ?_⟩
      walk_at "rd"
      refine ⟨(by show (0 : Int) < 2147483647; decide), ?_⟩
      generalize hg : (y + 7919 * (z + 1) + 104729) ^ (5 : Int).toNat % 2147483647 = g
      have g0 : 0 ≤ g := by rw [← hg]; exact Int.emod_nonneg _ (by decide)
      have g1 : g < 2147483647 := by rw [← hg]; exact Int.emod_lt_of_pos _ (by decide)
      walk_at "rd"
      refine ⟨a, _, _, _, rfl, rfl, L1, atI_nat (j := 2) rfl, ?_⟩
      walk_at "rd"
      refine ⟨.inr ⟨by decide, by decide⟩, ?_⟩
      walk_at "rd"
      refine ⟨(by show (0 : Int) < 2147483629; decide), ?_⟩
      walk_at "rd"
      refine ⟨⟨by decide, by decide⟩, ?_⟩
      walk_at "rd"
      refine ⟨hm, ?_⟩
      exact q _ _ (Int.emod_nonneg _ (by omega)) (Int.emod_lt_of_pos _ hm) (but_upd _ _ _) ⟨_, _, _, upd_same, h2, h3, h4, by omega, by omega⟩
theorem ok_Lpick {f : Addr} {fd : FuncData} (F : C8.Def K mg "_law_pick" s_Lpick f fd) (b : Binds K fd ["_law_stream_here", "_law_things"] []) (T : Txt K mg) (c_Ldraw : C8.Cal P w K mg base 1 "_law_draw" (spDraw) []) : C8.Cal P w K mg base 2 "_law_pick" (spPick K) [] := by
  refine C8.cal0 F b .nil sc_Lpick (fun vs H Q E h => ?_) (fun cdv A outer s H vs Q E hr h => ?_)
  · obtain ⟨a, c, p, xs, rfl, hA, hc, hn, hS, hne, hl, q⟩ := h
    rfl
  · obtain ⟨a, c, p, xs, rfl, hA, hc, hn, hS, hne, hl, q⟩ := h
    refine ⟨_, pss_one (ps_ret (pe_ix ix_list (pv 1) (C8.pe_c c_Ldraw hr (by decide) rfl (pa_cons (pv 0) (pa_cons (pe_callB (call_len_seq) rfl T.b_len PySem.boot_len (pa_cons (pv 1) pa_nil)) pa_nil))) (fun _ _ => rfl))), ?_⟩
    have hpos : 0 < xs.length := List.length_pos_iff.mpr hne
    walk_at "rd"
    refine ⟨p, _, rfl, .inl hS, ?_⟩
    refine ⟨a, c, _, 10, rfl, hA, hc, by omega, ?_, by decide, fun r H' h0 h1 hb hs => ?_⟩
    · show (xs.length : Int).natAbs < 2 ^ 10
      omega
    obtain ⟨j, rfl⟩ := Int.eq_ofNat_of_zero_le h0
    have hj : j < xs.length := by omega
    exact ⟨p, xs, _, xs[j], rfl, rfl, hb.seq hn hS, atI_nat (List.getElem?_eq_getElem hj), q _ _ (List.getElem_mem hj) hb hs⟩

theorem ok_Lweights {f : Addr} {fd : FuncData} (F : C8.Def K mg "_law_weights" s_Lweights f fd) (b : Binds K fd ["_law_k"] []) (T : Txt K mg) : C8.Cal P w K mg base 1 "_law_weights" (spWts) [] := by
  refine C8.cal0 F b .nil sc_Lweights (fun vs H Q E h => ?_) (fun cdv A outer s H vs Q E hr h => ?_)
  · obtain ⟨k, rfl, k2, k4, q⟩ := h
    rfl
  · obtain ⟨k, rfl, k2, k4, q⟩ := h
    refine ⟨_, pss_cons (ps_set (i := 1) sc_Lweights.nd rfl (Or.inl rfl) (pe_lst (pa_nil)))
      (pss_cons (ps_for PassesOwn.never rfl (pi_range2 rfl T.b_range (pa_cons pe_int (pa_cons pe_int pa_nil))) (pg_name (i := 2) sc_Lweights.nd rfl (Or.inr rfl)) (pss_one (ps_expr (pe_bm PySem.F.plainAttrs_list PySem.F.slot_list_extend PySem.F.type_list_extend mt_extend (pv 1) (pa_cons (pe_lc (own := [("_law_c", 3)]) rfl sc_Lweights.nd (pi_tup (pe_tup (pa_cons pe_int (pa_cons pe_int (pa_cons pe_int pa_nil))))) (blkOk_by (N := ["_law_k", "_law_found", "_law_a", "_law_c"]) (sc := C8.fnScope s_Lweights) (by decide +kernel)) (fun _ _ _ _ _ => by exact (pg_name (i := 3) sc_Lweights.nd rfl (Or.inl rfl))) (fun _ _ _ _ _ => pts_one (PW.pt (pw_and (pt_cmpR op_ge (pv 2) (pe_op op_mul (pv 3) (pe_op op_sub (pv 0) pe_int)) (nomark _)) (pw_and1 (pt_cmpR op_le (pe_op op_add (pv 2) (pv 3)) pe_int (nomark _)))))) (fun _ _ _ _ _ => by exact (pe_tup (pa_cons (pv 2) (pa_cons (pv 3) pa_nil))))) pa_nil)))))
      (pss_one (ps_ret (pv 1)))), ?_⟩
    refine ⟨(by show 0 ≤ sizeLine; decide), fun p hp => ?_⟩
    walk_at "rd"
    refine ⟨by decide, ?_⟩
    refine for_range (n := 5) (fun i σ H' => ∃ (acc : List V) (va vc : Option V), σ = [some (.int k), some (.ref p), va, vc] ∧ H' p = some (.lst acc) ∧ Prs H' acc (wtsTo k i) ∧ SameBut p H H') ⟨[], none, none, rfl, upd_same, .nil, but_new hp _⟩ ?_ ?_
    · rintro i σ H' hi ⟨acc, va, vc, rfl, hacc, hprs, hbut⟩
      have hlen := hprs.length
      have hwl := wtsTo_len k i
      walk_at "rd"
      refine ⟨.inl ⟨rfl, _, SqL.of hacc⟩, ?_⟩
      refine ⟨(by show 3 ≤ sizeLine; decide), fun t ht => ?_⟩
      refine ⟨t, rfl, ⟨_, SqT.of upd_same⟩, fun D hD => ?_⟩
      have ntD : t ≠ D := ne_of_none upd_same hD
      have nD : H' D = none := (same_new ht _).free hD
      have npD : p ≠ D := ne_of_none hacc nD
      have npt : p ≠ t := ne_of_none hacc ht
      refine lc_tup (K := K) (a := t) (xs := ([1, 2, 3] : List Int).map V.int) (fun j G => ∃ ad, G D = some (.lst ad) ∧ Prs G ad (crow k (1 + i) j) ∧ (∀ b o, b ≠ D → (upd H' t (.tup (([1, 2, 3] : List Int).map V.int))) b = some o → G b = some o) ∧ ad.length ≤ j) ⟨[], upd_same, .nil, fun b o n e => by rw [upd_ne n]; exact e, Nat.zero_le _⟩
        (fun j G _ ⟨ad, _, _, h3, _⟩ => SqT.of (h3 t _ ntD upd_same)) ?_ ?_
      · rintro j x G hj ⟨ad, h1, h2, h3, h4⟩
        obtain ⟨z, hz, rfl⟩ := int_at hj
        have hj3 : j < 3 := (List.getElem?_eq_some_iff.mp hz).1
        have cs := crow_succ (k := k) (a := 1 + i) hz
        refine ⟨rfl, ?_⟩
        walk_at "rd"
        refine ⟨.inr ⟨by omega, by omega⟩, ?_⟩
        walk_at "rd"
        refine ite2 (fun c1 => ?_) (fun c1 => ?_)
        · walk_at "rd"
          refine ite2 (fun c2 => ?_) (fun c2 => ?_)
          · walk_at "rd"
            rw [c1, c2] at cs
            refine ⟨(by show 2 ≤ sizeLine; decide), fun r hr => ?_⟩
            have nrD : D ≠ r := ne_of_none h1 hr
            refine ⟨ad, by rw [upd_ne nrD]; exact h1, small1000 (by omega), ad ++ [.ref r], upd_same, ?_, fun b o n e => ?_, by rw [List.length_append]; exact Nat.succ_le_succ h4⟩
            · rw [cs]
              refine (h2.mono fun b xs e => ?_).app (.cons ⟨r, rfl, ?_⟩ .nil)
              · rw [upd_ne (fun z => by rw [z, h1] at e; cases e), upd_ne (ne_of_none e hr)]
                exact e
              · rw [upd_ne nrD.symm, upd_same]
            · rw [upd_ne n, upd_ne (ne_of_none (h3 b o n e) hr)]
              exact h3 b o n e
          · have c2' := Bool.eq_false_iff.mpr c2
            rw [c1, c2'] at cs
            refine ⟨ad, h1, ?_, h3, by omega⟩
            rw [cs]
            simpa using h2
        · have c1' := Bool.eq_false_iff.mpr c1
          rw [c1'] at cs
          refine iteF ⟨ad, h1, ?_, h3, by omega⟩
          rw [cs]
          simpa using h2
      · rintro G ⟨ad, h1, h2, h3, h4⟩
        have h4' : ad.length ≤ 3 := h4
        have kp : ∀ b o, H' b = some o → G b = some o := fun b o e => h3 b o (ne_of_none e nD) (by rw [upd_ne (ne_of_none e ht)]; exact e)
        refine ⟨p, D, acc, ad, rfl, rfl, kp _ _ hacc, h1, small _ (by omega), ?_⟩
        refine ⟨_, _, _, rfl, upd_same, ?_, fun b o n e => ?_⟩
        · refine (hprs.mono fun b xs e => ?_).app (h2.mono fun b xs e => ?_)
          · rw [upd_ne (fun z => by rw [z, hacc] at e; cases e)]
            exact kp _ _ e
          · rw [upd_ne (fun z => by rw [z, kp _ _ hacc] at e; cases e)]
            exact e
        · rw [upd_ne n]
          exact kp _ _ (hbut b o n e)
    · rintro σ H' ⟨acc, va, vc, rfl, hacc, hprs, hbut⟩
      walk_at "rd"
      exact q p acc H' hp (fun b o e => hbut b o (ne_of_none e hp) e) hacc hprs
theorem ok_Lparts {f : Addr} {fd : FuncData} (F : C8.Def K mg "_law_parts" s_Lparts f fd) (b : Binds K fd ["_law_stream_here"] []) (T : Txt K mg) (c_Lpick : C8.Cal P w K mg base 2 "_law_pick" (spPick K) []) (c_Ldraw : C8.Cal P w K mg base 1 "_law_draw" (spDraw) []) (c_Lweights : C8.Cal P w K mg base 1 "_law_weights" (spWts) []) : C8.Cal P w K mg base 3 "_law_parts" (spParts) [] := by
  refine C8.cal0 F b .nil sc_Lparts (fun vs H Q E h => ?_) (fun cdv A outer s H vs Q E hr h => ?_)
  · obtain ⟨a, c, rfl, hA, hc, q⟩ := h
    rfl
  · obtain ⟨a, c, rfl, hA, hc, q⟩ := h
    refine ⟨_, pss_cons (ps_set (i := 1) sc_Lparts.nd rfl (Or.inl rfl) (pe_op op_add pe_int (C8.pe_c c_Ldraw hr (by decide) rfl (pa_cons (pv 0) (pa_cons pe_int pa_nil)))))
      (pss_cons (ps_asg (C8.pe_c c_Lpick hr (by decide) rfl (pa_cons (pv 0) (pa_cons (C8.pe_c c_Lweights hr (by decide) rfl (pa_cons (pv 1) pa_nil)) pa_nil))) (pg_tup rfl (pgs_cons (pg_name (i := 2) sc_Lparts.nd rfl (Or.inl rfl)) (pgs_cons (pg_name (i := 3) sc_Lparts.nd rfl (Or.inl rfl)) (pgs_nil)))))
      (pss_cons (ps_set (i := 4) sc_Lparts.nd rfl (Or.inl rfl) (C8.pe_c c_Lpick hr (by decide) rfl (pa_cons (pv 0) (pa_cons (pe_lst (pa_cons pe_int (pa_cons pe_int (pa_cons pe_int (pa_cons (pe_op op_sub (pv 3) pe_int) (pa_cons (pv 3) (pa_cons (pe_un un_neg pe_int) (pa_cons (pe_op op_sub (C8.pe_c c_Ldraw hr (by decide) rfl (pa_cons (pv 0) (pa_cons (pe_op op_add (pe_op op_add (pe_op op_mul pe_int (pv 2)) (pv 3)) pe_int) pa_nil))) (pv 2)) pa_nil)))))))) pa_nil))))
      (pss_cons (ps_set (i := 5) sc_Lparts.nd rfl (Or.inl rfl) (C8.pe_c c_Lpick hr (by decide) rfl (pa_cons (pv 0) (pa_cons (pe_lst (pa_cons pe_str (pa_cons pe_str (pa_cons pe_str (pa_cons pe_str (pa_cons pe_str (pa_cons pe_str (pa_cons pe_str pa_nil)))))))) pa_nil))))
      (pss_cons (ps_set (i := 6) sc_Lparts.nd rfl (Or.inl rfl) (C8.pe_c c_Lpick hr (by decide) rfl (pa_cons (pv 0) (pa_cons (pe_lst (pa_cons pe_str (pa_cons pe_str (pa_cons pe_str (pa_cons pe_str pa_nil))))) pa_nil))))
      (pss_cons (ps_set (i := 7) sc_Lparts.nd rfl (Or.inl rfl) (C8.pe_c c_Lpick hr (by decide) rfl (pa_cons (pv 0) (pa_cons (pe_lst (pa_cons pe_str (pa_cons pe_str (pa_cons pe_str (pa_cons pe_str (pa_cons pe_str pa_nil)))))) pa_nil))))
      (pss_one (ps_ret (pe_tup (pa_cons (pv 1) (pa_cons (pv 2) (pa_cons (pv 3) (pa_cons (pv 4) (pa_cons (pv 5) (pa_cons (pe_ifExp (pt_cmpR op_in_seq (pv 5) (pe_tup (pa_cons pe_str (pa_cons pe_str pa_nil))) (by with_unfolding_all rfl)) pe_str (pv 6)) (pa_cons (pv 7) pa_nil))))))))))))))), ?_⟩
    -- k
    walk_at "rd"
    refine ⟨a, c, 3, 2, rfl, hA, by omega, by decide, by decide, by decide, fun r1 H1 r10 r13 b1 s1 => ?_⟩
    walk_at "rd"
    -- the weights
    refine ⟨by omega, by omega, fun p2 acc H2 n2 m2 e2 w2 => ?_⟩
    have n2a : p2 ≠ a := s1.ne n2
    have s2 := s1.same m2
    have wl := w2.length
    have ww := wtsTo_len (2 + r1) 5
    refine ⟨a, c + 1, p2, acc, rfl, s2, by omega, n2a, SqL.of e2, ?_, ?_, fun v H3 hv b3 s3 => ?_⟩
    · intro z
      rw [z] at wl
      exact wts_ne (k := 2 + r1) (by omega) (by omega) (List.eq_nil_of_length_eq_zero wl.symm)
    · have : (wts (2 + r1)).length ≤ 3 * 5 := ww
      omega
    obtain ⟨⟨wa, wc⟩, hp, t, rfl, ht⟩ := w2.mem hv
    obtain ⟨a1, a5, c1, c3, ca, m6⟩ := wts_mem hp
    have a1 : 1 ≤ wa := a1
    have a5 : wa ≤ 5 := a5
    have c1 : 1 ≤ wc := c1
    have c3 : wc ≤ 3 := c3
    have ca : wc * (2 + r1 - 1) ≤ wa := ca
    have m6 : wa + wc ≤ 6 := m6
    obtain ⟨x0, y0, z0, hs2, _⟩ := id s2
    have nta : t ≠ a := fun z => by rw [z, hs2] at ht; cases ht
    refine ⟨t, _, rfl, SqT.of (b3 _ _ nta ht), rfl, _, _, rfl, _, _, rfl, rfl, ?_⟩
    -- d
    walk_at "rd"
    refine ⟨.inl ⟨by decide, by decide⟩, ?_⟩
    walk_at "rd"
    refine ⟨a, c + 2, _, 10, rfl, s3, by omega, by omega, (by show Int.natAbs _ < 2 ^ 10; omega), by decide, fun r4 H4 r40 r41 b4 s4 => ?_⟩
    walk_at "rd"
    refine ⟨(by show 7 ≤ sizeLine; decide), fun p5 n5 => ?_⟩
    have n5a : p5 ≠ a := s4.ne n5
    refine ⟨a, c + 3, p5, _, rfl, s4.same (same_new n5 _), by omega, n5a, SqL.of upd_same, List.cons_ne_nil _ _, (by show 7 ≤ 1000; decide), fun vd H6 hvd b6 s6 => ?_⟩
    obtain ⟨d, rfl, d0, d1⟩ : ∃ d : Int, vd = .int d ∧ -wa ≤ d ∧ d ≤ wa + wc := by
      simp only [List.mem_cons, List.not_mem_nil, or_false] at hvd
      rcases hvd with rfl | rfl | rfl | rfl | rfl | rfl | rfl <;> exact ⟨_, rfl, by omega, by omega⟩
    -- the words
    walk_at "rd"
    refine ⟨(by show 7 ≤ sizeLine; decide), fun p7 n7 => ?_⟩
    refine ⟨a, c + 4, p7, stops.map V.str, rfl, s6.same (same_new n7 _), by omega, s6.ne n7, SqL.of upd_same, List.cons_ne_nil _ _, (by show 7 ≤ 1000; decide), fun v8 H8 hv8 b8 s8 => ?_⟩
    obtain ⟨stop, hst, rfl⟩ := List.mem_map.mp hv8
    walk_at "rd"
    refine ⟨(by show 4 ≤ sizeLine; decide), fun p9 n9 => ?_⟩
    refine ⟨a, c + 5, p9, tellings.map V.str, rfl, s8.same (same_new n9 _), by omega, s8.ne n9, SqL.of upd_same, List.cons_ne_nil _ _, (by show 4 ≤ 1000; decide), fun v10 H10 hv10 b10 s10 => ?_⟩
    obtain ⟨told, hto, rfl⟩ := List.mem_map.mp hv10
    walk_at "rd"
    refine ⟨(by show 5 ≤ sizeLine; decide), fun p11 n11 => ?_⟩
    refine ⟨a, c + 6, p11, (["none", "none", "down", "up", "both"] : List Str).map V.str, rfl, s10.same (same_new n11 _), by omega, s10.ne n11, SqL.of upd_same, List.cons_ne_nil _ _, (by show 5 ≤ 1000; decide), fun v12 H12 hv12 b12 s12 => ?_⟩
    obtain ⟨mend, hme, rfl⟩ := List.mem_map.mp hv12
    -- the tuple
    walk_at "rd"
    refine ⟨(by show 2 ≤ sizeLine; decide), fun p13 n13 => ?_⟩
    refine ⟨p13, looks.map V.str, rfl, .inr (SqT.of upd_same), rfl, rfl, ?_⟩
    walk_at "rd"
    refine if_join (.str (if stop ∈ looks then "old" else told)) ?_ (fun cc Q q => ?_) (fun cc Q q => ?_)
    · walk_at "rd"
      refine ⟨(by show 7 ≤ sizeLine; decide), fun p14 n14 => ?_⟩
      have bb : SameBut a H (upd (upd H12 p13 (.tup (looks.map V.str))) p14 (.tup [.int (2 + r1), .int wa, .int wc, .int d, .str stop, .str (if stop ∈ looks then "old" else told), .str mend])) :=
        b1.trans ((Same.but m2).trans (b3.trans (b4.trans ((but_new n5 _).trans (b6.trans ((but_new n7 _).trans (b8.trans ((but_new n9 _).trans (b10.trans ((but_new n11 _).trans (b12.trans ((but_new n13 _).trans (but_new n14 _)))))))))))))
      have s14 := (s12.same (same_new n13 (.tup (looks.map V.str)))).ne n14
      refine q p14 _ ⟨2 + r1, wa, wc, d, stop, if stop ∈ looks then "old" else told, mend⟩ ?_ bb (((s12.same (same_new n13 _)).same (same_new n14 _)).mono (by omega)) upd_same ?_
      · have bb' : SameBut a H (upd H12 p13 (.tup (looks.map V.str))) := b1.trans ((Same.but m2).trans (b3.trans (b4.trans ((but_new n5 _).trans (b6.trans ((but_new n7 _).trans (b8.trans ((but_new n9 _).trans (b10.trans ((but_new n11 _).trans (b12.trans (but_new n13 _))))))))))))
        exact bb'.free s14 n14
      · refine ⟨by show 2 ≤ 2 + r1; omega, by show 2 + r1 ≤ 4; omega, a1, c1, ca, m6, d0, d1, hst, ?_, ?_, ?_⟩
        · show (if stop ∈ looks then ("old" : Str) else told) ∈ tellings
          split
          · decide
          · exact hto
        · intro hl
          show (if stop ∈ looks then ("old" : Str) else told) = "old"
          rw [if_pos hl]
        · show mend ∈ mendings
          simp only [List.mem_cons, List.not_mem_nil, or_false] at hme
          rcases hme with rfl | rfl | rfl | rfl | rfl <;> decide
    · have c2 : inV (.str stop) (looks.map V.str) = true := cc
      rw [inV_str] at c2
      rw [if_pos (of_decide_eq_true c2)] at q
      exact q
    · have c2 : inV (.str stop) (looks.map V.str) = false := cc
      rw [inV_str] at c2
      rw [if_neg (of_decide_eq_false c2)] at q
      exact ⟨_, rfl, q⟩

theorem ok_is_int {f : Addr} {fd : FuncData} (F : C8.Def K mg "is_int" s_is_int f fd) (b : Binds K fd ["value"] []) (T : Txt K mg) : C8.Cal P w K mg base 1 "is_int" (spIsInt K) [] := by
  refine C8.cal0 F b .nil sc_is_int (fun vs H Q E h => ?_) (fun cdv A outer s H vs Q E hr h => ?_)
  · obtain ⟨x, b', rfl, ⟨t, b1, b2, ty, k1, k2, rfl⟩, q⟩ := h
    rfl
  · obtain ⟨x, b', rfl, ⟨t, b1, b2, ty, k1, k2, rfl⟩, q⟩ := h
    refine ⟨_, pss_one (ps_ret (pe_and (pe_callB (call_isi) rfl T.b_isinstance boot_isinstance (pa_cons (pv 0) (pa_cons (pe_bltn (v := .ty "int") rfl T.b_int boot_int rfl) pa_nil))) (pe_one (pe_not (pe_callB (call_isi) rfl T.b_isinstance boot_isinstance (pa_cons (pv 0) (pa_cons (pe_bltn (v := .ty "bool") rfl T.b_bool boot_bool rfl) pa_nil))))))), ?_⟩
    walk_at "rd"
    refine ⟨_, .ty "int", t, _, b1, rfl, .ty "int", ty, k1, ?_⟩
    walk_at "rd"
    cases b1 with
    | true =>
      walk_at "rd"
      refine ⟨_, .ty "bool", t, _, b2, rfl, .ty "bool", ty, k2, ?_⟩
      walk_at "rd"
      exact q
    | false => exact q
theorem ok_is_within {f : Addr} {fd : FuncData} (F : C8.Def K mg "is_within" s_is_within f fd) (b : Binds K fd ["value", "least", "greatest"] []) (T : Txt K mg) (c_is_int : C8.Cal P w K mg base 1 "is_int" (spIsInt K) []) : C8.Cal P w K mg base 2 "is_within" (spIsWithin K) [] := by
  refine C8.cal0 F b .nil sc_is_within (fun vs H Q E h => ?_) (fun cdv A outer s H vs Q E hr h => ?_)
  · obtain ⟨x, l, m, rfl, h⟩ := h
    rfl
  · obtain ⟨x, l, m, rfl, h⟩ := h
    refine ⟨_, pss_one (ps_ret (pe_and (C8.pe_c c_is_int hr (by decide) rfl (pa_cons (pv 0) pa_nil)) (pe_one (pe_chain op_le op_le (pv 1) (pv 0) (pv 2))))), ?_⟩
    rcases h with ⟨i, rfl, q⟩ | ⟨hi, q⟩
    · walk_at "rd"
      refine ⟨_, true, rfl, isI_int K H i, ?_⟩
      walk_at "rd"
      walk_at "rd"
      cases c1 : decide (l ≤ i) with
      | true =>
        rw [c1, Bool.true_and] at q
        walk_at "rd"
        exact q
      | false =>
        rw [c1, Bool.false_and] at q
        exact q
    · walk_at "rd"
      refine ⟨_, false, rfl, hi, ?_⟩
      walk_at "rd"
      exact q
theorem ok_is_word {f : Addr} {fd : FuncData} (F : C8.Def K mg "is_word" s_is_word f fd) (b : Binds K fd ["value", "words"] []) (T : Txt K mg) : C8.Cal P w K mg base 1 "is_word" (spIsWord K) [] := by
  refine C8.cal0 F b .nil sc_is_word (fun vs H Q E h => ?_) (fun cdv A outer s H vs Q E hr h => ?_)
  · obtain ⟨x, p, l, rfl, hp, h⟩ := h
    rfl
  · obtain ⟨x, p, l, rfl, hp, h⟩ := h
    refine ⟨_, pss_one (ps_ret (pe_and (pe_callB (call_isi) rfl T.b_isinstance boot_isinstance (pa_cons (pv 0) (pa_cons (pe_bltn (v := .ty "str") rfl T.b_str boot_str rfl) pa_nil))) (pe_one (pe_cmpR op_in_seq (pv 0) (pv 1) (by with_unfolding_all rfl))))), ?_⟩
    rcases h with ⟨s, rfl, q⟩ | ⟨⟨t, ty, kt⟩, q⟩
    · walk_at "rd"
      refine ⟨_, .ty "str", _, _, true, rfl, .ty "str", .base (.str s), kit_ty (by decide +kernel), ?_⟩
      walk_at "rd"
      refine ⟨p, _, rfl, .inr hp, rfl, ?_, ?_⟩
      · rw [List.all_map]
        exact List.all_eq_true.mpr fun _ _ => rfl
      · show Q (.bl (inV (.str s) (l.map V.str))) H
        rw [inV_str]
        exact q
    · walk_at "rd"
      refine ⟨_, .ty "str", t, _, false, rfl, .ty "str", ty, kt, ?_⟩
      walk_at "rd"
      exact q
theorem ok_possible_tellings {f : Addr} {fd : FuncData} (F : C8.Def K mg "possible_tellings" s_possible_tellings f fd) (b : Binds K fd ["stop"] []) (T : Txt K mg) : C8.Cal P w K mg base 1 "possible_tellings" (spTellings K) [] := by
  refine C8.cal0 F b .nil sc_possible_tellings (fun vs H Q E h => ?_) (fun cdv A outer s H vs Q E hr h => ?_)
  · obtain ⟨stop, rfl, q⟩ := h
    rfl
  · obtain ⟨stop, rfl, q⟩ := h
    obtain ⟨a_LOOKS, g_LOOKS, t_LOOKS⟩ := T.c_LOOKS
    obtain ⟨a_TELLINGS, g_TELLINGS, t_TELLINGS⟩ := T.c_TELLINGS
    refine ⟨_, pss_one (ps_ret (pe_ifExp (pt_cmpR op_in_seq (pv 0) (pe_glob (v := .ref a_LOOKS) rfl g_LOOKS rfl) (by with_unfolding_all rfl)) (pe_tup (pa_cons pe_str pa_nil)) (pe_glob (v := .ref a_TELLINGS) rfl g_TELLINGS rfl))), ?_⟩
    walk_at "rd"
    refine ⟨a_LOOKS, looks.map V.str, rfl, .inr (t_LOOKS H), rfl, rfl, ?_⟩
    walk_at "rd"
    refine ite2 (fun c => ?_) (fun c => ?_)
    · have c2 : inV (.str stop) (looks.map V.str) = true := c
      rw [inV_str] at c2
      refine ⟨(by show 1 ≤ sizeLine; decide), fun p hp => q p _ (same_new hp _) ?_⟩
      unfold tellingsOf
      rw [if_pos (of_decide_eq_true c2)]
      exact SqT.of upd_same
    · have c2 : inV (.str stop) (looks.map V.str) = false := Bool.eq_false_iff.mpr c
      rw [inV_str] at c2
      refine q _ H (Same.refl H) ?_
      unfold tellingsOf
      rw [if_neg (of_decide_eq_false c2)]
      exact t_TELLINGS H
theorem ok_is_loop_power {f : Addr} {fd : FuncData} (F : C8.Def K mg "is_loop_power" s_is_loop_power f fd) (b : Binds K fd ["k"] []) (T : Txt K mg) (c_is_within : C8.Cal P w K mg base 2 "is_within" (spIsWithin K) []) : C8.Cal P w K mg base 3 "is_loop_power" (spIsLP K) [] := by
  refine C8.cal0 F b .nil sc_is_loop_power (fun vs H Q E h => ?_) (fun cdv A outer s H vs Q E hr h => ?_)
  · obtain ⟨x, rfl, h⟩ := h
    rfl
  · obtain ⟨x, rfl, h⟩ := h
    refine ⟨_, pss_one (ps_ret (C8.pe_c c_is_within hr (by decide) rfl (pa_cons (pv 0) (pa_cons pe_int (pa_cons pe_int pa_nil))))), ?_⟩
    walk_at "rd"
    rcases h with ⟨i, rfl, q⟩ | ⟨hi, q⟩
    · exact .inl ⟨i, rfl, q⟩
    · exact .inr ⟨hi, q⟩
theorem ok_greatest_c {f : Addr} {fd : FuncData} (F : C8.Def K mg "greatest_c" s_greatest_c f fd) (b : Binds K fd ["k", "a"] []) (T : Txt K mg) : C8.Cal P w K mg base 1 "greatest_c" (spGreatC) [] := by
  refine C8.cal0 F b .nil sc_greatest_c (fun vs H Q E h => ?_) (fun cdv A outer s H vs Q E hr h => ?_)
  · obtain ⟨k, a, rfl, k2, k4, a1, a5, q⟩ := h
    rfl
  · obtain ⟨k, a, rfl, k2, k4, a1, a5, q⟩ := h
    refine ⟨_, pss_one (ps_ret (pe_callB (call_min2 rfl) rfl T.b_min boot_min (pa_cons (pe_op op_fdiv (pv 1) (pe_op op_sub (pv 0) pe_int)) (pa_cons (pe_op op_sub (C8.pe_gc rfl T.c_MOST_WEIGHT) (pv 1)) pa_nil)))), ?_⟩
    walk_at "rd"
    refine ⟨⟨by omega, by omega⟩, ?_⟩
    walk_at "rd"
    exact q
theorem ok_wrong_part_ok {f : Addr} {fd : FuncData} (F : C8.Def K mg "wrong_part" s_wrong_part f fd) (b : Binds K fd ["k", "a", "c", "d", "stop", "told", "mend"] []) (T : Txt K mg) (c_is_loop_power : C8.Cal P w K mg base 3 "is_loop_power" (spIsLP K) []) (c_is_within : C8.Cal P w K mg base 2 "is_within" (spIsWithin K) []) (c_is_word : C8.Cal P w K mg base 1 "is_word" (spIsWord K) []) (c_greatest_c : C8.Cal P w K mg base 1 "greatest_c" (spGreatC) []) (c_possible_tellings : C8.Cal P w K mg base 1 "possible_tellings" (spTellings K) []) : C8.Cal P w K mg base 4 "wrong_part" (spWrongOk) [] := by
  refine C8.cal0 F b .nil sc_wrong_part (fun vs H Q E h => ?_) (fun cdv A outer s H vs Q E hr h => ?_)
  · obtain ⟨L, rfl, ok, q⟩ := h
    rfl
  · obtain ⟨L, rfl, ok, q⟩ := h
    obtain ⟨a_MENDS, g_MENDS, t_MENDS⟩ := T.c_MENDS
    obtain ⟨a_STOPS, g_STOPS, t_STOPS⟩ := T.c_STOPS
    refine ⟨_, pss_cons (ps_if (pt_not (pt_val (C8.pe_c c_is_loop_power hr (by decide) rfl (pa_cons (pv 0) pa_nil)))) (pss_one (ps_ret pe_str)) (pss_nil))
      (pss_cons (ps_if (pt_not (pt_val (C8.pe_c c_is_within hr (by decide) rfl (pa_cons (pv 1) (pa_cons pe_int (pa_cons (pe_op op_sub (C8.pe_gc rfl T.c_MOST_WEIGHT) pe_int) pa_nil)))))) (pss_one (ps_ret pe_str)) (pss_nil))
      (pss_cons (ps_if (pt_not (pt_val (C8.pe_c c_is_within hr (by decide) rfl (pa_cons (pv 2) (pa_cons pe_int (pa_cons (C8.pe_c c_greatest_c hr (by decide) rfl (pa_cons (pv 0) (pa_cons (pv 1) pa_nil))) pa_nil)))))) (pss_one (ps_ret pe_str)) (pss_nil))
      (pss_cons (ps_if (pt_not (pt_val (C8.pe_c c_is_within hr (by decide) rfl (pa_cons (pv 3) (pa_cons (pe_un un_neg (pv 1)) (pa_cons (pe_op op_add (pv 1) (pv 2)) pa_nil)))))) (pss_one (ps_ret pe_str)) (pss_nil))
      (pss_cons (ps_if (pt_not (pt_val (C8.pe_c c_is_word hr (by decide) rfl (pa_cons (pv 4) (pa_cons (pe_glob (v := .ref a_STOPS) rfl g_STOPS rfl) pa_nil))))) (pss_one (ps_ret pe_str)) (pss_nil))
      (pss_cons (ps_if (pt_not (pt_val (C8.pe_c c_is_word hr (by decide) rfl (pa_cons (pv 5) (pa_cons (C8.pe_c c_possible_tellings hr (by decide) rfl (pa_cons (pv 4) pa_nil)) pa_nil))))) (pss_one (ps_ret pe_str)) (pss_nil))
      (pss_cons (ps_if (pt_not (pt_val (C8.pe_c c_is_word hr (by decide) rfl (pa_cons (pv 6) (pa_cons (pe_glob (v := .ref a_MENDS) rfl g_MENDS rfl) pa_nil))))) (pss_one (ps_ret pe_str)) (pss_nil))
      (pss_one (ps_ret pe_non)))))))), ?_⟩
    have k2 := ok.k2
    have k4 := ok.k4
    have a1 := ok.a1
    have c1 := ok.c1
    have ca := ok.ca
    have m6 := ok.m6
    have d0 := ok.d0
    have d1 := ok.d1
    walk_at "rd"
    rw [decide_eq_true k2, decide_eq_true k4]
    walk_at "rd"
    rw [decide_eq_true a1, decide_eq_true (show L.a ≤ 6 - 1 by omega)]
    walk_at "rd"
    refine ⟨by omega, by omega, by omega, by omega, ?_⟩
    walk_at "rd"
    have hc : L.c ≤ (if 6 - L.a < L.a / (L.k - 1) then 6 - L.a else L.a / (L.k - 1)) := by
      split
      · omega
      · exact Int.le_ediv_of_mul_le (by omega) ca
    rw [decide_eq_true c1, decide_eq_true hc]
    walk_at "rd"
    rw [decide_eq_true d0, decide_eq_true d1]
    walk_at "rd"
    refine ⟨_, a_STOPS, stops, rfl, t_STOPS H, .inl ⟨L.stop, rfl, ?_⟩⟩
    rw [decide_eq_true ok.st]
    walk_at "rd"
    intro p H1 m1 s1
    refine ⟨_, p, _, rfl, s1, .inl ⟨L.told, rfl, ?_⟩⟩
    rw [decide_eq_true ok.told_ok]
    walk_at "rd"
    refine ⟨_, a_MENDS, mendings, rfl, t_MENDS H1, .inl ⟨L.mend, rfl, ?_⟩⟩
    rw [decide_eq_true ok.me]
    walk_at "rd"
    exact q H1 m1
theorem ok_Average___init___ok {f : Addr} {fd : FuncData} {C_Average : Addr} (F : C8.Fun K "__init__" "Average.__init__" s_Average___init__ f fd) (b : Binds K fd ["self", "k", "a", "c", "d", "stop", "told", "mend"] []) (M : Mk K C_Average f) (hm : mg "Average" = some (.ref C_Average)) (T : Txt K mg) (A_ : AvgTxt K C_Average) (c_wrong_part : C8.Cal P w K mg base 4 "wrong_part" (spWrongOk) []) : C8.Mak P w K mg base 5 "Average" C_Average (spAvgInit C_Average) [] := by
  refine C8.mak0 M hm F b .nil sc_Average___init__ (fun vs H Q E h => ?_) (fun cdv A outer s H vs Q E hr h => ?_)
  · obtain ⟨x, dx, L, rfl, ok, hx, q⟩ := h
    rfl
  · obtain ⟨x, dx, L, rfl, ok, hx, q⟩ := h
    refine ⟨_, pss_cons (ps_set (i := 8) sc_Average___init__.nd rfl (Or.inl rfl) (C8.pe_c c_wrong_part hr (by decide) rfl (pa_cons (pv 1) (pa_cons (pv 2) (pa_cons (pv 3) (pa_cons (pv 4) (pa_cons (pv 5) (pa_cons (pv 6) (pa_cons (pv 7) pa_nil)))))))))
      (pss_cons (ps_if (pt_cmpR op_notN (pv 8) pe_non (nomark _)) (pss_one (ps_never)) (pss_nil))
      (pss_cons (ps_fld (pv 0) (pv 1) rfl)
      (pss_cons (ps_fld (pv 0) (pv 2) rfl)
      (pss_cons (ps_fld (pv 0) (pv 3) rfl)
      (pss_cons (ps_fld (pv 0) (pv 4) rfl)
      (pss_cons (ps_fld (pv 0) (pv 5) rfl)
      (pss_cons (ps_fld (pv 0) (pv 6) rfl)
      (pss_one (ps_fld (pv 0) (pv 7) rfl))))))))), ?_⟩
    walk_at "rd"
    refine ⟨ok, fun H1 s1 => ?_⟩
    walk_at "rd"
    have l1 := putF_len "k" (.int L.k) []
    have l2 := putF_len "a" (.int L.a) (putF "k" (.int L.k) [])
    have l3 := putF_len "c" (.int L.c) (putF "a" (.int L.a) (putF "k" (.int L.k) []))
    have l4 := putF_len "d" (.int L.d) (putF "c" (.int L.c) (putF "a" (.int L.a) (putF "k" (.int L.k) [])))
    have l5 := putF_len "stop" (.str L.stop) (putF "d" (.int L.d) (putF "c" (.int L.c) (putF "a" (.int L.a) (putF "k" (.int L.k) []))))
    have l6 := putF_len "told" (.str L.told) (putF "stop" (.str L.stop) (putF "d" (.int L.d) (putF "c" (.int L.c) (putF "a" (.int L.a) (putF "k" (.int L.k) [])))))
    have l0 : ([] : List (Str × V)).length = 0 := rfl
    refine ⟨x, C_Average, dx, _, rfl, s1 _ _ hx, A_.cl, A_.nk, by omega, ?_⟩
    walk_at "rd"
    refine ⟨x, C_Average, dx, _, rfl, upd_same, A_.cl, A_.na, by omega, ?_⟩
    walk_at "rd"
    refine ⟨x, C_Average, dx, _, rfl, upd_same, A_.cl, A_.nc, by omega, ?_⟩
    walk_at "rd"
    refine ⟨x, C_Average, dx, _, rfl, upd_same, A_.cl, A_.nd, by omega, ?_⟩
    walk_at "rd"
    refine ⟨x, C_Average, dx, _, rfl, upd_same, A_.cl, A_.ns, by omega, ?_⟩
    walk_at "rd"
    refine ⟨x, C_Average, dx, _, rfl, upd_same, A_.cl, A_.nt, by omega, ?_⟩
    walk_at "rd"
    refine ⟨x, C_Average, dx, _, rfl, upd_same, A_.cl, A_.nm, by omega, ?_⟩
    exact q _ ⟨dx, upd_same⟩ ((Same.but s1).trans ((but_upd _ _ _).trans ((but_upd _ _ _).trans ((but_upd _ _ _).trans ((but_upd _ _ _).trans ((but_upd _ _ _).trans ((but_upd _ _ _).trans (but_upd _ _ _))))))))

theorem ok_Average___eq__ {f : Addr} {fd : FuncData} {C_Average : Addr} (F : C8.Fun K "__eq__" "Average.__eq__" s_Average___eq__ f fd) (b : Binds K fd ["self", "other"] []) (cl : Cls K C_Average) (me : Meth K C_Average "__eq__" f) (T : Txt K mg) (g_Average : mg "Average" = some (.ref C_Average)) (A_ : AvgTxt K C_Average) (ct_Average : QEq.ClsTxt K C_Average) : C8.Met P w K mg base 1 C_Average "__eq__" (spAvgEq K C_Average) [] := by
  refine C8.met0 cl me F b sc_Average___eq__ (fun vs H Q E h => ?_) (fun cdv A outer s H vs Q E hr h => ?_)
  · obtain ⟨a, L, y, rfl, hA, h⟩ := h
    rfl
  · obtain ⟨a, L, y, rfl, hA, h⟩ := h
    refine ⟨_, pss_one (ps_ret (pe_and (pe_callB (call_isi) rfl T.b_isinstance boot_isinstance (pa_cons (pv 1) (pa_cons (pe_glob (v := .ref C_Average) rfl g_Average rfl) pa_nil))) (pe_and (pe_cmpR op_eq (pe_fld (pv 0) rfl) (pe_fld (pv 1) rfl) (nomark _)) (pe_and (pe_cmpR op_eq (pe_fld (pv 0) rfl) (pe_fld (pv 1) rfl) (nomark _)) (pe_and (pe_cmpR op_eq (pe_fld (pv 0) rfl) (pe_fld (pv 1) rfl) (nomark _)) (pe_and (pe_cmpR op_eq (pe_fld (pv 0) rfl) (pe_fld (pv 1) rfl) (nomark _)) (pe_and (pe_cmpR op_eq (pe_fld (pv 0) rfl) (pe_fld (pv 1) rfl) (nomark _)) (pe_and (pe_cmpR op_eq (pe_fld (pv 0) rfl) (pe_fld (pv 1) rfl) (nomark _)) (pe_one (pe_cmpR op_eq (pe_fld (pv 0) rfl) (pe_fld (pv 1) rfl) (nomark _))))))))))), ?_⟩
    obtain ⟨dx, hp⟩ := hA
    rcases h with ⟨b2, M, rfl, ⟨dy, hB⟩, q⟩ | ⟨t, ty, kt, q⟩
    · walk_at "rd"
      refine ⟨_, _, _, _, true, rfl, .own _, ct_Average.ty hB, QEq.kit_self, ?_⟩
      walk_at "rd"
      have fin : ∀ b : Bool, L.eqB M = b → Q (.bl b) H := fun b e => by rw [← e]; exact q
      unfold Parts.eqB at fin
      refine ⟨a, C_Average, dx, _, _, rfl, hp, A_.cl, A_.nk, avgF_k L, ?_⟩
      walk_at "rd"
      refine ⟨b2, C_Average, dy, _, _, rfl, hB, A_.cl, A_.nk, avgF_k M, ?_⟩
      walk_at "rd"
      rw [dec_int]
      cases e1 : (L.k == M.k) with
      | false => exact fin false (by rw [e1] <;> rfl)
      | true =>
      rw [e1] at fin
      walk_at "rd"
      refine ⟨a, C_Average, dx, _, _, rfl, hp, A_.cl, A_.na, avgF_a L, ?_⟩
      walk_at "rd"
      refine ⟨b2, C_Average, dy, _, _, rfl, hB, A_.cl, A_.na, avgF_a M, ?_⟩
      walk_at "rd"
      rw [dec_int]
      cases e2 : (L.a == M.a) with
      | false => exact fin false (by rw [e2] <;> rfl)
      | true =>
      rw [e2] at fin
      walk_at "rd"
      refine ⟨a, C_Average, dx, _, _, rfl, hp, A_.cl, A_.nc, avgF_c L, ?_⟩
      walk_at "rd"
      refine ⟨b2, C_Average, dy, _, _, rfl, hB, A_.cl, A_.nc, avgF_c M, ?_⟩
      walk_at "rd"
      rw [dec_int]
      cases e3 : (L.c == M.c) with
      | false => exact fin false (by rw [e3] <;> rfl)
      | true =>
      rw [e3] at fin
      walk_at "rd"
      refine ⟨a, C_Average, dx, _, _, rfl, hp, A_.cl, A_.nd, avgF_d L, ?_⟩
      walk_at "rd"
      refine ⟨b2, C_Average, dy, _, _, rfl, hB, A_.cl, A_.nd, avgF_d M, ?_⟩
      walk_at "rd"
      rw [dec_int]
      cases e4 : (L.d == M.d) with
      | false => exact fin false (by rw [e4] <;> rfl)
      | true =>
      rw [e4] at fin
      walk_at "rd"
      refine ⟨a, C_Average, dx, _, _, rfl, hp, A_.cl, A_.ns, avgF_stop L, ?_⟩
      walk_at "rd"
      refine ⟨b2, C_Average, dy, _, _, rfl, hB, A_.cl, A_.ns, avgF_stop M, ?_⟩
      walk_at "rd"
      rw [dec_str]
      cases e5 : (L.stop == M.stop) with
      | false => exact fin false (by rw [e5] <;> rfl)
      | true =>
      rw [e5] at fin
      walk_at "rd"
      refine ⟨a, C_Average, dx, _, _, rfl, hp, A_.cl, A_.nt, avgF_told L, ?_⟩
      walk_at "rd"
      refine ⟨b2, C_Average, dy, _, _, rfl, hB, A_.cl, A_.nt, avgF_told M, ?_⟩
      walk_at "rd"
      rw [dec_str]
      cases e6 : (L.told == M.told) with
      | false => exact fin false (by rw [e6] <;> rfl)
      | true =>
      rw [e6] at fin
      walk_at "rd"
      refine ⟨a, C_Average, dx, _, _, rfl, hp, A_.cl, A_.nm, avgF_mend L, ?_⟩
      walk_at "rd"
      refine ⟨b2, C_Average, dy, _, _, rfl, hB, A_.cl, A_.nm, avgF_mend M, ?_⟩
      walk_at "rd"
      rw [dec_str]
      exact fin _ rfl
    · walk_at "rd"
      refine ⟨_, _, _, _, false, rfl, .own _, ty, kt, ?_⟩
      walk_at "rd"
      exact q

theorem ok_wrong_part_any {f : Addr} {fd : FuncData} (F : C8.Def K mg "wrong_part" s_wrong_part f fd) (b : Binds K fd ["k", "a", "c", "d", "stop", "told", "mend"] []) (T : Txt K mg) (c_is_loop_power : C8.Cal P w K mg base 3 "is_loop_power" (spIsLP K) []) (c_is_within : C8.Cal P w K mg base 2 "is_within" (spIsWithin K) []) (c_is_word : C8.Cal P w K mg base 1 "is_word" (spIsWord K) []) (c_greatest_c : C8.Cal P w K mg base 1 "greatest_c" (spGreatC) []) (c_possible_tellings : C8.Cal P w K mg base 1 "possible_tellings" (spTellings K) []) : C8.Cal P w K mg base 4 "wrong_part" (spWrong K) [] := by
  refine C8.cal0 F b .nil sc_wrong_part (fun vs H Q E h => ?_) (fun cdv A outer s H vs Q E hr h => ?_)
  · obtain ⟨kv, av, cv, dv, sv, tv, mv, rfl, hk, ha, hc, hd, hs, ht, hm, q⟩ := h
    rfl
  · obtain ⟨kv, av, cv, dv, sv, tv, mv, rfl, hk, ha, hc, hd, hs, ht, hm, q⟩ := h
    obtain ⟨a_MENDS, g_MENDS, t_MENDS⟩ := T.c_MENDS
    obtain ⟨a_STOPS, g_STOPS, t_STOPS⟩ := T.c_STOPS
    refine ⟨_, pss_cons (ps_if (pt_not (pt_val (C8.pe_c c_is_loop_power hr (by decide) rfl (pa_cons (pv 0) pa_nil)))) (pss_one (ps_ret pe_str)) (pss_nil))
      (pss_cons (ps_if (pt_not (pt_val (C8.pe_c c_is_within hr (by decide) rfl (pa_cons (pv 1) (pa_cons pe_int (pa_cons (pe_op op_sub (C8.pe_gc rfl T.c_MOST_WEIGHT) pe_int) pa_nil)))))) (pss_one (ps_ret pe_str)) (pss_nil))
      (pss_cons (ps_if (pt_not (pt_val (C8.pe_c c_is_within hr (by decide) rfl (pa_cons (pv 2) (pa_cons pe_int (pa_cons (C8.pe_c c_greatest_c hr (by decide) rfl (pa_cons (pv 0) (pa_cons (pv 1) pa_nil))) pa_nil)))))) (pss_one (ps_ret pe_str)) (pss_nil))
      (pss_cons (ps_if (pt_not (pt_val (C8.pe_c c_is_within hr (by decide) rfl (pa_cons (pv 3) (pa_cons (pe_un un_neg (pv 1)) (pa_cons (pe_op op_add (pv 1) (pv 2)) pa_nil)))))) (pss_one (ps_ret pe_str)) (pss_nil))
      (pss_cons (ps_if (pt_not (pt_val (C8.pe_c c_is_word hr (by decide) rfl (pa_cons (pv 4) (pa_cons (pe_glob (v := .ref a_STOPS) rfl g_STOPS rfl) pa_nil))))) (pss_one (ps_ret pe_str)) (pss_nil))
      (pss_cons (ps_if (pt_not (pt_val (C8.pe_c c_is_word hr (by decide) rfl (pa_cons (pv 5) (pa_cons (C8.pe_c c_possible_tellings hr (by decide) rfl (pa_cons (pv 4) pa_nil)) pa_nil))))) (pss_one (ps_ret pe_str)) (pss_nil))
      (pss_cons (ps_if (pt_not (pt_val (C8.pe_c c_is_word hr (by decide) rfl (pa_cons (pv 6) (pa_cons (pe_glob (v := .ref a_MENDS) rfl g_MENDS rfl) pa_nil))))) (pss_one (ps_ret pe_str)) (pss_nil))
      (pss_one (ps_ret pe_non)))))))), ?_⟩
    walk_at "rd"
    cases hbk : inW kv 2 4 with
    | false =>
      have q1 : Q (.str "k") H := by
        have := q H (Same.refl H)
        unfold faultV at this
        simp only [intOf_int, strOf_str, hbk, cond_true, cond_false] at this
        exact this
      rcases hk.no hbk with ⟨i, rfl, e⟩ | h
      · refine .inl ⟨i, rfl, ?_⟩
        rw [e]
        walk_at "rd"
        exact q1
      · refine .inr ⟨h, ?_⟩
        walk_at "rd"
        exact q1
    | true =>
      obtain ⟨k, rfl, k2, k4⟩ := inW_int hbk
      refine .inl ⟨k, rfl, ?_⟩
      rw [decide_eq_true k2, decide_eq_true k4]
      walk_at "rd"
      cases hba : inW av 1 5 with
      | false =>
        have q1 : Q (.str "a") H := by
          have := q H (Same.refl H)
          unfold faultV at this
          simp only [intOf_int, strOf_str, hbk, hba, cond_true, cond_false] at this
          exact this
        rcases ha.no hba with ⟨i, rfl, e⟩ | h
        · refine .inl ⟨i, rfl, ?_⟩
          rw [show (6 : Int) - 1 = 5 by decide, e]
          walk_at "rd"
          exact q1
        · refine .inr ⟨h, ?_⟩
          walk_at "rd"
          exact q1
      | true =>
        obtain ⟨a, rfl, a1, a5⟩ := inW_int hba
        refine .inl ⟨a, rfl, ?_⟩
        rw [decide_eq_true a1, decide_eq_true (show a ≤ 6 - 1 by omega)]
        walk_at "rd"
        refine ⟨by omega, by omega, by omega, by omega, ?_⟩
        walk_at "rd"
        cases hbc : inW cv 1 (mostC k a) with
        | false =>
          have q1 : Q (.str "c") H := by
            have := q H (Same.refl H)
            unfold faultV at this
            simp only [intOf_int, strOf_str, hbk, hba, hbc, cond_true, cond_false] at this
            exact this
          rcases hc.no hbc with ⟨i, rfl, e⟩ | h
          · refine .inl ⟨i, rfl, ?_⟩
            have e' : (decide (1 ≤ i) && decide (i ≤ if 6 - a < a / (k - 1) then 6 - a else a / (k - 1))) = false := e
            rw [e']
            walk_at "rd"
            exact q1
          · refine .inr ⟨h, ?_⟩
            walk_at "rd"
            exact q1
        | true =>
          obtain ⟨c, rfl, c1, cm⟩ := inW_int hbc
          refine .inl ⟨c, rfl, ?_⟩
          have cm' : c ≤ if 6 - a < a / (k - 1) then 6 - a else a / (k - 1) := cm
          rw [decide_eq_true c1, decide_eq_true cm']
          walk_at "rd"
          cases hbd : inW dv (-a) (a + c) with
          | false =>
            have q1 : Q (.str "d") H := by
              have := q H (Same.refl H)
              unfold faultV at this
              simp only [intOf_int, strOf_str, hbk, hba, hbc, hbd, cond_true, cond_false] at this
              exact this
            rcases hd.no hbd with ⟨i, rfl, e⟩ | h
            · refine .inl ⟨i, rfl, ?_⟩
              rw [e]
              walk_at "rd"
              exact q1
            · refine .inr ⟨h, ?_⟩
              walk_at "rd"
              exact q1
          | true =>
            obtain ⟨d, rfl, d0, d1⟩ := inW_int hbd
            refine .inl ⟨d, rfl, ?_⟩
            rw [decide_eq_true d0, decide_eq_true d1]
            walk_at "rd"
            refine ⟨_, a_STOPS, stops, rfl, t_STOPS H, ?_⟩
            cases hbs : isWd sv stops with
            | false =>
              have q1 : Q (.str "stop") H := by
                have := q H (Same.refl H)
                unfold faultV at this
                simp only [intOf_int, strOf_str, hbk, hba, hbc, hbd, hbs, cond_true, cond_false] at this
                exact this
              rcases hs.noW hbs with ⟨s', rfl, e⟩ | h
              · refine .inl ⟨s', rfl, ?_⟩
                rw [e]
                walk_at "rd"
                exact q1
              · refine .inr ⟨h, ?_⟩
                walk_at "rd"
                exact q1
            | true =>
              obtain ⟨st, rfl, hst⟩ := isWd_str hbs
              refine .inl ⟨st, rfl, ?_⟩
              rw [decide_eq_true hst]
              walk_at "rd"
              intro p H1 m1 s1
              refine ⟨_, p, _, rfl, s1, ?_⟩
              cases hbt : isWd tv (tellingsOf st) with
              | false =>
                have q1 : Q (.str "told") H1 := by
                  have := q H1 m1
                  unfold faultV at this
                  simp only [intOf_int, strOf_str, hbk, hba, hbc, hbd, hbs, hbt, cond_true, cond_false] at this
                  exact this
                rcases (ht H1 m1).noW hbt with ⟨s', rfl, e⟩ | h
                · refine .inl ⟨s', rfl, ?_⟩
                  rw [e]
                  walk_at "rd"
                  exact q1
                · refine .inr ⟨h, ?_⟩
                  walk_at "rd"
                  exact q1
              | true =>
                obtain ⟨to, rfl, hto⟩ := isWd_str hbt
                refine .inl ⟨to, rfl, ?_⟩
                rw [decide_eq_true hto]
                walk_at "rd"
                refine ⟨_, a_MENDS, mendings, rfl, t_MENDS H1, ?_⟩
                cases hbm : isWd mv mendings with
                | false =>
                  have q1 : Q (.str "mend") H1 := by
                    have := q H1 m1
                    unfold faultV at this
                    simp only [intOf_int, strOf_str, hbk, hba, hbc, hbd, hbs, hbt, hbm, cond_true, cond_false] at this
                    exact this
                  rcases (hm H1 m1).noW hbm with ⟨s', rfl, e⟩ | h
                  · refine .inl ⟨s', rfl, ?_⟩
                    rw [e]
                    walk_at "rd"
                    exact q1
                  · refine .inr ⟨h, ?_⟩
                    walk_at "rd"
                    exact q1
                | true =>
                  obtain ⟨me, rfl, hme⟩ := isWd_str hbm
                  refine .inl ⟨me, rfl, ?_⟩
                  rw [decide_eq_true hme]
                  walk_at "rd"
                  have := q H1 m1
                  unfold faultV at this
                  simp only [intOf_int, strOf_str, hbk, hba, hbc, hbd, hbs, hbt, hbm, cond_true, cond_false] at this
                  exact this
theorem ok_Average___init___x {f : Addr} {fd : FuncData} {C_Average : Addr} {C_BadLoop : Addr} (F : C8.Fun K "__init__" "Average.__init__" s_Average___init__ f fd) (b : Binds K fd ["self", "k", "a", "c", "d", "stop", "told", "mend"] []) (M : Mk K C_Average f) (hm : mg "Average" = some (.ref C_Average)) (T : Txt K mg) {fE_BadLoop : Addr} (e_BadLoop : PySem.QErr.ErrTxt P K mg "BadLoop" "word" C_BadLoop fE_BadLoop) (A_ : AvgTxt K C_Average) (c_wrong_part : C8.Cal P w K mg base 4 "wrong_part" (spWrong K) []) : QX.Mak P w K mg base 5 "Average" C_Average (spAvgX K C_Average C_BadLoop) [] := by
  refine QX.makx M hm F b .nil sc_Average___init__ (fun vs H Q E h => ?_) (fun cdv A outer s H vs Q E hr h => ?_)
  · obtain ⟨x, dx, kv, av, cv, dv, sv, tv, mv, rfl, hx, hk, ha, hc, hd, hs, ht, hm, qn, qw⟩ := h
    rfl
  · obtain ⟨x, dx, kv, av, cv, dv, sv, tv, mv, rfl, hx, hk, ha, hc, hd, hs, ht, hm, qn, qw⟩ := h
    refine ⟨_, pss_cons (ps_set (i := 8) sc_Average___init__.nd rfl (Or.inl rfl) (C8.pe_c c_wrong_part hr (by decide) rfl (pa_cons (pv 1) (pa_cons (pv 2) (pa_cons (pv 3) (pa_cons (pv 4) (pa_cons (pv 5) (pa_cons (pv 6) (pa_cons (pv 7) pa_nil)))))))))
      (pss_cons (ps_if (pt_cmpR op_notN (pv 8) pe_non (nomark _)) (pss_one (ps_raiseErr (k := 0) rfl e_BadLoop (Or.inr (Or.inl rfl)) (hr.mono (by decide)) (takes_of rfl rfl rfl rfl) (pa_cons (pv 8) pa_nil))) (pss_nil))
      (pss_cons (ps_fld (pv 0) (pv 1) rfl)
      (pss_cons (ps_fld (pv 0) (pv 2) rfl)
      (pss_cons (ps_fld (pv 0) (pv 3) rfl)
      (pss_cons (ps_fld (pv 0) (pv 4) rfl)
      (pss_cons (ps_fld (pv 0) (pv 5) rfl)
      (pss_cons (ps_fld (pv 0) (pv 6) rfl)
      (pss_one (ps_fld (pv 0) (pv 7) rfl))))))))), ?_⟩
    walk_at "rd"
    refine ⟨kv, av, cv, dv, sv, tv, mv, rfl, hk, ha, hc, hd, hs, ht, hm, fun H1 m1 => ?_⟩
    cases hf : faultV kv av cv dv sv tv mv with
    | none =>
      have l0 : ([] : List (Str × V)).length = 0 := rfl
      have l1 := putF_len "k" kv ([])
      have l2 := putF_len "a" av (putF "k" kv ([]))
      have l3 := putF_len "c" cv (putF "a" av (putF "k" kv ([])))
      have l4 := putF_len "d" dv (putF "c" cv (putF "a" av (putF "k" kv ([]))))
      have l5 := putF_len "stop" sv (putF "d" dv (putF "c" cv (putF "a" av (putF "k" kv ([])))))
      have l6 := putF_len "told" tv (putF "stop" sv (putF "d" dv (putF "c" cv (putF "a" av (putF "k" kv ([]))))))
      have l7 := putF_len "mend" mv (putF "told" tv (putF "stop" sv (putF "d" dv (putF "c" cv (putF "a" av (putF "k" kv ([])))))))
      walk_at "rd"
      refine ⟨x, C_Average, dx, _, rfl, m1 _ _ hx, A_.cl, A_.nk, by omega, ?_⟩
      walk_at "rd"
      refine ⟨x, C_Average, dx, _, rfl, upd_same, A_.cl, A_.na, by omega, ?_⟩
      walk_at "rd"
      refine ⟨x, C_Average, dx, _, rfl, upd_same, A_.cl, A_.nc, by omega, ?_⟩
      walk_at "rd"
      refine ⟨x, C_Average, dx, _, rfl, upd_same, A_.cl, A_.nd, by omega, ?_⟩
      walk_at "rd"
      refine ⟨x, C_Average, dx, _, rfl, upd_same, A_.cl, A_.ns, by omega, ?_⟩
      walk_at "rd"
      refine ⟨x, C_Average, dx, _, rfl, upd_same, A_.cl, A_.nt, by omega, ?_⟩
      walk_at "rd"
      refine ⟨x, C_Average, dx, _, rfl, upd_same, A_.cl, A_.nm, by omega, ?_⟩
      exact qn hf _ upd_same ((Same.but m1).trans ((but_upd _ _ _).trans ((but_upd _ _ _).trans ((but_upd _ _ _).trans ((but_upd _ _ _).trans ((but_upd _ _ _).trans ((but_upd _ _ _).trans (but_upd _ _ _))))))))
    | some w' =>
      walk_at "rd"
      exact fun dd nd => qw w' hf _ dd (m1.trans (same_new nd _)) upd_same
theorem ok_Lloop_x {f : Addr} {fd : FuncData} {C_Average : Addr} {C_BadLoop : Addr} (F : C8.Def K mg "_law_loop" s_Lloop f fd) (b : Binds K fd ["_law_parts_here"] []) (T : Txt K mg) (m_Average : QX.Mak P w K mg base 5 "Average" C_Average (spAvgX K C_Average C_BadLoop) []) : QX.Cal P w K mg base 7 "_law_loop" (spLoopX C_Average C_BadLoop) := by
  refine QX.calx F b sc_Lloop (fun vs H Q E h => ?_) (fun cdv A outer s H vs Q E hr h => ?_)
  · obtain ⟨p, kv, av, cv, dv, sv, tv, mv, rfl, hp, hv, qn, qw⟩ := h
    rfl
  · obtain ⟨p, kv, av, cv, dv, sv, tv, mv, rfl, hp, hv, qn, qw⟩ := h
    refine ⟨_, pss_one (ps_ret (QX.pe_mkx m_Average (takes_of rfl rfl rfl rfl) hr (by decide) rfl (pa_cons (pe_ix ix_tup (pv 0) pe_int (fun _ _ => rfl)) (pa_cons (pe_ix ix_tup (pv 0) pe_int (fun _ _ => rfl)) (pa_cons (pe_ix ix_tup (pv 0) pe_int (fun _ _ => rfl)) (pa_cons (pe_ix ix_tup (pv 0) pe_int (fun _ _ => rfl)) (pa_cons (pe_ix ix_tup (pv 0) pe_int (fun _ _ => rfl)) (pa_cons (pe_ix ix_tup (pv 0) pe_int (fun _ _ => rfl)) (pa_cons (pe_ix ix_tup (pv 0) pe_int (fun _ _ => rfl)) pa_nil))))))))), ?_⟩
    have hS : SqT K H p [kv, av, cv, dv, sv, tv, mv] := SqT.of hp
    walk_at "rd"
    refine ⟨p, _, _, _, rfl, rfl, hS, atI_nat (j := 0) rfl, ?_⟩
    walk_at "rd"
    refine ⟨p, _, _, _, rfl, rfl, hS, atI_nat (j := 1) rfl, ?_⟩
    walk_at "rd"
    refine ⟨p, _, _, _, rfl, rfl, hS, atI_nat (j := 2) rfl, ?_⟩
    walk_at "rd"
    refine ⟨p, _, _, _, rfl, rfl, hS, atI_nat (j := 3) rfl, ?_⟩
    walk_at "rd"
    refine ⟨p, _, _, _, rfl, rfl, hS, atI_nat (j := 4) rfl, ?_⟩
    walk_at "rd"
    refine ⟨p, _, _, _, rfl, rfl, hS, atI_nat (j := 5) rfl, ?_⟩
    walk_at "rd"
    refine ⟨p, _, _, _, rfl, rfl, hS, atI_nat (j := 6) rfl, ?_⟩
    walk_at "rd"
    intro x dx nx nd ne
    have sm : Same H (upd (upd H dx (.own x)) x (.ins C_Average dx [])) := fun b o e => by rw [upd_ne (ne_of_none e nx), upd_ne (ne_of_none e nd)]; exact e
    have an : ∀ v ∈ [kv, av, cv, dv, sv, tv, mv], ∀ H', Same (upd (upd H dx (.own x)) x (.ins C_Average dx [])) H' → AnyV K H' v := fun v hm H' m' => ((hv v hm).same (sm.trans m')).any
    refine ⟨x, dx, kv, av, cv, dv, sv, tv, mv, rfl, upd_same, an _ (by simp) _ (Same.refl _), an _ (by simp) _ (Same.refl _), an _ (by simp) _ (Same.refl _), an _ (by simp) _ (Same.refl _), an _ (by simp) _ (Same.refl _), an _ (by simp), an _ (by simp), fun hf H' e b => ⟨rfl, ?_⟩, fun w' hf H' dd m' e => ?_⟩
    · exact qn hf x dx H' nx e (made_same nx nd b)
    · exact qw w' hf H' dd (sm.trans m') e

theorem ok_Lloop {f : Addr} {fd : FuncData} {C_Average : Addr} (F : C8.Def K mg "_law_loop" s_Lloop f fd) (b : Binds K fd ["_law_parts_here"] []) (T : Txt K mg) (m_Average : C8.Mak P w K mg base 5 "Average" C_Average (spAvgInit C_Average) []) : C8.Cal P w K mg base 7 "_law_loop" (spLoop C_Average) [] := by
  refine C8.cal0 F b .nil sc_Lloop (fun vs H Q E h => ?_) (fun cdv A outer s H vs Q E hr h => ?_)
  · obtain ⟨p, L, rfl, hp, ok, q⟩ := h
    rfl
  · obtain ⟨p, L, rfl, hp, ok, q⟩ := h
    refine ⟨_, pss_one (ps_ret (C8.pe_mk m_Average hr (by decide) rfl (pa_cons (pe_ix ix_tup (pv 0) pe_int (fun _ _ => rfl)) (pa_cons (pe_ix ix_tup (pv 0) pe_int (fun _ _ => rfl)) (pa_cons (pe_ix ix_tup (pv 0) pe_int (fun _ _ => rfl)) (pa_cons (pe_ix ix_tup (pv 0) pe_int (fun _ _ => rfl)) (pa_cons (pe_ix ix_tup (pv 0) pe_int (fun _ _ => rfl)) (pa_cons (pe_ix ix_tup (pv 0) pe_int (fun _ _ => rfl)) (pa_cons (pe_ix ix_tup (pv 0) pe_int (fun _ _ => rfl)) pa_nil))))))))), ?_⟩
    have hS : SqT K H p L.vs := SqT.of hp
    walk_at "rd"
    refine ⟨p, _, _, _, rfl, rfl, hS, atI_nat (j := 0) rfl, ?_⟩
    walk_at "rd"
    refine ⟨p, _, _, _, rfl, rfl, hS, atI_nat (j := 1) rfl, ?_⟩
    walk_at "rd"
    refine ⟨p, _, _, _, rfl, rfl, hS, atI_nat (j := 2) rfl, ?_⟩
    walk_at "rd"
    refine ⟨p, _, _, _, rfl, rfl, hS, atI_nat (j := 3) rfl, ?_⟩
    walk_at "rd"
    refine ⟨p, _, _, _, rfl, rfl, hS, atI_nat (j := 4) rfl, ?_⟩
    walk_at "rd"
    refine ⟨p, _, _, _, rfl, rfl, hS, atI_nat (j := 5) rfl, ?_⟩
    walk_at "rd"
    refine ⟨p, _, _, _, rfl, rfl, hS, atI_nat (j := 6) rfl, ?_⟩
    walk_at "rd"
    intro lp dx nlp ndx _
    refine ⟨lp, dx, L, rfl, ok, upd_same, fun H3 av3 b3 => ⟨rfl, ?_⟩⟩
    exact q lp H3 nlp (made_same nlp ndx b3) av3

theorem ok_require_field_x {f : Addr} {fd : FuncData} {C_BadField : Addr} (F : C8.Def K mg "require_field" s_require_field f fd) (b : Binds K fd ["field"] []) (T : Txt K mg) {fE_BadField : Addr} (e_BadField : PySem.QErr.ErrTxt P K mg "BadField" "field" C_BadField fE_BadField) (c_is_word : C8.Cal P w K mg base 1 "is_word" (spIsWord K) []) : QX.Cal P w K mg base 2 "require_field" (spReqField K C_BadField) := by
  refine QX.calx F b sc_require_field (fun vs H Q E h => ?_) (fun cdv A outer s H vs Q E hr h => ?_)
  · obtain ⟨x, rfl, h⟩ := h
    rfl
  · obtain ⟨x, rfl, h⟩ := h
    obtain ⟨a_FIELDS, g_FIELDS, t_FIELDS⟩ := T.c_FIELDS
    refine ⟨_, pss_one (ps_if (pt_not (pt_val (C8.pe_c c_is_word hr (by decide) rfl (pa_cons (pv 0) (pa_cons (pe_glob (v := .ref a_FIELDS) rfl g_FIELDS rfl) pa_nil))))) (pss_one (ps_raiseErr (k := 0) rfl e_BadField (Or.inr (Or.inr rfl)) (hr.mono (by decide)) (takes_of rfl rfl rfl rfl) (pa_cons (pv 0) pa_nil))) (pss_nil)), ?_⟩
    walk_at "rd"
    refine ⟨_, a_FIELDS, fields, rfl, t_FIELDS H, ?_⟩
    rcases h with ⟨s, rfl, hs, q⟩ | ⟨ha, hw, q⟩
    · refine .inl ⟨s, rfl, ?_⟩
      rw [decide_eq_true hs]
      walk_at "rd"
      exact q
    · rcases ha.noW hw with ⟨s', rfl, e⟩ | h
      · refine .inl ⟨s', rfl, ?_⟩
        rw [e]
        walk_at "rd"
        exact q
      · refine .inr ⟨h, ?_⟩
        walk_at "rd"
        exact q
theorem ok_changed_x {f : Addr} {fd : FuncData} {C_Average : Addr} {C_BadField : Addr} {C_BadLoop : Addr} (F : C8.Def K mg "changed" s_changed f fd) (b : Binds K fd ["loop", "field", "value"] []) (T : Txt K mg) (A_ : AvgTxt K C_Average) (c_require_field : QX.Cal P w K mg base 2 "require_field" (spReqField K C_BadField)) (m_Average : QX.Mak P w K mg base 5 "Average" C_Average (spAvgX K C_Average C_BadLoop) []) : QX.Cal P w K mg base 7 "changed" (spChanged K C_Average C_BadField C_BadLoop) := by
  refine QX.calx F b sc_changed (fun vs H Q E h => ?_) (fun cdv A outer s H vs Q E hr h => ?_)
  · obtain ⟨p, L, fv, v, rfl, hA, ok, h⟩ := h
    rfl
  · obtain ⟨p, L, fv, v, rfl, hA, ok, h⟩ := h
    refine ⟨_, pss_cons (ps_expr (QX.pe_cx c_require_field (takes_of rfl rfl rfl rfl) hr (by decide) rfl (pa_cons (pv 1) pa_nil)))
      (pss_cons (ps_set (i := 3) sc_changed.nd rfl (Or.inl rfl) (pe_disp (pps_cons pe_str (pe_fld (pv 0) rfl) (pps_cons pe_str (pe_fld (pv 0) rfl) (pps_cons pe_str (pe_fld (pv 0) rfl) (pps_cons pe_str (pe_fld (pv 0) rfl) (pps_cons pe_str (pe_fld (pv 0) rfl) (pps_cons pe_str (pe_fld (pv 0) rfl) (pps_nil))))))) (by rfl) (by rfl) (fun z => by cases z) (by decide)))
      (pss_cons (ps_dput (hu_of hr) (pv 3) (pv 1) (pv 2) rfl)
      (pss_one (ps_ret (QX.pe_mkx m_Average (takes_of rfl rfl rfl rfl) hr (by decide) rfl (pa_cons (pe_fld (pv 0) rfl) (pa_cons (pe_dget (hu_of hr) (pv 3) pe_str (fun _ _ => rfl)) (pa_cons (pe_dget (hu_of hr) (pv 3) pe_str (fun _ _ => rfl)) (pa_cons (pe_dget (hu_of hr) (pv 3) pe_str (fun _ _ => rfl)) (pa_cons (pe_dget (hu_of hr) (pv 3) pe_str (fun _ _ => rfl)) (pa_cons (pe_dget (hu_of hr) (pv 3) pe_str (fun _ _ => rfl)) (pa_cons (pe_dget (hu_of hr) (pv 3) pe_str (fun _ _ => rfl)) pa_nil)))))))))))), ?_⟩
    obtain ⟨dx, hp⟩ := id hA
    walk_at "rd"
    rcases h with ⟨i, s, rfl, hs, hv, qn, qw⟩ | ⟨ha, hw, q⟩
    case' inr => exact .inr ⟨ha, hw, q⟩
    refine .inl ⟨s, rfl, fields_mem hs, ?_⟩
    walk_at "rd"
    intro D hD
    have mD := same_new hD (.dK [])
    have pD := mD _ _ hp
    have iD : upd H D (.dK []) D = some (.dK []) := upd_same
    generalize upd H D (.dK []) = H1 at *
    walk_at "rd"
    refine ⟨p, C_Average, dx, _, _, rfl, pD, A_.cl, A_.na, avgF_a L, ?_⟩
    walk_at "rd"
    refine ⟨p, C_Average, dx, _, _, rfl, pD, A_.cl, A_.nc, avgF_c L, ?_⟩
    walk_at "rd"
    refine ⟨p, C_Average, dx, _, _, rfl, pD, A_.cl, A_.nd, avgF_d L, ?_⟩
    walk_at "rd"
    refine ⟨p, C_Average, dx, _, _, rfl, pD, A_.cl, A_.ns, avgF_stop L, ?_⟩
    walk_at "rd"
    refine ⟨p, C_Average, dx, _, _, rfl, pD, A_.cl, A_.nt, avgF_told L, ?_⟩
    walk_at "rd"
    refine ⟨p, C_Average, dx, _, _, rfl, pD, A_.cl, A_.nm, avgF_mend L, ?_⟩
    walk_at "rd"
    refine ⟨iD, kvsL L, rfl, (by show 6 ≤ 15; decide), ?_⟩
    refine swap (fun G => Same H G ∧ G D = some (.dK (dictL L))) ⟨Same.keep mD hD (but_upd _ _ _), upd_same⟩ ?_
    rintro H2 ⟨m2, i2⟩
    clear iD pD mD
    walk_at "rd"
    refine ⟨D, _, rfl, DPut.k (k := .inr s) i2 (Nat.lt_of_le_of_lt (dictL_len L) (by show 6 < sizeLine; decide)), ?_⟩
    refine swap (fun G => Same H G ∧ G D = some (.dK (putK (dictL L) (.inr s) v))) ⟨Same.keep m2 hD (but_upd _ _ _), upd_same⟩ ?_
    rintro H3 ⟨m3, i3⟩
    clear i2 m2
    obtain ⟨g1, g2, g3, g4, g5, g6⟩ := putL_get L s v
    have gd : ∀ (u : Str) (x : V), valV (putK (dictL L) (.inr s) v) (.inr u) = some x → DGet H3 D (.str u) (some x) := fun u x e => by
      rw [← e]
      exact DGet.k (k := .inr u) i3
    walk_at "rd"
    refine ⟨p, C_Average, dx, _, _, rfl, m3 _ _ hp, A_.cl, A_.nk, avgF_k L, ?_⟩
    walk_at "rd"
    refine ⟨D, _, rfl, gd _ _ g1, ?_⟩
    walk_at "rd"
    refine ⟨D, _, rfl, gd _ _ g2, ?_⟩
    walk_at "rd"
    refine ⟨D, _, rfl, gd _ _ g3, ?_⟩
    walk_at "rd"
    refine ⟨D, _, rfl, gd _ _ g4, ?_⟩
    walk_at "rd"
    refine ⟨D, _, rfl, gd _ _ g5, ?_⟩
    walk_at "rd"
    refine ⟨D, _, rfl, gd _ _ g6, ?_⟩
    walk_at "rd"
    intro x dz nx nd ne
    have ef := pickL_eq L v hs
    rw [← ef] at qn qw
    have pall : ∀ u ∈ pickL L s v, PartV H u := by
      rw [ef]
      intro u hu
      rcases List.mem_or_eq_of_mem_set hu with hu | hu
      · exact ok.part u hu
      · rw [hu]
        exact hv
    have sm : Same H3 (upd (upd H3 dz (.own x)) x (.ins C_Average dz [])) := fun b o e => by rw [upd_ne (ne_of_none e nx), upd_ne (ne_of_none e nd)]; exact e
    have an : ∀ u ∈ pickL L s v, ∀ H', Same (upd (upd H3 dz (.own x)) x (.ins C_Average dz [])) H' → AnyV K H' u := fun u hm H' m' => ((pall u hm).same (m3.trans (sm.trans m'))).any
    refine ⟨x, dz, _, _, _, _, _, _, _, rfl, upd_same, an _ ?_ _ (Same.refl _), an _ ?_ _ (Same.refl _), an _ ?_ _ (Same.refl _), an _ ?_ _ (Same.refl _), an _ ?_ _ (Same.refl _), an _ ?_, an _ ?_, fun hf H' e b => ⟨rfl, ?_⟩, fun w' hf H' dd m' e => ?_⟩
    case refine_8 => exact qn hf x dz H' (m3.free nx) e (m3.trans (made_same nx nd b))
    case refine_9 => exact qw w' hf H' dd (m3.trans (sm.trans m')) e
    all_goals (unfold pickL; simp)

theorem ok_Lrefused_part {f : Addr} {fd : FuncData} {C_Average : Addr} {C_BadLoop : Addr} (F : C8.Def K mg "_law_refused_part" s_Lrefused_part f fd) (b : Binds K fd ["_law_parts_here"] []) (T : Txt K mg) {fE_BadLoop : Addr} (e_BadLoop : PySem.QErr.ErrTxt P K mg "BadLoop" "word" C_BadLoop fE_BadLoop) (c_Lloop : QX.Cal P w K mg base 7 "_law_loop" (spLoopX C_Average C_BadLoop)) : C8.Cal P w K mg base 8 "_law_refused_part" (spRefPart) [] := by
  refine C8.cal0 F b .nil sc_Lrefused_part (fun vs H Q E h => ?_) (fun cdv A outer s H vs Q E hr h => ?_)
  · obtain ⟨p, kv, av, cv, dv, sv, tv, mv, rfl, hp, hv, q⟩ := h
    rfl
  · obtain ⟨p, kv, av, cv, dv, sv, tv, mv, rfl, hp, hv, q⟩ := h
    refine ⟨_, pss_cons (ps_try_clauses rfl rfl sc_Lrefused_part.nd takes0 (fun W pn xe tk _ => pss_one (ps_expr (QX.pe_cx c_Lloop tk hr (by decide) rfl (pa_cons (pv 0) pa_nil)))) (Clauses.one (i := 1) rfl rfl ⟨rfl, by decide, Or.inl e_BadLoop.gC⟩ (fun a oe cls d pn hz hf => pss_one (ps_ret (pe_xf ⟨e_BadLoop.ga, e_BadLoop.gg, e_BadLoop.exC, e_BadLoop.hdC⟩ e_BadLoop.noN hz hf (pv 1)))) (Clauses.done)))
      (pss_one (ps_ret pe_non)), ?_⟩
    walk_at "rd"
    refine ⟨p, kv, av, cv, dv, sv, tv, mv, rfl, hp, hv, fun hf x dx H' nx e m => ?_, fun w' hf H' dd m e => ⟨true, e_BadLoop.te, fun _ a na => ?_, fun z => by cases z⟩⟩
    · walk_at "rd"
      have q1 := q H' m
      rw [hf] at q1
      exact q1
    · walk_at "rd"
      refine ⟨dd, _, _, rfl, e, rfl, ?_⟩
      have q1 := q H' m
      rw [hf] at q1
      exact q1
theorem ok_Ltried {f : Addr} {fd : FuncData} {C_Average : Addr} {C_BadField : Addr} {C_BadLoop : Addr} (F : C8.Def K mg "_law_tried" s_Ltried f fd) (b : Binds K fd ["_law_loop_here", "_law_field", "_law_value"] []) (T : Txt K mg) {fE_BadLoop fE_BadField : Addr} (e_BadLoop : PySem.QErr.ErrTxt P K mg "BadLoop" "word" C_BadLoop fE_BadLoop) (e_BadField : PySem.QErr.ErrTxt P K mg "BadField" "field" C_BadField fE_BadField) (x_BadLoop_BadField : PySem.W.exmOne K (.ref C_BadLoop) (.ref C_BadField) = some false) (c_changed : QX.Cal P w K mg base 7 "changed" (spChanged K C_Average C_BadField C_BadLoop)) : C8.Cal P w K mg base 8 "_law_tried" (spTried K C_Average) [] := by
  refine C8.cal0 F b .nil sc_Ltried (fun vs H Q E h => ?_) (fun cdv A outer s H vs Q E hr h => ?_)
  · obtain ⟨p, L, fv, v, rfl, hA, ok, h⟩ := h
    rfl
  · obtain ⟨p, L, fv, v, rfl, hA, ok, h⟩ := h
    refine ⟨_, pss_one (ps_try_clauses rfl rfl sc_Ltried.nd takes0 (fun W pn xe tk _ => pss_one (ps_ret (pe_tup (pa_cons pe_str (pa_cons (QX.pe_cx c_changed tk hr (by decide) rfl (pa_cons (pv 0) (pa_cons (pv 1) (pa_cons (pv 2) pa_nil)))) pa_nil))))) (Clauses.one (i := 3) rfl rfl ⟨rfl, by decide, Or.inl e_BadField.gC⟩ (fun a oe cls d pn hz hf => pss_one (ps_ret (pe_tup (pa_cons pe_str (pa_cons (pe_xf ⟨e_BadField.ga, e_BadField.gg, e_BadField.exC, e_BadField.hdC⟩ e_BadField.noN hz hf (pv 3)) pa_nil))))) (Clauses.one (i := 3) rfl rfl ⟨rfl, by decide, Or.inl e_BadLoop.gC⟩ (fun a oe cls d pn hz hf => pss_one (ps_ret (pe_tup (pa_cons pe_str (pa_cons (pe_xf ⟨e_BadLoop.ga, e_BadLoop.gg, e_BadLoop.exC, e_BadLoop.hdC⟩ e_BadLoop.noN hz hf (pv 3)) pa_nil))))) (Clauses.done)))), ?_⟩
    walk_at "rd"
    refine ⟨p, L, fv, v, rfl, hA, ok, ?_⟩
    rcases h with ⟨i, s, rfl, hs, hv, qn, qw⟩ | ⟨ha, hw, q⟩
    · refine .inl ⟨i, s, rfl, hs, hv, fun hf x dx H' nx e m => ?_, fun w' hf H' dd m e => ⟨false, x_BadLoop_BadField, fun z => (by cases z), fun _ => ⟨true, e_BadLoop.te, fun _ a na => ?_, fun z => by cases z⟩⟩⟩
      · exact ⟨(by show 2 ≤ sizeLine; decide), fun t nt => qn hf t x dx _ (m.trans (same_new nt _)) (same_new nt _ _ _ e) upd_same⟩
      · walk_at "rd"
        refine ⟨dd, _, _, rfl, e, rfl, ?_⟩
        exact ⟨(by show 2 ≤ sizeLine; decide), fun t nt => qw w' hf t _ (m.trans (same_new nt _)) upd_same⟩
    · refine .inr ⟨ha, hw, fun d hd => ⟨true, e_BadField.te, fun _ a na => ?_, fun z => by cases z⟩⟩
      walk_at "rd"
      refine ⟨d, _, _, rfl, upd_same, rfl, ?_⟩
      exact ⟨(by show 2 ≤ sizeLine; decide), fun t ht => q t _ ((same_new hd _).trans (same_new ht _)) upd_same⟩
theorem ok_law {f : Addr} {fd : FuncData} {C_Average : Addr} (F : C8.Fun K "law" "law" s_law f fd) (T : Txt K mg) (ne_Average : QEq.NeTxt K C_Average) (ct_Average : QEq.ClsTxt K C_Average) (c_Lstream : C8.Cal P w K mg base 1 "_law_stream" (spStream K) []) (c_Lparts : C8.Cal P w K mg base 3 "_law_parts" (spParts) []) (c_Lloop : C8.Cal P w K mg base 7 "_law_loop" (spLoop C_Average) []) (c_Lrefused_part : C8.Cal P w K mg base 8 "_law_refused_part" (spRefPart) []) (c_Ltried : C8.Cal P w K mg base 8 "_law_tried" (spTried K C_Average) []) (k___eq__ : C8.Met P w K mg base 1 C_Average "__eq__" (spAvgEq K C_Average) []) : FnOk P w K mg base C8.CX0 9 f fd ["_law_script"] (spLaw K) := by
  refine C8.fn0 F sc_law (fun vs H Q E h => ?_) (fun cdv A outer s H vs Q E hr h => ?_)
  · obtain ⟨a, ns, rfl, hS, h63, q⟩ := h
    rfl
  · obtain ⟨a, ns, rfl, hS, h63, q⟩ := h
    refine ⟨_, pss_cons (ps_set (i := 1) sc_law.nd rfl (Or.inl rfl) (pe_lst (pa_cons pe_str (pa_cons pe_str (pa_cons pe_str (pa_cons pe_str (pa_cons pe_str (pa_cons pe_str pa_nil))))))))
      (pss_cons (ps_set (i := 2) sc_law.nd rfl (Or.inl rfl) (pe_op op_cat (pe_listRg rfl rfl T.b_list (prg_2 rfl T.b_range (pe_un un_neg pe_int) pe_int)) (pe_lst (pa_cons pe_str (pa_cons pe_str (pa_cons pe_str (pa_cons pe_str (pa_cons pe_str (pa_cons pe_str (pa_cons pe_str pa_nil))))))))))
      (pss_cons (ps_expr (pe_bm PySem.F.plainAttrs_list PySem.F.slot_list_extend PySem.F.type_list_extend mt_extend (pv 2) (pa_cons (pe_lst (pa_cons pe_str (pa_cons pe_str (pa_cons pe_str (pa_cons pe_str (pa_cons pe_str (pa_cons pe_str (pa_cons pe_str (pa_cons pe_str (pa_cons pe_non (pa_cons pe_bl (pa_cons pe_str (pa_cons (pe_tup (pa_cons pe_int pa_nil)) pa_nil))))))))))))) pa_nil)))
      (pss_cons (ps_for PassesOwn.never rfl (pi_range1 rfl T.b_range (pa_cons pe_int pa_nil)) (pg_name (i := 3) sc_law.nd rfl (Or.inl rfl)) (pss_cons (ps_set (i := 4) sc_law.nd rfl (Or.inl rfl) (C8.pe_c c_Lstream hr (by decide) rfl (pa_cons (pv 0) (pa_cons (pv 3) pa_nil))))
        (pss_cons (ps_set (i := 5) sc_law.nd rfl (Or.inl rfl) (C8.pe_c c_Lparts hr (by decide) rfl (pa_cons (pv 4) pa_nil)))
        (pss_cons (ps_set (i := 6) sc_law.nd rfl (Or.inl rfl) (C8.pe_c c_Lloop hr (by decide) rfl (pa_cons (pv 5) pa_nil)))
        (pss_cons (ps_for PassesOwn.never rfl (pi_enumA rfl T.b_enumerate (pa_cons (pv 1) pa_nil)) (pg_tup rfl (pgs_cons (pg_name (i := 7) sc_law.nd rfl (Or.inl rfl)) (pgs_cons (pg_name (i := 8) sc_law.nd rfl (Or.inl rfl)) (pgs_nil)))) (pss_one (ps_for PassesOwn.never rfl (pi_list (pv 2)) (pg_name (i := 9) sc_law.nd rfl (Or.inl rfl)) (pss_cons (ps_set (i := 10) sc_law.nd rfl (Or.inl rfl) (pe_op op_catA (pe_op op_catA (pe_slice sl_tupA (pv 5) po_none (po_some (pe_op op_add (pv 7) pe_int))) (pe_tup (pa_cons (pv 9) pa_nil))) (pe_slice sl_tupA (pv 5) (po_some (pe_op op_add (pv 7) pe_int)) po_none)))
            (pss_cons (ps_set (i := 11) sc_law.nd rfl (Or.inl rfl) (C8.pe_c c_Lrefused_part hr (by decide) rfl (pa_cons (pv 10) pa_nil)))
            (pss_cons (ps_set (i := 12) sc_law.nd rfl (Or.inl rfl) (C8.pe_c c_Ltried hr (by decide) rfl (pa_cons (pv 6) (pa_cons (pv 8) (pa_cons (pv 9) pa_nil)))))
            (pss_cons (ps_if (PW.pt (pw_and (pt_cmpR op_notN (pv 11) pe_non (nomark _)) (pw_and1 (pt_cmpR (op_neD (room64 hr)) (pv 12) (pe_tup (pa_cons pe_str (pa_cons (pv 11) pa_nil))) (nomark _))))) (pss_one (ps_ret pe_bl)) (pss_nil))
            (pss_one (ps_if (PW.pt (pw_and (pt_cmpR op_isN (pv 11) pe_non (nomark _)) (pw_and1 (PW.pt (pw_or (pt_cmpR op_ne (pe_ix ix_tup (pv 12) pe_int (fun _ _ => rfl)) pe_str (nomark _)) (pw_or1 (pt_cmpR (QEq.op_neO k___eq__ hr (by decide) ne_Average) (pe_ix ix_tup (pv 12) pe_int (fun _ _ => rfl)) (C8.pe_c c_Lloop hr (by decide) rfl (pa_cons (pv 10) pa_nil)) (nomark _)))))))) (pss_one (ps_ret pe_bl)) (pss_nil))))))))))
        (pss_cons (ps_for PassesOwn.never rfl (pi_list (pe_lst (pa_cons pe_non (pa_cons pe_str (pa_cons pe_str (pa_cons pe_int (pa_cons pe_str (pa_cons (pe_tup (pa_cons pe_str pa_nil)) (pa_cons pe_bl pa_nil))))))))) (pg_name (i := 13) sc_law.nd rfl (Or.inl rfl)) (pss_one (ps_if (pt_cmpR (op_neD (room64 hr)) (C8.pe_c c_Ltried hr (by decide) rfl (pa_cons (pv 6) (pa_cons (pv 13) (pa_cons pe_int pa_nil)))) (pe_tup (pa_cons pe_str (pa_cons (pv 13) pa_nil))) (nomark _)) (pss_one (ps_ret pe_bl)) (pss_nil))))
        (pss_one (ps_if (pt_cmpR (QEq.op_neO k___eq__ hr (by decide) ne_Average) (pv 6) (C8.pe_c c_Lloop hr (by decide) rfl (pa_cons (pv 5) pa_nil)) (nomark _)) (pss_one (ps_ret pe_bl)) (pss_nil)))))))))
      (pss_one (ps_ret pe_bl))))), ?_⟩
    walk_at "rd"
    refine ⟨(by show 6 ≤ sizeLine; decide), fun p1 n1 => ?_⟩
    have i1 : upd H p1 (.lst (fields.map V.str)) p1 = some (.lst (fields.map V.str)) := upd_same
    refine swap (fun G => Same H G ∧ G p1 = some (.lst (fields.map V.str))) ⟨same_new n1 _, upd_same⟩ ?_
    rintro H1 ⟨m1, i1⟩
    walk_at "rd"
    refine ⟨⟨by decide, by decide, by decide, by decide, by decide⟩, fun p2 n2 => ?_⟩
    walk_at "rd"
    refine ⟨(by show 7 ≤ sizeLine; decide), fun p3 n3 => ?_⟩
    refine ⟨p2, p3, rgV (-6) 8, [.str "notless", .str "equal", .str "near1", .str "near2", .str "back", .str "under", .str "held"], rfl, rfl, same_new n3 _ _ _ upd_same, upd_same, (by rw [rgV_length]; exact small _ (by decide)), fun p4 n4 => ?_⟩
    refine swap (fun G => Same H1 G ∧ G p4 = some (.lst (someW p4 |>.take 21))) ⟨(same_new n2 _).trans ((same_new n3 _).trans (same_new n4 _)), upd_same⟩ ?_
    rintro H2 ⟨m2, i4⟩
    walk_at "rd"
    refine ⟨.inl ⟨rfl, _, SqL.of i4⟩, ?_⟩
    refine ⟨(by show 1 ≤ sizeLine; decide), fun p5 n5 => ?_⟩
    walk_at "rd"
    have n54 : p4 ≠ p5 := ne_of_none i4 n5
    have m5 := same_new n5 (.tup [.int 1])
    have i5 : upd H2 p5 (.tup [.int 1]) p5 = some (.tup [.int 1]) := upd_same
    have i45 := m5 _ _ i4
    refine ⟨(by show 12 ≤ sizeLine; decide), fun p6 n6 => ?_⟩
    have m6 := same_new n6 (.lst (someW p5 |>.drop 21))
    have n4H1 : H1 p4 = none := by
      exact ((same_new n2 _).trans (same_new n3 _)).free n4
    refine ⟨p4, p6, (someW p4 |>.take 21), (someW p5 |>.drop 21), rfl, rfl, m6 _ _ i45, upd_same, small _ (by show 21 + 12 ≤ 1000; decide), ?_⟩
    refine swap (fun G => Same H1 G ∧ G p4 = some (.lst (someW p5)) ∧ G p5 = some (.tup [.int 1])) ⟨Same.keep (m2.trans (m5.trans m6)) n4H1 (but_upd _ _ _), upd_same, ?_⟩ ?_
    · rw [upd_ne n54.symm]
      exact m6 _ _ i5
    rintro H3 ⟨m3, i4, i5⟩
    have i1 := m3 _ _ i1
    have m3 := m1.trans m3
    clear m2 m5 m6 i45 n1 n2 n3 n4 n5 n6 n4H1 n54 m1
    walk_at "rd"
    refine ⟨by decide, by decide, ?_⟩
    refine for_range (n := 6) (fun i σ H' => ∃ v3 v4 v5 v6 v7 v8 v9 v10 v11 v12 v13 : Option V, σ = [some (.ref a), some (.ref p1), some (.ref p4), v3, v4, v5, v6, v7, v8, v9, v10, v11, v12, v13] ∧ Same H3 H') ⟨none, none, none, none, none, none, none, none, none, none, none, rfl, Same.refl H3⟩ ?_ (fun σ H' ⟨_, _, _, _, _, _, _, _, _, _, _, _, _⟩ => q H')
    rintro i0 σ H0 hi0 ⟨v3, v4, v5, v6, v7, v8, v9, v10, v11, v12, v13, rfl, m0⟩
    walk_at "rd"
    refine ⟨a, ns, i0, by rw [Int.zero_add] <;> rfl, (m3.trans m0).seq hS, h63, by omega, fun st G1 nst g1 s1 => ?_⟩
    have nst3 : H3 st = none := m0.free nst
    walk_at "rd"
    refine ⟨st, 0, rfl, s1, by omega, fun pp G2 L npp b2 s2 e2 ok => ?_⟩
    have mG2 : Same H3 G2 := Same.keep (m0.trans g1) nst3 b2
    walk_at "rd"
    refine ⟨pp, L, rfl, e2, ok, fun lp G3 nlp g3 av3 => ?_⟩
    have e3 := g3 _ _ e2
    have mG3 := mG2.trans g3
    clear mG2 s2 b2 s1 g1 m0 g3 e2 npp nlp nst nst3
    walk_at "rd"
    refine ⟨p1, _, rfl, .inl ⟨SqL.of (mG3 _ _ i1), ?_⟩⟩
    refine for_it (walk_enum (K := K) (a := p1) (xs := fields.map V.str)) (fun j σ G => ∃ w7 w8 w9 w10 w11 w12 w13 : Option V, σ = [some (.ref a), some (.ref p1), some (.ref p4), some (.int (0 + i0)), some (.ref st), some (.ref pp), some (.ref lp), w7, w8, w9, w10, w11, w12, w13] ∧ Same G3 G)
      ⟨v7, v8, v9, v10, v11, v12, v13, rfl, Same.refl G3⟩ (fun j σ G _ ⟨_, _, _, _, _, _, _, _, mG⟩ => SqL.of (mG _ _ (mG3 _ _ i1))) ?_ ?_
    · rintro j v σ G G' hj ⟨w7, w8, w9, w10, w11, w12, w13, rfl, mG⟩ ⟨T', x, y, rfl, hT, rfl, hx, hy⟩
      cases hx
      have hy : (fields.map V.str)[j]? = some y := hy
      rw [List.getElem?_map] at hy
      obtain ⟨s, hs, rfl⟩ := Option.map_eq_some_iff.mp hy
      have hj6 := fields_ix hs
      refine ⟨T', _, rfl, SqT.of upd_same, rfl, ?_⟩
      have mG4 := mG.trans (same_new hT (.tup [.int (j : Nat), .str s]))
      generalize upd G T' (.tup [.int (j : Nat), .str s]) = G4 at *
      clear mG hT
      walk_at "rd"
      refine ⟨⟨_, SqL.of (mG4 _ _ (mG3 _ _ i4))⟩, ?_⟩
      refine for_list (K := K) (a := p4) (xs := someW p5)
        (fun _ σ F => ∃ w9 w10 w11 w12 w13 : Option V, σ = [some (.ref a), some (.ref p1), some (.ref p4), some (.int (0 + i0)), some (.ref st), some (.ref pp), some (.ref lp), some (.int (j : Nat)), some (.str s), w9, w10, w11, w12, w13] ∧ Same G3 F)
        ⟨w9, w10, w11, w12, w13, rfl, mG4⟩ (fun _ σ F _ ⟨_, _, _, _, _, _, mF⟩ => SqL.of (mF _ _ (mG3 _ _ i4))) ?_ ?_
      · rintro t u σ F ht ⟨w9, w10, w11, w12, w13, rfl, mF⟩
        have pu : ∀ F', Same G3 F' → PartV F' u := fun F' m => someW_part (m _ _ (mG3 _ _ i5)) u (List.mem_of_getElem? ht)
        walk_at "rd"
        have eF := mF _ _ e3
        have ej : (some ((j : Int) + 1) : Option Int) = some ((j + 1 : Nat) : Int) := by rw [Int.natCast_succ]
        have ej2 : (some ((j : Int) + 2) : Option Int) = some ((j + 2 : Nat) : Int) := rfl
        rw [ej]
        refine rslA_to eF (show j + 1 < 7 by omega) fun c1 F1 f1 h1 => ?_
        walk_at "rd"
        refine ⟨(by show 1 ≤ sizeLine; decide), fun t2 n2 => ?_⟩
        refine cat_any (same_new n2 _ _ _ h1) upd_same (by rw [List.length_take]; show _ + 1 ≤ 1000; omega) fun c3 F3 f3 h3 => ?_
        have f03 : Same F F3 := f1.trans ((same_new n2 _).trans f3)
        clear f3 n2 h1 f1
        walk_at "rd"
        rw [ej2]
        unfold tNoPart
        refine rslA_from (f03 _ _ eF) (k := j + 2) (by omega) (show j + 2 ≤ 7 by omega) fun c4 F4 f4 h4 => ?_
        refine cat_any (f4 _ _ h3) h4 (by rw [List.length_append, List.length_take, List.length_drop]; show _ + 1 + _ ≤ 1000; have : L.vs.length = 7 := rfl; omega) fun c5 F5 f5 h5 => ?_
        have m5 : Same G3 F5 := mF.trans (f03.trans (f4.trans f5))
        have m05 : Same F F5 := f03.trans (f4.trans f5)
        rw [due_eq L u hj6] at h5
        clear f4 f5 f03 h3 h4
        walk_at "rd"
        have pall : ∀ z ∈ L.vs.set (j + 1) u, PartV F5 z := by
          intro z hz
          rcases List.mem_or_eq_of_mem_set hz with hz | hz
          · exact ok.part z hz
          · rw [hz]
            exact pu _ m5
        obtain ⟨kv, av, cv, dv, sv, tv, mv, e7⟩ := set7 L u hj6
        rw [e7] at h5 pall
        refine ⟨c5, kv, av, cv, dv, sv, tv, mv, rfl, h5, pall, fun F6 f6 => ?_⟩
        have m6 := m5.trans f6
        have h6 := f6 _ _ h5
        walk_at "rd"
        refine ⟨lp, L, .str s, u, rfl, av3.same m6, ok, .inl ⟨j, s, rfl, hs, pu _ m6, fun hf t x dx F7 f7 i7 k7 => ?_, fun w' hf t F7 f7 k7 => ?_⟩⟩
        · have hf' : faultV kv av cv dv sv tv mv = none := by
            rw [e7] at hf
            exact hf
          rw [e7] at i7
          obtain ⟨M, okM, eM⟩ := fault_none hf'
          rw [eM] at h6
          have i7' : AvgAt C_Average F7 x M := by
            refine ⟨dx, ?_⟩
            rw [i7, eM] <;> rfl
          rw [hf']
          walk_at "rd"
          refine ⟨t, _, _, _, rfl, rfl, SqT.of k7, atI_nat (j := 0) rfl, ?_⟩
          walk_at "rd"
          refine ⟨t, _, _, _, rfl, rfl, SqT.of k7, atI_nat (j := 1) rfl, ?_⟩
          walk_at "rd"
          refine ⟨c5, M, rfl, f7 _ _ h6, okM, fun lr F8 n8 f8 av8 => ?_⟩
          obtain ⟨dz, hz⟩ := id i7'
          obtain ⟨dw, hw⟩ := id av8
          refine ⟨x, dz, _, _, rfl, f8 _ _ hz, ct_Average.ty hw, QEq.nf_self, x, M, _, rfl, ⟨dz, f8 _ _ hz⟩, .inl ⟨lr, M, rfl, av8, ⟨_, rfl, ?_⟩⟩⟩
          rw [eqB_refl]
          walk_at "rd"
          exact ⟨_, _, _, _, _, rfl, m6.trans (f7.trans f8)⟩
        · have hf' : faultV kv av cv dv sv tv mv = some w' := by
            rw [e7] at hf
            exact hf
          rw [hf']
          walk_at "rd"
          refine ⟨(by show 2 ≤ sizeLine; decide), fun t9 n9 => ?_⟩
          have sw : SeqAt.shaped (.tuple [.str "part", .str w']) = true := shaped_of (by show (PyData.strOk "part" && (PyData.strOk w' && true)) = true; rw [fault_ok hf'] <;> decide +kernel) (by simp only [PyData.depth, PyData.depthAll]; omega)
          refine ⟨.tuple [.str "part", .str w'], .tuple [.str "part", .str w'], .tup (SqT.of (same_new n9 _ _ _ k7)) (.cons (.str _) (.cons (.str _) .nil)), .tup (SqT.of upd_same) (.cons (.str _) (.cons (.str _) .nil)), sw, sw, ?_⟩
          rw [SeqAt.eqv_refl (.tuple [.str "part", .str w']) (SeqAt.canLay_of_shaped sw)]
          walk_at "rd"
          exact ⟨_, _, _, _, _, rfl, m6.trans (f7.trans (same_new n9 _))⟩
      · rintro σ F ⟨w9, w10, w11, w12, w13, rfl, mF⟩
        exact ⟨_, _, _, _, _, _, _, rfl, mF⟩
    rintro σ G ⟨w7, w8, w9, w10, w11, w12, w13, rfl, mG⟩
    walk_at "rd"
    refine ⟨(by show 1 ≤ sizeLine; decide), fun q1 nq1 => ?_⟩
    walk_at "rd"
    have g1 := same_new nq1 (.tup [.str "a"])
    have j1 : upd G q1 (.tup [.str "a"]) q1 = some (.tup [.str "a"]) := upd_same
    generalize upd G q1 (.tup [.str "a"]) = J1 at *
    refine ⟨(by show 7 ≤ sizeLine; decide), fun q2 nq2 => ?_⟩
    refine ⟨q2, rfl, ⟨_, SqL.of upd_same⟩, ?_⟩
    have g2 := same_new nq2 (.lst [.non, .str "k", .str "b", .int 5, .str "", .ref q1, .bl true])
    have j2 : upd J1 q2 (.lst [.non, .str "k", .str "b", .int 5, .str "", .ref q1, .bl true]) q2 = some (.lst [.non, .str "k", .str "b", .int 5, .str "", .ref q1, .bl true]) := upd_same
    generalize upd J1 q2 (.lst [.non, .str "k", .str "b", .int 5, .str "", .ref q1, .bl true]) = J2 at *
    have j12 := g2 _ _ j1
    have mJ := mG.trans (g1.trans g2)
    clear g1 g2 nq1 nq2 j1
    refine for_list (K := K) (a := q2) (xs := [.non, .str "k", .str "b", .int 5, .str "", .ref q1, .bl true])
      (fun _ σ F => ∃ w13 : Option V, σ = [some (.ref a), some (.ref p1), some (.ref p4), some (.int (0 + i0)), some (.ref st), some (.ref pp), some (.ref lp), w7, w8, w9, w10, w11, w12, w13] ∧ Same J2 F)
      ⟨w13, rfl, Same.refl J2⟩ (fun _ σ F _ ⟨_, _, mF⟩ => SqL.of (mF _ _ j2)) ?_ ?_
    · rintro t u σ F ht ⟨w13, rfl, mF⟩
      have hm := List.mem_of_getElem? ht
      have pu : AnyV K F u ∧ isWd u fields = false ∧ ∃ d, (∀ F', Same F F' → Dp K F' u d) ∧ d.canLay0 = true ∧ d.depth ≤ 2 := by
        have jF := mF _ _ j12
        simp only [List.mem_cons, List.not_mem_nil, or_false] at hm
        rcases hm with rfl | rfl | rfl | rfl | rfl | rfl | rfl
        · exact ⟨(PartV.any (H := F) (.inr (.inr (.inr (.inl rfl))))), rfl, .none, fun _ _ => .non, rfl, by decide⟩
        · exact ⟨.inr (.inl ⟨_, rfl⟩), by decide +kernel, .str "k", fun _ _ => .str _, by decide +kernel, by decide +kernel⟩
        · exact ⟨.inr (.inl ⟨_, rfl⟩), by decide +kernel, .str "b", fun _ _ => .str _, by decide +kernel, by decide +kernel⟩
        · exact ⟨.inl ⟨_, rfl⟩, rfl, .int 5, fun _ _ => .int _, rfl, by decide⟩
        · exact ⟨.inr (.inl ⟨_, rfl⟩), by decide +kernel, .str "", fun _ _ => .str _, by decide +kernel, by decide +kernel⟩
        · refine ⟨.inr (.inr ⟨⟨fun _ z => (by cases z), fun _ z => (by cases z)⟩, isI_tup K jF, _, .base (.tup jF), kit_ty (by decide +kernel)⟩), rfl, .tuple [.str "a"], fun F' m => .tup (SqT.of (m _ _ jF)) (.cons (.str _) .nil), by decide +kernel, by decide +kernel⟩
        · exact ⟨(PartV.any (H := F) (.inr (.inr (.inl ⟨_, rfl⟩)))), rfl, .bool true, fun _ _ => .bl _, rfl, by decide⟩
      obtain ⟨pa, pw, d, pd, pl, pde⟩ := pu
      walk_at "rd"
      refine ⟨lp, L, u, .int 99, rfl, av3.same (mJ.trans mF), ok, .inr ⟨pa, pw, fun r F7 f7 k7 => ?_⟩⟩
      walk_at "rd"
      refine ⟨(by show 2 ≤ sizeLine; decide), fun t9 n9 => ?_⟩
      have f9 := same_new n9 (.tup [.str "field", u])
      have sw : SeqAt.shaped (.tuple [.str "field", d]) = true := shaped_of (by show (PyData.strOk "field" && (d.canLay0 && true)) = true; rw [pl] <;> decide +kernel) (by simp only [PyData.depth, PyData.depthAll]; omega)
      refine ⟨.tuple [.str "field", d], .tuple [.str "field", d], .tup (SqT.of (f9 _ _ k7)) (.cons (.str _) (.cons (pd _ (f7.trans f9)) .nil)), .tup (SqT.of upd_same) (.cons (.str _) (.cons (pd _ (f7.trans f9)) .nil)), sw, sw, ?_⟩
      rw [SeqAt.eqv_refl (.tuple [.str "field", d]) (SeqAt.canLay_of_shaped sw)]
      walk_at "rd"
      exact mF.trans (f7.trans f9)
    rintro σ F ⟨w13, rfl, mF⟩
    have mF3 := mJ.trans mF
    walk_at "rd"
    refine ⟨pp, L, rfl, mF3 _ _ e3, ok, fun lr F8 n8 f8 av8 => ?_⟩
    obtain ⟨dx, hx⟩ := (av3.same mF3).same f8
    obtain ⟨dw, hw⟩ := id av8
    refine ⟨lp, dx, _, _, rfl, hx, ct_Average.ty hw, QEq.nf_self, lp, L, _, rfl, ⟨dx, hx⟩, .inl ⟨lr, L, rfl, av8, ⟨_, rfl, ?_⟩⟩⟩
    rw [eqB_refl]
    walk_at "rd"
    exact ⟨_, _, _, _, _, _, _, _, _, _, _, rfl, mG3.trans (mF3.trans f8)⟩

end
/-! ### what the top has written -/
theorem all_mk {l : PySem.W.OpenLaw} {w : World} {K : PySem.W.Frag} {h : Heap} {mg : Str → Option Value} {fa : Addr} (X : K.In h) (G : h.Ns mainGlobals mg) (hfa : mg "law" = some (.ref fa))
    {C_Average : Addr} {C_BadLoop fE_BadLoop eNBadLoop ecdBadLoop eccBadLoop eSBadLoop eNSBadLoop : Addr} {enmBadLoop eqBadLoop equBadLoop enSBadLoop eqSBadLoop emBadLoop efiBadLoop : Str} {ebsBadLoop ebsSBadLoop ebmBadLoop esuBadLoop esSBadLoop : List Value} {esnBadLoop esnSBadLoop : List Str} {eabBadLoop ehSBadLoop eaSBadLoop : Bool} {ecoBadLoop ecSBadLoop : Option Bool} {eddBadLoop edSBadLoop eodBadLoop eanBadLoop ecddBadLoop ecldBadLoop : Option Addr} {em0BadLoop em1BadLoop em2BadLoop em3BadLoop em5BadLoop ey0BadLoop ey1BadLoop ey2BadLoop ey3BadLoop ey5BadLoop : Option Value} {eocBadLoop edoBadLoop epmBadLoop ectBadLoop ecclBadLoop eclBadLoop : Value} {eosBadLoop ecsBadLoop ecslBadLoop : Array (Option Value)} {ejBadLoop : Nat} {ep1BadLoop ep2BadLoop eq1BadLoop eq2BadLoop eq3BadLoop eq4BadLoop eq5BadLoop eq6BadLoop eq7BadLoop eq8BadLoop eq9BadLoop eqxBadLoop : Pos} {evsBadLoop : Array Value} {etfBadLoop : Tok} {enwBadLoop : String} {C_BadField fE_BadField eNBadField ecdBadField eccBadField eSBadField eNSBadField : Addr} {enmBadField eqBadField equBadField enSBadField eqSBadField emBadField efiBadField : Str} {ebsBadField ebsSBadField ebmBadField esuBadField esSBadField : List Value} {esnBadField esnSBadField : List Str} {eabBadField ehSBadField eaSBadField : Bool} {ecoBadField ecSBadField : Option Bool} {eddBadField edSBadField eodBadField eanBadField ecddBadField ecldBadField : Option Addr} {em0BadField em1BadField em2BadField em3BadField em5BadField ey0BadField ey1BadField ey2BadField ey3BadField ey5BadField : Option Value} {eocBadField edoBadField epmBadField ectBadField ecclBadField eclBadField : Value} {eosBadField ecsBadField ecslBadField : Array (Option Value)} {ejBadField : Nat} {ep1BadField ep2BadField eq1BadField eq2BadField eq3BadField eq4BadField eq5BadField eq6BadField eq7BadField eq8BadField eq9BadField eqxBadField : Pos} {evsBadField : Array Value} {etfBadField : Tok} {enwBadField : String} {f0 : Addr} {od0 an0 : Option Addr} {sl0 : Array (Option Value)} {oc0 kV0 dc0 pm0 cd0 ct0 : Value} {f1 : Addr} {od1 an1 : Option Addr} {sl1 : Array (Option Value)} {oc1 kV1 dc1 pm1 cd1 ct1 : Value} {f2 : Addr} {od2 an2 : Option Addr} {sl2 : Array (Option Value)} {oc2 kV2 dc2 pm2 cd2 ct2 : Value} {f3 : Addr} {od3 an3 : Option Addr} {sl3 : Array (Option Value)} {oc3 kV3 dc3 pm3 cd3 ct3 : Value} {f4 : Addr} {od4 an4 : Option Addr} {sl4 : Array (Option Value)} {oc4 kV4 dc4 pm4 cd4 ct4 : Value} {f5 : Addr} {od5 an5 : Option Addr} {sl5 : Array (Option Value)} {oc5 kV5 dc5 pm5 cd5 ct5 : Value} {f6 : Addr} {od6 an6 : Option Addr} {sl6 : Array (Option Value)} {oc6 kV6 dc6 pm6 cd6 ct6 : Value} {f7 : Addr} {od7 an7 : Option Addr} {sl7 : Array (Option Value)} {oc7 kV7 dc7 pm7 cd7 ct7 : Value} {f8 : Addr} {od8 an8 : Option Addr} {sl8 : Array (Option Value)} {oc8 kV8 dc8 pm8 cd8 ct8 : Value} {f9 : Addr} {od9 an9 : Option Addr} {sl9 : Array (Option Value)} {oc9 kV9 dc9 pm9 cd9 ct9 : Value} {f10 : Addr} {od10 an10 : Option Addr} {sl10 : Array (Option Value)} {oc10 kV10 dc10 pm10 cd10 ct10 : Value} {f11 : Addr} {od11 an11 : Option Addr} {sl11 : Array (Option Value)} {oc11 kV11 dc11 pm11 cd11 ct11 : Value} {f12 : Addr} {od12 an12 : Option Addr} {sl12 : Array (Option Value)} {oc12 kV12 dc12 pm12 cd12 ct12 : Value} {T12 : Addr} {dT12 : Option Addr} {nT12 : Nat} {sT12 : Array (Option Value)} {tT12_0 : Tok} {tT12_1 : Tok} {f13 : Addr} {od13 an13 : Option Addr} {sl13 : Array (Option Value)} {oc13 kV13 dc13 pm13 cd13 ct13 : Value} {f14 : Addr} {od14 an14 : Option Addr} {sl14 : Array (Option Value)} {oc14 kV14 dc14 pm14 cd14 ct14 : Value} {f15 : Addr} {od15 an15 : Option Addr} {sl15 : Array (Option Value)} {oc15 kV15 dc15 pm15 cd15 ct15 : Value} {f16 : Addr} {od16 an16 : Option Addr} {sl16 : Array (Option Value)} {oc16 kV16 dc16 pm16 cd16 ct16 : Value} {f17 : Addr} {od17 an17 : Option Addr} {sl17 : Array (Option Value)} {oc17 kV17 dc17 pm17 cd17 ct17 : Value} {f18 : Addr} {od18 an18 : Option Addr} {sl18 : Array (Option Value)} {oc18 kV18 dc18 pm18 cd18 ct18 : Value} {f19 : Addr} {od19 an19 : Option Addr} {sl19 : Array (Option Value)} {oc19 kV19 dc19 pm19 cd19 ct19 : Value} {A_FIELDS : Addr} {dC_FIELDS : Option Addr} {nC_FIELDS : Nat} {sC_FIELDS : Array (Option Value)} {tC_FIELDS_0 tC_FIELDS_1 tC_FIELDS_2 tC_FIELDS_3 tC_FIELDS_4 tC_FIELDS_5 : Tok} {A_LOOKS : Addr} {dC_LOOKS : Option Addr} {nC_LOOKS : Nat} {sC_LOOKS : Array (Option Value)} {tC_LOOKS_0 tC_LOOKS_1 : Tok} {A_MENDS : Addr} {dC_MENDS : Option Addr} {nC_MENDS : Nat} {sC_MENDS : Array (Option Value)} {tC_MENDS_0 tC_MENDS_1 tC_MENDS_2 tC_MENDS_3 : Tok} {tC_MOST_WEIGHT : Tok} {A_STOPS : Addr} {dC_STOPS : Option Addr} {nC_STOPS : Nat} {sC_STOPS : Array (Option Value)} {tC_STOPS_0 tC_STOPS_1 tC_STOPS_2 tC_STOPS_3 tC_STOPS_4 tC_STOPS_5 tC_STOPS_6 : Tok} {A_TELLINGS : Addr} {dC_TELLINGS : Option Addr} {nC_TELLINGS : Nat} {sC_TELLINGS : Array (Option Value)} {tC_TELLINGS_0 tC_TELLINGS_1 tC_TELLINGS_2 tC_TELLINGS_3 : Tok}
    (aAverage : PySem.W.nsIn K mainGlobals "Average" = some (some (.ref C_Average)))
    (pgAverage : PySem.W.plainGet K C_Average Str.empty = true)
    (hdAverage : PySem.W.hasDictIn K C_Average = true)
    (poAverage : PySem.W.plainOver K C_Average = true)
    (saAverage : PySem.W.findIn K (.ref C_Average) "__setattr__" = some (some (.builtin "object.__setattr__")))
    (mkAverage : PySem.W.makesIn K C_Average = true)
    (kcAverage : PySem.W.keepIn K (.ref C_Average) = true)
    (pCAverage : PySem.W.findIn K (.ref C_Average) "__class__" = some (some (.builtin "object.__class__")))
    (pGAverage : PySem.W.specialIn K (.builtin "object.__class__") "__get__" = some (some (.builtin "getset_descriptor.__get__")))
    (pTAverage : PySem.W.takesIn K (.builtin "object.__class__") = some true)
    (pIAverage : PySem.W.isClsIn K C_Average = true)
    (pYAverage : PySem.W.typeIn K (.ref C_Average) = some (.type "type"))
    (pntupleAverage : PySem.W.subIn K (.type "tuple") (.ref C_Average) = some false)
    (pnNoneTypeAverage : PySem.W.subIn K (.type "NoneType") (.ref C_Average) = some false)
    (pnstrAverage : PySem.W.subIn K (.type "str") (.ref C_Average) = some false)
    (pOAverage : PySem.W.mroIn K C_Average (.type "object") = some true)
    (pNAverage : PySem.W.findIn K (.ref C_Average) "__ne__" = some (some (.builtin "object.__ne__")))
    (nAk : PySem.W.findIn K (.ref C_Average) "k" = some none)
    (nAa : PySem.W.findIn K (.ref C_Average) "a" = some none)
    (nAc : PySem.W.findIn K (.ref C_Average) "c" = some none)
    (nAd : PySem.W.findIn K (.ref C_Average) "d" = some none)
    (nAstop : PySem.W.findIn K (.ref C_Average) "stop" = some none)
    (nAtold : PySem.W.findIn K (.ref C_Average) "told" = some none)
    (nAmend : PySem.W.findIn K (.ref C_Average) "mend" = some none)
    (E_BadLoop_aC : PySem.W.nsIn K mainGlobals "BadLoop" = some (some (.ref C_BadLoop)))
    (E_BadLoop_xC : K.lookup C_BadLoop = some (PySem.excClassObj enmBadLoop eqBadLoop C_BadLoop eNBadLoop ebsBadLoop (.ref eSBadLoop :: ebmBadLoop) true esnBadLoop esuBadLoop eabBadLoop ecoBadLoop eddBadLoop em0BadLoop em1BadLoop em2BadLoop em3BadLoop em5BadLoop "ValueError.__new__"))
    (E_BadLoop_bC : PySem.HandSPX.refsVE ebmBadLoop = true)
    (E_BadLoop_xS : K.lookup eSBadLoop = some (PySem.excClassObj enSBadLoop eqSBadLoop eSBadLoop eNSBadLoop ebsSBadLoop ebmBadLoop ehSBadLoop esnSBadLoop esSBadLoop eaSBadLoop ecSBadLoop edSBadLoop ey0BadLoop ey1BadLoop ey2BadLoop ey3BadLoop ey5BadLoop enwBadLoop))
    (E_BadLoop_sa : PySem.W.findIn K (.ref C_BadLoop) "__setattr__" = some (some (.builtin "object.__setattr__")))
    (E_BadLoop_ga : PySem.W.findIn K (.ref C_BadLoop) "__getattribute__" = some (some (.builtin "BaseException.__getattribute__")))
    (E_BadLoop_gg : PySem.W.findIn K (.ref C_BadLoop) "__getattr__" = some none)
    (E_BadLoop_nb : PySem.W.findIn K (.ref C_BadLoop) "word" = some none)
    (E_BadLoop_iC : PySem.W.findIn K (.ref C_BadLoop) "__init__" = some (some (.ref fE_BadLoop)))
    (E_BadLoop_tI : PySem.W.typeIn K (.ref fE_BadLoop) = some (.type "function"))
    (E_BadLoop_kC : PySem.W.keepIn K (.ref C_BadLoop) = true)
    (E_BadLoop_eC : PySem.W.subIn K (.ref C_BadLoop) (.type "BaseException") = some true)
    (E_BadLoop_tC : PySem.W.typeIn K (.ref C_BadLoop) = some (.type "type"))
    (E_BadLoop_hC : PySem.W.hasDictIn K C_BadLoop = true)
    (E_BadLoop_cC : PySem.W.isClsIn K C_BadLoop = true)
    (E_BadLoop_sC : PySem.W.subIn K (.ref C_BadLoop) (.ref C_BadLoop) = some true)
    (E_BadLoop_mC : PySem.W.mroIn K C_BadLoop (.ref C_BadLoop) = some true)
    (E_BadLoop_vC : PySem.W.subIn K (.ref C_BadLoop) (.type "ValueError") = some true)
    (E_BadLoop_uC : PySem.W.findIn K (.ref eSBadLoop) "__init__" = some (some (.builtin "ValueError.__init__")))
    (E_BadLoop_anyC : PySem.W.nsIn K cStatics "thirdparty.any" = some none)
    (E_BadLoop_sup : PySem.W.nsIn K mainGlobals "super" = some none)
    (E_BadLoop_top : (l.prog.main.scope.names.lookup ("super" : Str)).isSome = false)
    (E_BadLoop_lI : K.lookup fE_BadLoop = some ⟨eocBadLoop, eodBadLoop, .func (PySem.W.ksFn "__init__" equBadLoop (PySem.QErr.eA "word" ep1BadLoop ep2BadLoop) (PySem.QErr.eB "word" emBadLoop ejBadLoop eq1BadLoop eq2BadLoop eq3BadLoop eq4BadLoop eq5BadLoop eq6BadLoop eq7BadLoop eq8BadLoop eq9BadLoop eqxBadLoop) (PySem.QErr.eS "word") .none .none edoBadLoop epmBadLoop eanBadLoop (.ref ecdBadLoop) ectBadLoop eccBadLoop), eosBadLoop⟩)
    (E_BadLoop_cI : PySem.W.codeIn K (.ref ecdBadLoop) equBadLoop = true)
    (E_BadLoop_lcd : K.lookup ecdBadLoop = some ⟨ecclBadLoop, ecddBadLoop, .fields evsBadLoop, ecsBadLoop⟩)
    (E_BadLoop_hvs : evsBadLoop[2]? = some (.str efiBadLoop etfBadLoop))
    (E_BadLoop_hfile : ((l.prog.main.file : Str) == efiBadLoop) = true)
    (E_BadLoop_lcc : K.lookup eccBadLoop = some ⟨eclBadLoop, ecldBadLoop, .cell (some (.ref C_BadLoop)), ecslBadLoop⟩)
    (E_BadLoop_same : (eq3BadLoop.endLine == eq5BadLoop.line) = true)
    (E_BadField_aC : PySem.W.nsIn K mainGlobals "BadField" = some (some (.ref C_BadField)))
    (E_BadField_xC : K.lookup C_BadField = some (PySem.excClassObj enmBadField eqBadField C_BadField eNBadField ebsBadField (.ref eSBadField :: ebmBadField) true esnBadField esuBadField eabBadField ecoBadField eddBadField em0BadField em1BadField em2BadField em3BadField em5BadField "ValueError.__new__"))
    (E_BadField_bC : PySem.HandSPX.refsVE ebmBadField = true)
    (E_BadField_xS : K.lookup eSBadField = some (PySem.excClassObj enSBadField eqSBadField eSBadField eNSBadField ebsSBadField ebmBadField ehSBadField esnSBadField esSBadField eaSBadField ecSBadField edSBadField ey0BadField ey1BadField ey2BadField ey3BadField ey5BadField enwBadField))
    (E_BadField_sa : PySem.W.findIn K (.ref C_BadField) "__setattr__" = some (some (.builtin "object.__setattr__")))
    (E_BadField_ga : PySem.W.findIn K (.ref C_BadField) "__getattribute__" = some (some (.builtin "BaseException.__getattribute__")))
    (E_BadField_gg : PySem.W.findIn K (.ref C_BadField) "__getattr__" = some none)
    (E_BadField_nb : PySem.W.findIn K (.ref C_BadField) "field" = some none)
    (E_BadField_iC : PySem.W.findIn K (.ref C_BadField) "__init__" = some (some (.ref fE_BadField)))
    (E_BadField_tI : PySem.W.typeIn K (.ref fE_BadField) = some (.type "function"))
    (E_BadField_kC : PySem.W.keepIn K (.ref C_BadField) = true)
    (E_BadField_eC : PySem.W.subIn K (.ref C_BadField) (.type "BaseException") = some true)
    (E_BadField_tC : PySem.W.typeIn K (.ref C_BadField) = some (.type "type"))
    (E_BadField_hC : PySem.W.hasDictIn K C_BadField = true)
    (E_BadField_cC : PySem.W.isClsIn K C_BadField = true)
    (E_BadField_sC : PySem.W.subIn K (.ref C_BadField) (.ref C_BadField) = some true)
    (E_BadField_mC : PySem.W.mroIn K C_BadField (.ref C_BadField) = some true)
    (E_BadField_vC : PySem.W.subIn K (.ref C_BadField) (.type "ValueError") = some true)
    (E_BadField_uC : PySem.W.findIn K (.ref eSBadField) "__init__" = some (some (.builtin "ValueError.__init__")))
    (E_BadField_anyC : PySem.W.nsIn K cStatics "thirdparty.any" = some none)
    (E_BadField_sup : PySem.W.nsIn K mainGlobals "super" = some none)
    (E_BadField_top : (l.prog.main.scope.names.lookup ("super" : Str)).isSome = false)
    (E_BadField_lI : K.lookup fE_BadField = some ⟨eocBadField, eodBadField, .func (PySem.W.ksFn "__init__" equBadField (PySem.QErr.eA "field" ep1BadField ep2BadField) (PySem.QErr.eB "field" emBadField ejBadField eq1BadField eq2BadField eq3BadField eq4BadField eq5BadField eq6BadField eq7BadField eq8BadField eq9BadField eqxBadField) (PySem.QErr.eS "field") .none .none edoBadField epmBadField eanBadField (.ref ecdBadField) ectBadField eccBadField), eosBadField⟩)
    (E_BadField_cI : PySem.W.codeIn K (.ref ecdBadField) equBadField = true)
    (E_BadField_lcd : K.lookup ecdBadField = some ⟨ecclBadField, ecddBadField, .fields evsBadField, ecsBadField⟩)
    (E_BadField_hvs : evsBadField[2]? = some (.str efiBadField etfBadField))
    (E_BadField_hfile : ((l.prog.main.file : Str) == efiBadField) = true)
    (E_BadField_lcc : K.lookup eccBadField = some ⟨eclBadField, ecldBadField, .cell (some (.ref C_BadField)), ecslBadField⟩)
    (E_BadField_same : (eq3BadField.endLine == eq5BadField.line) = true)
    (X_BadLoop_BadField : PySem.W.subIn K (.ref C_BadLoop) (.ref C_BadField) = some false)
    (a0 : PySem.W.nsIn K mainGlobals "_law_stream" = some (some (.ref f0)))
    (l0 : K.lookup f0 = some ⟨oc0, od0, .func (PySem.W.fnOf "_law_stream" "_law_stream" (C8.fnArgs s_Lstream) (C8.fnBody s_Lstream) (C8.fnScope s_Lstream) .none kV0 dc0 pm0 an0 cd0 ct0), sl0⟩)
    (c0 : PySem.W.codeIn K cd0 "_law_stream" = true)
    (k0 : PySem.W.keepIn K (.ref f0) = true)
    (a1 : PySem.W.nsIn K mainGlobals "_law_draw" = some (some (.ref f1)))
    (l1 : K.lookup f1 = some ⟨oc1, od1, .func (PySem.W.fnOf "_law_draw" "_law_draw" (C8.fnArgs s_Ldraw) (C8.fnBody s_Ldraw) (C8.fnScope s_Ldraw) .none kV1 dc1 pm1 an1 cd1 ct1), sl1⟩)
    (c1 : PySem.W.codeIn K cd1 "_law_draw" = true)
    (k1 : PySem.W.keepIn K (.ref f1) = true)
    (a2 : PySem.W.nsIn K mainGlobals "_law_pick" = some (some (.ref f2)))
    (l2 : K.lookup f2 = some ⟨oc2, od2, .func (PySem.W.fnOf "_law_pick" "_law_pick" (C8.fnArgs s_Lpick) (C8.fnBody s_Lpick) (C8.fnScope s_Lpick) .none kV2 dc2 pm2 an2 cd2 ct2), sl2⟩)
    (c2 : PySem.W.codeIn K cd2 "_law_pick" = true)
    (k2 : PySem.W.keepIn K (.ref f2) = true)
    (a3 : PySem.W.nsIn K mainGlobals "_law_weights" = some (some (.ref f3)))
    (l3 : K.lookup f3 = some ⟨oc3, od3, .func (PySem.W.fnOf "_law_weights" "_law_weights" (C8.fnArgs s_Lweights) (C8.fnBody s_Lweights) (C8.fnScope s_Lweights) .none kV3 dc3 pm3 an3 cd3 ct3), sl3⟩)
    (c3 : PySem.W.codeIn K cd3 "_law_weights" = true)
    (k3 : PySem.W.keepIn K (.ref f3) = true)
    (a4 : PySem.W.nsIn K mainGlobals "_law_parts" = some (some (.ref f4)))
    (l4 : K.lookup f4 = some ⟨oc4, od4, .func (PySem.W.fnOf "_law_parts" "_law_parts" (C8.fnArgs s_Lparts) (C8.fnBody s_Lparts) (C8.fnScope s_Lparts) .none kV4 dc4 pm4 an4 cd4 ct4), sl4⟩)
    (c4 : PySem.W.codeIn K cd4 "_law_parts" = true)
    (k4 : PySem.W.keepIn K (.ref f4) = true)
    (a5 : PySem.W.nsIn K mainGlobals "is_int" = some (some (.ref f5)))
    (l5 : K.lookup f5 = some ⟨oc5, od5, .func (PySem.W.fnOf "is_int" "is_int" (C8.fnArgs s_is_int) (C8.fnBody s_is_int) (C8.fnScope s_is_int) .none kV5 dc5 pm5 an5 cd5 ct5), sl5⟩)
    (c5 : PySem.W.codeIn K cd5 "is_int" = true)
    (k5 : PySem.W.keepIn K (.ref f5) = true)
    (a6 : PySem.W.nsIn K mainGlobals "is_within" = some (some (.ref f6)))
    (l6 : K.lookup f6 = some ⟨oc6, od6, .func (PySem.W.fnOf "is_within" "is_within" (C8.fnArgs s_is_within) (C8.fnBody s_is_within) (C8.fnScope s_is_within) .none kV6 dc6 pm6 an6 cd6 ct6), sl6⟩)
    (c6 : PySem.W.codeIn K cd6 "is_within" = true)
    (k6 : PySem.W.keepIn K (.ref f6) = true)
    (a7 : PySem.W.nsIn K mainGlobals "is_word" = some (some (.ref f7)))
    (l7 : K.lookup f7 = some ⟨oc7, od7, .func (PySem.W.fnOf "is_word" "is_word" (C8.fnArgs s_is_word) (C8.fnBody s_is_word) (C8.fnScope s_is_word) .none kV7 dc7 pm7 an7 cd7 ct7), sl7⟩)
    (c7 : PySem.W.codeIn K cd7 "is_word" = true)
    (k7 : PySem.W.keepIn K (.ref f7) = true)
    (a8 : PySem.W.nsIn K mainGlobals "possible_tellings" = some (some (.ref f8)))
    (l8 : K.lookup f8 = some ⟨oc8, od8, .func (PySem.W.fnOf "possible_tellings" "possible_tellings" (C8.fnArgs s_possible_tellings) (C8.fnBody s_possible_tellings) (C8.fnScope s_possible_tellings) .none kV8 dc8 pm8 an8 cd8 ct8), sl8⟩)
    (c8 : PySem.W.codeIn K cd8 "possible_tellings" = true)
    (k8 : PySem.W.keepIn K (.ref f8) = true)
    (a9 : PySem.W.nsIn K mainGlobals "is_loop_power" = some (some (.ref f9)))
    (l9 : K.lookup f9 = some ⟨oc9, od9, .func (PySem.W.fnOf "is_loop_power" "is_loop_power" (C8.fnArgs s_is_loop_power) (C8.fnBody s_is_loop_power) (C8.fnScope s_is_loop_power) .none kV9 dc9 pm9 an9 cd9 ct9), sl9⟩)
    (c9 : PySem.W.codeIn K cd9 "is_loop_power" = true)
    (k9 : PySem.W.keepIn K (.ref f9) = true)
    (a10 : PySem.W.nsIn K mainGlobals "greatest_c" = some (some (.ref f10)))
    (l10 : K.lookup f10 = some ⟨oc10, od10, .func (PySem.W.fnOf "greatest_c" "greatest_c" (C8.fnArgs s_greatest_c) (C8.fnBody s_greatest_c) (C8.fnScope s_greatest_c) .none kV10 dc10 pm10 an10 cd10 ct10), sl10⟩)
    (c10 : PySem.W.codeIn K cd10 "greatest_c" = true)
    (k10 : PySem.W.keepIn K (.ref f10) = true)
    (a11 : PySem.W.nsIn K mainGlobals "wrong_part" = some (some (.ref f11)))
    (l11 : K.lookup f11 = some ⟨oc11, od11, .func (PySem.W.fnOf "wrong_part" "wrong_part" (C8.fnArgs s_wrong_part) (C8.fnBody s_wrong_part) (C8.fnScope s_wrong_part) .none kV11 dc11 pm11 an11 cd11 ct11), sl11⟩)
    (c11 : PySem.W.codeIn K cd11 "wrong_part" = true)
    (k11 : PySem.W.keepIn K (.ref f11) = true)
    (a12 : PySem.W.findIn K (.ref C_Average) "__init__" = some (some (.ref f12)))
    (i12 : PySem.W.isFn K (.ref f12) = true)
    (l12 : K.lookup f12 = some ⟨oc12, od12, .func (PySem.W.fnOf "__init__" "Average.__init__" (C8.fnArgs s_Average___init__) (C8.fnBody s_Average___init__) (C8.fnScope s_Average___init__) (.ref T12) kV12 dc12 pm12 an12 cd12 ct12), sl12⟩)
    (lT12 : K.lookup T12 = some ⟨.type "tuple", dT12, .seq #[.str "old" tT12_0, .str "none" tT12_1] nT12, sT12⟩)
    (c12 : PySem.W.codeIn K cd12 "Average.__init__" = true)
    (k12 : PySem.W.keepIn K (.ref f12) = true)
    (a13 : PySem.W.findIn K (.ref C_Average) "__eq__" = some (some (.ref f13)))
    (i13 : PySem.W.isFn K (.ref f13) = true)
    (l13 : K.lookup f13 = some ⟨oc13, od13, .func (PySem.W.fnOf "__eq__" "Average.__eq__" (C8.fnArgs s_Average___eq__) (C8.fnBody s_Average___eq__) (C8.fnScope s_Average___eq__) .none kV13 dc13 pm13 an13 cd13 ct13), sl13⟩)
    (c13 : PySem.W.codeIn K cd13 "Average.__eq__" = true)
    (k13 : PySem.W.keepIn K (.ref f13) = true)
    (a14 : PySem.W.nsIn K mainGlobals "_law_loop" = some (some (.ref f14)))
    (l14 : K.lookup f14 = some ⟨oc14, od14, .func (PySem.W.fnOf "_law_loop" "_law_loop" (C8.fnArgs s_Lloop) (C8.fnBody s_Lloop) (C8.fnScope s_Lloop) .none kV14 dc14 pm14 an14 cd14 ct14), sl14⟩)
    (c14 : PySem.W.codeIn K cd14 "_law_loop" = true)
    (k14 : PySem.W.keepIn K (.ref f14) = true)
    (a15 : PySem.W.nsIn K mainGlobals "require_field" = some (some (.ref f15)))
    (l15 : K.lookup f15 = some ⟨oc15, od15, .func (PySem.W.fnOf "require_field" "require_field" (C8.fnArgs s_require_field) (C8.fnBody s_require_field) (C8.fnScope s_require_field) .none kV15 dc15 pm15 an15 cd15 ct15), sl15⟩)
    (c15 : PySem.W.codeIn K cd15 "require_field" = true)
    (k15 : PySem.W.keepIn K (.ref f15) = true)
    (a16 : PySem.W.nsIn K mainGlobals "changed" = some (some (.ref f16)))
    (l16 : K.lookup f16 = some ⟨oc16, od16, .func (PySem.W.fnOf "changed" "changed" (C8.fnArgs s_changed) (C8.fnBody s_changed) (C8.fnScope s_changed) .none kV16 dc16 pm16 an16 cd16 ct16), sl16⟩)
    (c16 : PySem.W.codeIn K cd16 "changed" = true)
    (k16 : PySem.W.keepIn K (.ref f16) = true)
    (a17 : PySem.W.nsIn K mainGlobals "_law_refused_part" = some (some (.ref f17)))
    (l17 : K.lookup f17 = some ⟨oc17, od17, .func (PySem.W.fnOf "_law_refused_part" "_law_refused_part" (C8.fnArgs s_Lrefused_part) (C8.fnBody s_Lrefused_part) (C8.fnScope s_Lrefused_part) .none kV17 dc17 pm17 an17 cd17 ct17), sl17⟩)
    (c17 : PySem.W.codeIn K cd17 "_law_refused_part" = true)
    (k17 : PySem.W.keepIn K (.ref f17) = true)
    (a18 : PySem.W.nsIn K mainGlobals "_law_tried" = some (some (.ref f18)))
    (l18 : K.lookup f18 = some ⟨oc18, od18, .func (PySem.W.fnOf "_law_tried" "_law_tried" (C8.fnArgs s_Ltried) (C8.fnBody s_Ltried) (C8.fnScope s_Ltried) .none kV18 dc18 pm18 an18 cd18 ct18), sl18⟩)
    (c18 : PySem.W.codeIn K cd18 "_law_tried" = true)
    (k18 : PySem.W.keepIn K (.ref f18) = true)
    (a19 : PySem.W.nsIn K mainGlobals "law" = some (some (.ref f19)))
    (l19 : K.lookup f19 = some ⟨oc19, od19, .func (PySem.W.fnOf "law" "law" (C8.fnArgs s_law) (C8.fnBody s_law) (C8.fnScope s_law) .none kV19 dc19 pm19 an19 cd19 ct19), sl19⟩)
    (c19 : PySem.W.codeIn K cd19 "law" = true)
    (k19 : PySem.W.keepIn K (.ref f19) = true)
    (z_abs : PySem.W.nsIn K mainGlobals "abs" = some none)
    (z_bool : PySem.W.nsIn K mainGlobals "bool" = some none)
    (z_enumerate : PySem.W.nsIn K mainGlobals "enumerate" = some none)
    (z_int : PySem.W.nsIn K mainGlobals "int" = some none)
    (z_isinstance : PySem.W.nsIn K mainGlobals "isinstance" = some none)
    (z_len : PySem.W.nsIn K mainGlobals "len" = some none)
    (z_list : PySem.W.nsIn K mainGlobals "list" = some none)
    (z_min : PySem.W.nsIn K mainGlobals "min" = some none)
    (z_range : PySem.W.nsIn K mainGlobals "range" = some none)
    (z_str : PySem.W.nsIn K mainGlobals "str" = some none)
    (g_FIELDS : PySem.W.nsIn K mainGlobals "FIELDS" = some (some (.ref A_FIELDS)))
    (l_FIELDS : K.lookup A_FIELDS = some ⟨.type "tuple", dC_FIELDS, .seq #[.str "a" tC_FIELDS_0, .str "c" tC_FIELDS_1, .str "d" tC_FIELDS_2, .str "stop" tC_FIELDS_3, .str "told" tC_FIELDS_4, .str "mend" tC_FIELDS_5] nC_FIELDS, sC_FIELDS⟩)
    (g_LOOKS : PySem.W.nsIn K mainGlobals "LOOKS" = some (some (.ref A_LOOKS)))
    (l_LOOKS : K.lookup A_LOOKS = some ⟨.type "tuple", dC_LOOKS, .seq #[.str "under" tC_LOOKS_0, .str "held" tC_LOOKS_1] nC_LOOKS, sC_LOOKS⟩)
    (g_MENDS : PySem.W.nsIn K mainGlobals "MENDS" = some (some (.ref A_MENDS)))
    (l_MENDS : K.lookup A_MENDS = some ⟨.type "tuple", dC_MENDS, .seq #[.str "none" tC_MENDS_0, .str "down" tC_MENDS_1, .str "up" tC_MENDS_2, .str "both" tC_MENDS_3] nC_MENDS, sC_MENDS⟩)
    (g_MOST_WEIGHT : PySem.W.nsIn K mainGlobals "MOST_WEIGHT" = some (some (.int 6 tC_MOST_WEIGHT)))
    (g_STOPS : PySem.W.nsIn K mainGlobals "STOPS" = some (some (.ref A_STOPS)))
    (l_STOPS : K.lookup A_STOPS = some ⟨.type "tuple", dC_STOPS, .seq #[.str "notless" tC_STOPS_0, .str "equal" tC_STOPS_1, .str "near1" tC_STOPS_2, .str "near2" tC_STOPS_3, .str "back" tC_STOPS_4, .str "under" tC_STOPS_5, .str "held" tC_STOPS_6] nC_STOPS, sC_STOPS⟩)
    (g_TELLINGS : PySem.W.nsIn K mainGlobals "TELLINGS" = some (some (.ref A_TELLINGS)))
    (l_TELLINGS : K.lookup A_TELLINGS = some ⟨.type "tuple", dC_TELLINGS, .seq #[.str "old" tC_TELLINGS_0, .str "new" tC_TELLINGS_1, .str "less" tC_TELLINGS_2, .str "more" tC_TELLINGS_3] nC_TELLINGS, sC_TELLINGS⟩) :
    ∃ fd : FuncData, (∀ (s : Shared) (v : Value), BindsTo s fd ⟨[v], []⟩ [("_law_script", v)]) ∧ ∀ base : Heap, K.In base → base.Ns mainGlobals mg → FnOk l.prog w K mg base C8.CX0 9 fa fd ["_law_script"] (spLaw K) := by
  have e := hfa.symm.trans (PySem.W.mg_of X G a19)
  cases e
  have T : Txt K mg := { b_abs := PySem.W.mg_none_of X G z_abs, b_bool := PySem.W.mg_none_of X G z_bool, b_enumerate := PySem.W.mg_none_of X G z_enumerate, b_int := PySem.W.mg_none_of X G z_int, b_isinstance := PySem.W.mg_none_of X G z_isinstance, b_len := PySem.W.mg_none_of X G z_len, b_list := PySem.W.mg_none_of X G z_list, b_min := PySem.W.mg_none_of X G z_min, b_range := PySem.W.mg_none_of X G z_range, b_str := PySem.W.mg_none_of X G z_str, c_FIELDS := ⟨A_FIELDS, PySem.W.mg_of X G g_FIELDS, fun _ => .inr ⟨_, _, _, l_FIELDS, rfl, rfl, (by show 6 ≤ sizeLine; decide), .cons ⟨_, rfl⟩ (.cons ⟨_, rfl⟩ (.cons ⟨_, rfl⟩ (.cons ⟨_, rfl⟩ (.cons ⟨_, rfl⟩ (.cons ⟨_, rfl⟩ (.nil))))))⟩⟩, c_LOOKS := ⟨A_LOOKS, PySem.W.mg_of X G g_LOOKS, fun _ => .inr ⟨_, _, _, l_LOOKS, rfl, rfl, (by show 2 ≤ sizeLine; decide), .cons ⟨_, rfl⟩ (.cons ⟨_, rfl⟩ (.nil))⟩⟩, c_MENDS := ⟨A_MENDS, PySem.W.mg_of X G g_MENDS, fun _ => .inr ⟨_, _, _, l_MENDS, rfl, rfl, (by show 4 ≤ sizeLine; decide), .cons ⟨_, rfl⟩ (.cons ⟨_, rfl⟩ (.cons ⟨_, rfl⟩ (.cons ⟨_, rfl⟩ (.nil))))⟩⟩, c_MOST_WEIGHT := ⟨_, PySem.W.mg_of X G g_MOST_WEIGHT, ⟨_, rfl⟩⟩, c_STOPS := ⟨A_STOPS, PySem.W.mg_of X G g_STOPS, fun _ => .inr ⟨_, _, _, l_STOPS, rfl, rfl, (by show 7 ≤ sizeLine; decide), .cons ⟨_, rfl⟩ (.cons ⟨_, rfl⟩ (.cons ⟨_, rfl⟩ (.cons ⟨_, rfl⟩ (.cons ⟨_, rfl⟩ (.cons ⟨_, rfl⟩ (.cons ⟨_, rfl⟩ (.nil)))))))⟩⟩, c_TELLINGS := ⟨A_TELLINGS, PySem.W.mg_of X G g_TELLINGS, fun _ => .inr ⟨_, _, _, l_TELLINGS, rfl, rfl, (by show 4 ≤ sizeLine; decide), .cons ⟨_, rfl⟩ (.cons ⟨_, rfl⟩ (.cons ⟨_, rfl⟩ (.cons ⟨_, rfl⟩ (.nil))))⟩⟩ }
  have e_BadLoop : PySem.QErr.ErrTxt l.prog K mg "BadLoop" "word" C_BadLoop fE_BadLoop := QX.err_mk "BadLoop" "word" X G E_BadLoop_aC E_BadLoop_xC E_BadLoop_bC E_BadLoop_xS E_BadLoop_sa E_BadLoop_ga E_BadLoop_gg E_BadLoop_nb E_BadLoop_iC E_BadLoop_tI E_BadLoop_kC E_BadLoop_eC E_BadLoop_tC E_BadLoop_hC E_BadLoop_cC E_BadLoop_sC E_BadLoop_mC E_BadLoop_vC E_BadLoop_uC E_BadLoop_anyC E_BadLoop_sup E_BadLoop_top E_BadLoop_lI E_BadLoop_cI E_BadLoop_lcd E_BadLoop_hvs E_BadLoop_hfile E_BadLoop_lcc E_BadLoop_same
  have e_BadField : PySem.QErr.ErrTxt l.prog K mg "BadField" "field" C_BadField fE_BadField := QX.err_mk "BadField" "field" X G E_BadField_aC E_BadField_xC E_BadField_bC E_BadField_xS E_BadField_sa E_BadField_ga E_BadField_gg E_BadField_nb E_BadField_iC E_BadField_tI E_BadField_kC E_BadField_eC E_BadField_tC E_BadField_hC E_BadField_cC E_BadField_sC E_BadField_mC E_BadField_vC E_BadField_uC E_BadField_anyC E_BadField_sup E_BadField_top E_BadField_lI E_BadField_cI E_BadField_lcd E_BadField_hvs E_BadField_hfile E_BadField_lcc E_BadField_same
  have x_BadLoop_BadField : PySem.W.exmOne K (.ref C_BadLoop) (.ref C_BadField) = some false := QX.exm_of E_BadField_eC E_BadField_cC E_BadField_tC X_BadLoop_BadField
  have cl_Average : Cls K C_Average := ⟨pgAverage, hdAverage, poAverage, saAverage⟩
  have ct_Average : QEq.ClsTxt K C_Average := ⟨cl_Average, pCAverage, pGAverage, pTAverage, pOAverage, pIAverage, pYAverage, pntupleAverage, pnNoneTypeAverage, pnstrAverage⟩
  have ne_Average : QEq.NeTxt K C_Average := ⟨pNAverage, pOAverage⟩
  have g_Average := PySem.W.mg_of X G aAverage
  have A_ : AvgTxt K C_Average := ⟨cl_Average, nAk, nAa, nAc, nAd, nAstop, nAtold, nAmend⟩
  have F0 : C8.Def K mg "_law_stream" s_Lstream f0 _ := ⟨⟨⟨_, _, _, _, _, _, _, _, _, _, rfl, l0, c0⟩⟩, PySem.W.mg_of X G a0, k0⟩
  have b0 := C8.Fun.binds F0.fn rfl (ps := ["_law_script", "_law_k"]) fun _ _ _ _ _ _ us hl => match us, hl with | [_, _], _ => rfl
  have F1 : C8.Def K mg "_law_draw" s_Ldraw f1 _ := ⟨⟨⟨_, _, _, _, _, _, _, _, _, _, rfl, l1, c1⟩⟩, PySem.W.mg_of X G a1, k1⟩
  have b1 := C8.Fun.binds F1.fn rfl (ps := ["_law_stream_here", "_law_many"]) fun _ _ _ _ _ _ us hl => match us, hl with | [_, _], _ => rfl
  have F2 : C8.Def K mg "_law_pick" s_Lpick f2 _ := ⟨⟨⟨_, _, _, _, _, _, _, _, _, _, rfl, l2, c2⟩⟩, PySem.W.mg_of X G a2, k2⟩
  have b2 := C8.Fun.binds F2.fn rfl (ps := ["_law_stream_here", "_law_things"]) fun _ _ _ _ _ _ us hl => match us, hl with | [_, _], _ => rfl
  have F3 : C8.Def K mg "_law_weights" s_Lweights f3 _ := ⟨⟨⟨_, _, _, _, _, _, _, _, _, _, rfl, l3, c3⟩⟩, PySem.W.mg_of X G a3, k3⟩
  have b3 := C8.Fun.binds F3.fn rfl (ps := ["_law_k"]) fun _ _ _ _ _ _ us hl => match us, hl with | [_], _ => rfl
  have F4 : C8.Def K mg "_law_parts" s_Lparts f4 _ := ⟨⟨⟨_, _, _, _, _, _, _, _, _, _, rfl, l4, c4⟩⟩, PySem.W.mg_of X G a4, k4⟩
  have b4 := C8.Fun.binds F4.fn rfl (ps := ["_law_stream_here"]) fun _ _ _ _ _ _ us hl => match us, hl with | [_], _ => rfl
  have F5 : C8.Def K mg "is_int" s_is_int f5 _ := ⟨⟨⟨_, _, _, _, _, _, _, _, _, _, rfl, l5, c5⟩⟩, PySem.W.mg_of X G a5, k5⟩
  have b5 := C8.Fun.binds F5.fn rfl (ps := ["value"]) fun _ _ _ _ _ _ us hl => match us, hl with | [_], _ => rfl
  have F6 : C8.Def K mg "is_within" s_is_within f6 _ := ⟨⟨⟨_, _, _, _, _, _, _, _, _, _, rfl, l6, c6⟩⟩, PySem.W.mg_of X G a6, k6⟩
  have b6 := C8.Fun.binds F6.fn rfl (ps := ["value", "least", "greatest"]) fun _ _ _ _ _ _ us hl => match us, hl with | [_, _, _], _ => rfl
  have F7 : C8.Def K mg "is_word" s_is_word f7 _ := ⟨⟨⟨_, _, _, _, _, _, _, _, _, _, rfl, l7, c7⟩⟩, PySem.W.mg_of X G a7, k7⟩
  have b7 := C8.Fun.binds F7.fn rfl (ps := ["value", "words"]) fun _ _ _ _ _ _ us hl => match us, hl with | [_, _], _ => rfl
  have F8 : C8.Def K mg "possible_tellings" s_possible_tellings f8 _ := ⟨⟨⟨_, _, _, _, _, _, _, _, _, _, rfl, l8, c8⟩⟩, PySem.W.mg_of X G a8, k8⟩
  have b8 := C8.Fun.binds F8.fn rfl (ps := ["stop"]) fun _ _ _ _ _ _ us hl => match us, hl with | [_], _ => rfl
  have F9 : C8.Def K mg "is_loop_power" s_is_loop_power f9 _ := ⟨⟨⟨_, _, _, _, _, _, _, _, _, _, rfl, l9, c9⟩⟩, PySem.W.mg_of X G a9, k9⟩
  have b9 := C8.Fun.binds F9.fn rfl (ps := ["k"]) fun _ _ _ _ _ _ us hl => match us, hl with | [_], _ => rfl
  have F10 : C8.Def K mg "greatest_c" s_greatest_c f10 _ := ⟨⟨⟨_, _, _, _, _, _, _, _, _, _, rfl, l10, c10⟩⟩, PySem.W.mg_of X G a10, k10⟩
  have b10 := C8.Fun.binds F10.fn rfl (ps := ["k", "a"]) fun _ _ _ _ _ _ us hl => match us, hl with | [_, _], _ => rfl
  have F11 : C8.Def K mg "wrong_part" s_wrong_part f11 _ := ⟨⟨⟨_, _, _, _, _, _, _, _, _, _, rfl, l11, c11⟩⟩, PySem.W.mg_of X G a11, k11⟩
  have b11 := C8.Fun.binds F11.fn rfl (ps := ["k", "a", "c", "d", "stop", "told", "mend"]) fun _ _ _ _ _ _ us hl => match us, hl with | [_, _, _, _, _, _, _], _ => rfl
  have F12 : C8.Fun K "__init__" "Average.__init__" s_Average___init__ f12 _ := ⟨⟨_, _, _, _, _, _, _, _, _, _, rfl, l12, c12⟩⟩
  have b12 := binds_full (fd := PySem.W.fnOf "__init__" "Average.__init__" (C8.fnArgs s_Average___init__) (C8.fnBody s_Average___init__) (C8.fnScope s_Average___init__) (.ref T12) kV12 dc12 pm12 an12 cd12 ct12) (ps := ["self", "k", "a", "c", "d", "stop", "told", "mend"]) lT12 rfl fun us hl => match us, hl with | [_, _, _, _, _, _, _, _], _ => ⟨_, rfl, rfl⟩
  have F13 : C8.Fun K "__eq__" "Average.__eq__" s_Average___eq__ f13 _ := ⟨⟨_, _, _, _, _, _, _, _, _, _, rfl, l13, c13⟩⟩
  have b13 := C8.Fun.binds F13 rfl (ps := ["self", "other"]) fun _ _ _ _ _ _ us hl => match us, hl with | [_, _], _ => rfl
  have F14 : C8.Def K mg "_law_loop" s_Lloop f14 _ := ⟨⟨⟨_, _, _, _, _, _, _, _, _, _, rfl, l14, c14⟩⟩, PySem.W.mg_of X G a14, k14⟩
  have b14 := C8.Fun.binds F14.fn rfl (ps := ["_law_parts_here"]) fun _ _ _ _ _ _ us hl => match us, hl with | [_], _ => rfl
  have F15 : C8.Def K mg "require_field" s_require_field f15 _ := ⟨⟨⟨_, _, _, _, _, _, _, _, _, _, rfl, l15, c15⟩⟩, PySem.W.mg_of X G a15, k15⟩
  have b15 := C8.Fun.binds F15.fn rfl (ps := ["field"]) fun _ _ _ _ _ _ us hl => match us, hl with | [_], _ => rfl
  have F16 : C8.Def K mg "changed" s_changed f16 _ := ⟨⟨⟨_, _, _, _, _, _, _, _, _, _, rfl, l16, c16⟩⟩, PySem.W.mg_of X G a16, k16⟩
  have b16 := C8.Fun.binds F16.fn rfl (ps := ["loop", "field", "value"]) fun _ _ _ _ _ _ us hl => match us, hl with | [_, _, _], _ => rfl
  have F17 : C8.Def K mg "_law_refused_part" s_Lrefused_part f17 _ := ⟨⟨⟨_, _, _, _, _, _, _, _, _, _, rfl, l17, c17⟩⟩, PySem.W.mg_of X G a17, k17⟩
  have b17 := C8.Fun.binds F17.fn rfl (ps := ["_law_parts_here"]) fun _ _ _ _ _ _ us hl => match us, hl with | [_], _ => rfl
  have F18 : C8.Def K mg "_law_tried" s_Ltried f18 _ := ⟨⟨⟨_, _, _, _, _, _, _, _, _, _, rfl, l18, c18⟩⟩, PySem.W.mg_of X G a18, k18⟩
  have b18 := C8.Fun.binds F18.fn rfl (ps := ["_law_loop_here", "_law_field", "_law_value"]) fun _ _ _ _ _ _ us hl => match us, hl with | [_, _, _], _ => rfl
  have F19 : C8.Fun K "law" "law" s_law fa _ := ⟨⟨_, _, _, _, _, _, _, _, _, _, rfl, l19, c19⟩⟩
  refine ⟨PySem.W.fnOf "law" "law" (C8.fnArgs s_law) (C8.fnBody s_law) (C8.fnScope s_law) .none kV19 dc19 pm19 an19 cd19 ct19, fun s v => .of_eq rfl, fun base _ _ => ?_⟩
  have c_Lstream : C8.Cal l.prog w K mg base 1 "_law_stream" (spStream K) [] := ok_Lstream F0 b0 T
  have c_Ldraw : C8.Cal l.prog w K mg base 1 "_law_draw" (spDraw) [] := ok_Ldraw F1 b1 T
  have c_Lpick : C8.Cal l.prog w K mg base 2 "_law_pick" (spPick K) [] := ok_Lpick F2 b2 T c_Ldraw
  have c_Lweights : C8.Cal l.prog w K mg base 1 "_law_weights" (spWts) [] := ok_Lweights F3 b3 T
  have c_Lparts : C8.Cal l.prog w K mg base 3 "_law_parts" (spParts) [] := ok_Lparts F4 b4 T c_Lpick c_Ldraw c_Lweights
  have c_is_int : C8.Cal l.prog w K mg base 1 "is_int" (spIsInt K) [] := ok_is_int F5 b5 T
  have c_is_within : C8.Cal l.prog w K mg base 2 "is_within" (spIsWithin K) [] := ok_is_within F6 b6 T c_is_int
  have c_is_word : C8.Cal l.prog w K mg base 1 "is_word" (spIsWord K) [] := ok_is_word F7 b7 T
  have c_possible_tellings : C8.Cal l.prog w K mg base 1 "possible_tellings" (spTellings K) [] := ok_possible_tellings F8 b8 T
  have c_is_loop_power : C8.Cal l.prog w K mg base 3 "is_loop_power" (spIsLP K) [] := ok_is_loop_power F9 b9 T c_is_within
  have c_greatest_c : C8.Cal l.prog w K mg base 1 "greatest_c" (spGreatC) [] := ok_greatest_c F10 b10 T
  have c_wrong_part_ok : C8.Cal l.prog w K mg base 4 "wrong_part" (spWrongOk) [] := ok_wrong_part_ok F11 b11 T c_is_loop_power c_is_within c_is_word c_greatest_c c_possible_tellings
  have m_Average_ok : C8.Mak l.prog w K mg base 5 "Average" C_Average (spAvgInit C_Average) [] := ok_Average___init___ok F12 b12 ⟨mkAverage, a12, i12, kcAverage⟩ (PySem.W.mg_of X G aAverage) T A_ c_wrong_part_ok
  have k___eq__ : C8.Met l.prog w K mg base 1 C_Average "__eq__" (spAvgEq K C_Average) [] := ok_Average___eq__ F13 b13 cl_Average ⟨a13, i13, k13⟩ T g_Average A_ ct_Average
  have c_wrong_part_any : C8.Cal l.prog w K mg base 4 "wrong_part" (spWrong K) [] := ok_wrong_part_any F11 b11 T c_is_loop_power c_is_within c_is_word c_greatest_c c_possible_tellings
  have m_Average_x : QX.Mak l.prog w K mg base 5 "Average" C_Average (spAvgX K C_Average C_BadLoop) [] := ok_Average___init___x F12 b12 ⟨mkAverage, a12, i12, kcAverage⟩ (PySem.W.mg_of X G aAverage) T e_BadLoop A_ c_wrong_part_any
  have c_Lloop_x : QX.Cal l.prog w K mg base 7 "_law_loop" (spLoopX C_Average C_BadLoop) := ok_Lloop_x F14 b14 T m_Average_x
  have c_Lloop : C8.Cal l.prog w K mg base 7 "_law_loop" (spLoop C_Average) [] := ok_Lloop F14 b14 T m_Average_ok
  have c_require_field_x : QX.Cal l.prog w K mg base 2 "require_field" (spReqField K C_BadField) := ok_require_field_x F15 b15 T e_BadField c_is_word
  have c_changed_x : QX.Cal l.prog w K mg base 7 "changed" (spChanged K C_Average C_BadField C_BadLoop) := ok_changed_x F16 b16 T A_ c_require_field_x m_Average_x
  have c_Lrefused_part : C8.Cal l.prog w K mg base 8 "_law_refused_part" (spRefPart) [] := ok_Lrefused_part F17 b17 T e_BadLoop c_Lloop_x
  have c_Ltried : C8.Cal l.prog w K mg base 8 "_law_tried" (spTried K C_Average) [] := ok_Ltried F18 b18 T e_BadLoop e_BadField x_BadLoop_BadField c_changed_x
  exact ok_law F19 T ne_Average ct_Average c_Lstream c_Lparts c_Lloop c_Lrefused_part c_Ltried k___eq__
end Q
open PySem PySem.W PyProof.Rows
set_option maxRecDepth 100000 in
set_option maxHeartbeats 0 in
theorem PySem.Challenge.cw_floorward_k22_fields_changed_holds : PySem.Challenge.rw_floorward_k22_fields_changed.Holds := by
  w_on; o_law; k_head; (case hw => w_witness2)
  k_fill
  refine L2.walk_of (l := PySem.Challenge.rw_floorward_k22_fields_changed) (n := 63) (k := 9) (x := "_law_script") (CX := fun _ => C8.CX0) (sp := fun w => Q.spLaw _) rfl (by decide) rfl ⟨rfl, by decide, by decide⟩ (fun w h Y => PySem.W.kIn_of Y) ?F (fun _ _ a ns hl _ hS => ⟨a, ns, rfl, hS, hl, fun _ => rfl⟩) fun _ _ _ _ _ z => z
  case F =>
    intro w mg fa h KX G hmg
    refine' Q.all_mk KX G hmg ?aAverage ?pgAverage ?hdAverage ?poAverage ?saAverage ?mkAverage ?kcAverage ?pCAverage ?pGAverage ?pTAverage ?pIAverage ?pYAverage ?pntupleAverage ?pnNoneTypeAverage ?pnstrAverage ?pOAverage ?pNAverage ?nAk ?nAa ?nAc ?nAd ?nAstop ?nAtold ?nAmend ?E_BadLoop_aC ?E_BadLoop_xC ?E_BadLoop_bC ?E_BadLoop_xS ?E_BadLoop_sa ?E_BadLoop_ga ?E_BadLoop_gg ?E_BadLoop_nb ?E_BadLoop_iC ?E_BadLoop_tI ?E_BadLoop_kC ?E_BadLoop_eC ?E_BadLoop_tC ?E_BadLoop_hC ?E_BadLoop_cC ?E_BadLoop_sC ?E_BadLoop_mC ?E_BadLoop_vC ?E_BadLoop_uC ?E_BadLoop_anyC ?E_BadLoop_sup ?E_BadLoop_top ?E_BadLoop_lI ?E_BadLoop_cI ?E_BadLoop_lcd ?E_BadLoop_hvs ?E_BadLoop_hfile ?E_BadLoop_lcc ?E_BadLoop_same ?E_BadField_aC ?E_BadField_xC ?E_BadField_bC ?E_BadField_xS ?E_BadField_sa ?E_BadField_ga ?E_BadField_gg ?E_BadField_nb ?E_BadField_iC ?E_BadField_tI ?E_BadField_kC ?E_BadField_eC ?E_BadField_tC ?E_BadField_hC ?E_BadField_cC ?E_BadField_sC ?E_BadField_mC ?E_BadField_vC ?E_BadField_uC ?E_BadField_anyC ?E_BadField_sup ?E_BadField_top ?E_BadField_lI ?E_BadField_cI ?E_BadField_lcd ?E_BadField_hvs ?E_BadField_hfile ?E_BadField_lcc ?E_BadField_same ?X_BadLoop_BadField ?a0 ?l0 ?c0 ?k0 ?a1 ?l1 ?c1 ?k1 ?a2 ?l2 ?c2 ?k2 ?a3 ?l3 ?c3 ?k3 ?a4 ?l4 ?c4 ?k4 ?a5 ?l5 ?c5 ?k5 ?a6 ?l6 ?c6 ?k6 ?a7 ?l7 ?c7 ?k7 ?a8 ?l8 ?c8 ?k8 ?a9 ?l9 ?c9 ?k9 ?a10 ?l10 ?c10 ?k10 ?a11 ?l11 ?c11 ?k11 ?a12 ?i12 ?l12 ?lT12 ?c12 ?k12 ?a13 ?i13 ?l13 ?c13 ?k13 ?a14 ?l14 ?c14 ?k14 ?a15 ?l15 ?c15 ?k15 ?a16 ?l16 ?c16 ?k16 ?a17 ?l17 ?c17 ?k17 ?a18 ?l18 ?c18 ?k18 ?a19 ?l19 ?c19 ?k19 ?z_abs ?z_bool ?z_enumerate ?z_int ?z_isinstance ?z_len ?z_list ?z_min ?z_range ?z_str ?g_FIELDS ?l_FIELDS ?g_LOOKS ?l_LOOKS ?g_MENDS ?l_MENDS ?g_MOST_WEIGHT ?g_STOPS ?l_STOPS ?g_TELLINGS ?l_TELLINGS
    (case aAverage => k_is)
    (case pgAverage => k_is)
    (case hdAverage => k_is)
    (case poAverage => k_is)
    (case saAverage => k_is)
    (case mkAverage => k_is)
    (case kcAverage => k_is)
    (case pCAverage => k_is)
    (case pGAverage => k_is)
    (case pTAverage => k_is)
    (case pIAverage => k_is)
    (case pYAverage => k_is)
    (case pntupleAverage => k_is)
    (case pnNoneTypeAverage => k_is)
    (case pnstrAverage => k_is)
    (case pOAverage => k_is)
    (case pNAverage => k_is)
    (case nAk => k_is)
    (case nAa => k_is)
    (case nAc => k_is)
    (case nAd => k_is)
    (case nAstop => k_is)
    (case nAtold => k_is)
    (case nAmend => k_is)
    (case E_BadLoop_aC => k_is)
    (case E_BadLoop_xC => k_is)
    (case E_BadLoop_bC => decide +kernel)
    (case E_BadLoop_xS => k_is)
    (case E_BadLoop_sa => k_is)
    (case E_BadLoop_ga => k_is)
    (case E_BadLoop_gg => k_is)
    (case E_BadLoop_nb => k_is)
    (case E_BadLoop_iC => k_is)
    (case E_BadLoop_tI => k_is)
    (case E_BadLoop_kC => k_is)
    (case E_BadLoop_eC => k_is)
    (case E_BadLoop_tC => k_is)
    (case E_BadLoop_hC => k_is)
    (case E_BadLoop_cC => k_is)
    (case E_BadLoop_sC => k_is)
    (case E_BadLoop_mC => k_is)
    (case E_BadLoop_vC => k_is)
    (case E_BadLoop_uC => k_is)
    (case E_BadLoop_anyC => k_is)
    (case E_BadLoop_sup => k_is)
    (case E_BadLoop_top => decide +kernel)
    (case E_BadLoop_lI => k_is)
    (case E_BadLoop_cI => k_is)
    (case E_BadLoop_lcd => k_is)
    (case E_BadLoop_hvs => rfl)
    (case E_BadLoop_hfile => rfl)
    (case E_BadLoop_lcc => k_is)
    (case E_BadLoop_same => decide)
    (case E_BadField_aC => k_is)
    (case E_BadField_xC => k_is)
    (case E_BadField_bC => decide +kernel)
    (case E_BadField_xS => k_is)
    (case E_BadField_sa => k_is)
    (case E_BadField_ga => k_is)
    (case E_BadField_gg => k_is)
    (case E_BadField_nb => k_is)
    (case E_BadField_iC => k_is)
    (case E_BadField_tI => k_is)
    (case E_BadField_kC => k_is)
    (case E_BadField_eC => k_is)
    (case E_BadField_tC => k_is)
    (case E_BadField_hC => k_is)
    (case E_BadField_cC => k_is)
    (case E_BadField_sC => k_is)
    (case E_BadField_mC => k_is)
    (case E_BadField_vC => k_is)
    (case E_BadField_uC => k_is)
    (case E_BadField_anyC => k_is)
    (case E_BadField_sup => k_is)
    (case E_BadField_top => decide +kernel)
    (case E_BadField_lI => k_is)
    (case E_BadField_cI => k_is)
    (case E_BadField_lcd => k_is)
    (case E_BadField_hvs => rfl)
    (case E_BadField_hfile => rfl)
    (case E_BadField_lcc => k_is)
    (case E_BadField_same => decide)
    (case X_BadLoop_BadField => k_is)
    (case a0 => k_is)
    (case l0 => k_is)
    (case c0 => k_is)
    (case k0 => k_is)
    (case a1 => k_is)
    (case l1 => k_is)
    (case c1 => k_is)
    (case k1 => k_is)
    (case a2 => k_is)
    (case l2 => k_is)
    (case c2 => k_is)
    (case k2 => k_is)
    (case a3 => k_is)
    (case l3 => k_is)
    (case c3 => k_is)
    (case k3 => k_is)
    (case a4 => k_is)
    (case l4 => k_is)
    (case c4 => k_is)
    (case k4 => k_is)
    (case a5 => k_is)
    (case l5 => k_is)
    (case c5 => k_is)
    (case k5 => k_is)
    (case a6 => k_is)
    (case l6 => k_is)
    (case c6 => k_is)
    (case k6 => k_is)
    (case a7 => k_is)
    (case l7 => k_is)
    (case c7 => k_is)
    (case k7 => k_is)
    (case a8 => k_is)
    (case l8 => k_is)
    (case c8 => k_is)
    (case k8 => k_is)
    (case a9 => k_is)
    (case l9 => k_is)
    (case c9 => k_is)
    (case k9 => k_is)
    (case a10 => k_is)
    (case l10 => k_is)
    (case c10 => k_is)
    (case k10 => k_is)
    (case a11 => k_is)
    (case l11 => k_is)
    (case c11 => k_is)
    (case k11 => k_is)
    (case a12 => k_is)
    (case i12 => k_is)
    (case l12 => k_is)
    (case lT12 => k_is)
    (case c12 => k_is)
    (case k12 => k_is)
    (case a13 => k_is)
    (case i13 => k_is)
    (case l13 => k_is)
    (case c13 => k_is)
    (case k13 => k_is)
    (case a14 => k_is)
    (case l14 => k_is)
    (case c14 => k_is)
    (case k14 => k_is)
    (case a15 => k_is)
    (case l15 => k_is)
    (case c15 => k_is)
    (case k15 => k_is)
    (case a16 => k_is)
    (case l16 => k_is)
    (case c16 => k_is)
    (case k16 => k_is)
    (case a17 => k_is)
    (case l17 => k_is)
    (case c17 => k_is)
    (case k17 => k_is)
    (case a18 => k_is)
    (case l18 => k_is)
    (case c18 => k_is)
    (case k18 => k_is)
    (case a19 => k_is)
    (case l19 => k_is)
    (case c19 => k_is)
    (case k19 => k_is)
    (case z_abs => k_is)
    (case z_bool => k_is)
    (case z_enumerate => k_is)
    (case z_int => k_is)
    (case z_isinstance => k_is)
    (case z_len => k_is)
    (case z_list => k_is)
    (case z_min => k_is)
    (case z_range => k_is)
    (case z_str => k_is)
    (case g_FIELDS => k_is)
    (case l_FIELDS => k_is)
    (case g_LOOKS => k_is)
    (case l_LOOKS => k_is)
    (case g_MENDS => k_is)
    (case l_MENDS => k_is)
    (case g_MOST_WEIGHT => k_is)
    (case g_STOPS => k_is)
    (case l_STOPS => k_is)
    (case g_TELLINGS => k_is)
    (case l_TELLINGS => k_is)
#print axioms PySem.Challenge.cw_floorward_k22_fields_changed_holds


