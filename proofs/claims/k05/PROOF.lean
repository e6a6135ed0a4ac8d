import PyProof.Rows.All
import Wide.All
import OpenK.AllK
import Wide.FinOn
import HandS.ForExc
import HandS.Comp
import HandS.Iter
import HandS.Codes
import HandS.Wide
import HandS.WideBits
import HandS.EndBits
import HandS.IsInst
import HandS.Defaults
import HandS.ExcInit
import HandS.Style
import HandS.TupAny
import HandS.Rev
import HandS.Conv
import HandS.TryMany
import KE.KExcSuper
import HandS.ExcField
import HandS.WordsExc
import HandS.Deep
import PyProof.P3Eq
import PySem.Challenge.RW_floorward_k05_steps
set_option Elab.async false
set_option linter.all false
set_option maxRecDepth 100000
set_option maxHeartbeats 4000000
namespace Q
open PySem PySem.Spec PyProof.Rows L2
/-! ### heaps -/
/-- all that was tracked is as it was, but at a -/
def SameBut (a : Addr) (H H' : Hp) : Prop := ∀ b o, b ≠ a → H b = some o → H' b = some o
theorem SameBut.refl (a : Addr) (H : Hp) : SameBut a H H := fun _ _ _ h => h
theorem SameBut.trans {a : Addr} {H H1 H2 : Hp} (x : SameBut a H H1) (y : SameBut a H1 H2) : SameBut a H H2 := fun b o n h => y b o n (x b o n h)
theorem Same.but {a : Addr} {H H' : Hp} (x : Same H H') : SameBut a H H' := fun b o _ h => x b o h
theorem SameBut.seq {K : PySem.W.Frag} {a p : Addr} {H H' : Hp} {xs : List V} (x : SameBut a H H') (n : p ≠ a) (h : SqL K H p xs) : SqL K H' p xs := by
  rcases h with (h | ⟨o, h⟩) | h
  · exact .inl (.inl (x _ _ n h))
  · exact .inl (.inr ⟨o, x _ _ n h⟩)
  · exact .inr h
theorem SameBut.seqT {K : PySem.W.Frag} {a p : Addr} {H H' : Hp} {xs : List V} (x : SameBut a H H') (n : p ≠ a) (h : SqT K H p xs) : SqT K H' p xs := by
  rcases h with (h | ⟨o, h⟩) | h
  · exact .inl (.inl (x _ _ n h))
  · exact .inl (.inr ⟨o, x _ _ n h⟩)
  · exact .inr h
theorem Same.seqT {K : PySem.W.Frag} {p : Addr} {H H' : Hp} {xs : List V} (x : Same H H') (h : SqT K H p xs) : SqT K H' p xs := by
  rcases h with (h | ⟨o, h⟩) | h
  · exact .inl (.inl (x _ _ h))
  · exact .inl (.inr ⟨o, x _ _ h⟩)
  · exact .inr h
theorem same_new {H : Hp} {p : Addr} (h : H p = none) (o : HO) : Same H (upd H p o) := fun b u q => by rw [upd_ne (ne_of_none q h)]; exact q
theorem but_new {a : Addr} {H : Hp} {p : Addr} (h : H p = none) (o : HO) : SameBut a H (upd H p o) := Same.but (same_new h o)
theorem but_upd (H : Hp) (a : Addr) (o : HO) : SameBut a H (upd H a o) := fun b u n h => by rw [upd_ne n]; exact h
/-- behind what changes a alone: an address that was free stays apart from what was tracked -/
theorem SameBut.free {a p : Addr} {H H' : Hp} (x : SameBut a H H') (n : p ≠ a) (h : H' p = none) : H p = none := by
  cases q : H p with
  | none => rfl
  | some o =>
    have := x p o n q
    rw [h] at this
    cases this
/-! ### sizes -/
/-- i has at most b bits -/
def Sz (i : Int) (b : Nat) : Prop := i.natAbs < 2 ^ b
instance szDec (i : Int) (b : Nat) : Decidable (Sz i b) := inferInstanceAs (Decidable (i.natAbs < 2 ^ b))
theorem Sz.mono {i : Int} {a b : Nat} (h : Sz i a) (k : a ≤ b) : Sz i b := Nat.lt_of_lt_of_le h (Nat.pow_le_pow_right (by decide) k)
theorem Sz.mul {i j : Int} {a b : Nat} (h : Sz i a) (k : Sz j b) : Sz (i * j) (a + b) := wide_lt h k
theorem Sz.add {i j : Int} {a : Nat} (h : Sz i a) (k : Sz j a) : Sz (i + j) (a + 1) := by
  unfold Sz at *
  rw [Nat.pow_succ]
  omega
theorem Sz.sub {i j : Int} {a : Nat} (h : Sz i a) (k : Sz j a) : Sz (i - j) (a + 1) := by
  unfold Sz at *
  rw [Nat.pow_succ]
  omega
theorem Sz.neg {i : Int} {a : Nat} (h : Sz i a) : Sz (-i) a := by
  unfold Sz at *
  omega
theorem Sz.le {i j : Int} {a : Nat} (h : Sz j a) (h0 : 0 ≤ i) (k : i ≤ j) : Sz i a := by
  unfold Sz at *
  omega
theorem Sz.between {i lo hi : Int} {a : Nat} (h : Sz lo a) (k : Sz hi a) (h0 : lo ≤ i) (h1 : i ≤ hi) : Sz i a := by
  unfold Sz at *
  omega
theorem Sz.pow {i : Int} {a : Nat} (h : Sz i a) (ha : 0 < a) : ∀ k : Nat, Sz (i ^ k) (k * a + 1)
  | 0 => by unfold Sz; simp
  | k + 1 => by
    have ih := Sz.pow h ha k
    rw [Int.pow_succ]
    refine (Sz.mul ih h).mono ?_
    rw [Nat.succ_mul]
    omega
theorem Sz.w {i j : Int} {a b : Nat} (h : Sz i a) (k : Sz j b) (l : a + b ≤ 999998) : CMulW i j :=
  wide_mul (h.mono (Nat.le_succ a)) (k.mono (Nat.le_succ b)) (Nat.succ_pos _) (Nat.succ_pos _) (by omega)
theorem Sz.d {j : Int} {b : Nat} (i : Int) (h0 : 0 < j) (h : Sz j b) (l : b ≤ 8999) : CDivW i j := wide_div h0 (h.mono (Nat.le_succ b)) (Nat.succ_pos _) (by omega)
theorem small (n : Nat) (h : n ≤ 1000) : n ≤ sizeLine := Nat.le_of_lt (small1000 h)
/-! ### the law's stream: a list of three ints -/
def StrAt (H : Hp) (p : Addr) (c : Nat) : Prop := ∃ x y z : Int, H p = some (.lst [.int x, .int y, .int z]) ∧ 0 ≤ x ∧ 0 ≤ y ∧ y < 4294967296 ∧ 0 ≤ z ∧ z ≤ c
theorem StrAt.mono {H : Hp} {p : Addr} {c d : Nat} (h : StrAt H p c) (k : c ≤ d) : StrAt H p d := by
  obtain ⟨x, y, z, h1, h2, h3, h4, h5, h6⟩ := h
  exact ⟨x, y, z, h1, h2, h3, h4, h5, by omega⟩
theorem StrAt.same {H H' : Hp} {p : Addr} {c : Nat} (h : StrAt H p c) (k : Same H H') : StrAt H' p c := by
  obtain ⟨x, y, z, h1, h2⟩ := h
  exact ⟨x, y, z, k _ _ h1, h2⟩
theorem StrAt.but {H H' : Hp} {p a : Addr} {c : Nat} (h : StrAt H p c) (k : SameBut a H H') (n : p ≠ a) : StrAt H' p c := by
  obtain ⟨x, y, z, h1, h2⟩ := h
  exact ⟨x, y, z, k _ _ n h1, h2⟩
theorem StrAt.ne {H : Hp} {p q : Addr} {c : Nat} (h : StrAt H p c) (k : H q = none) : q ≠ p := by
  obtain ⟨x, y, z, h1, _⟩ := h
  exact fun e => by rw [e, h1] at k; cases k
/-! ### the promises of the law's own small defs -/
def spStream (K : PySem.W.Frag) : Sp := fun vs H Q _ => ∃ (a : Addr) (ns : List Int) (k : Nat), vs = [.ref a, .int k] ∧ SqL K H a (ns.map V.int) ∧ ns.length ≤ 63 ∧ k ≤ 1000 ∧
  ∀ (p : Addr) (H' : Hp), H p = none → Same H H' → StrAt H' p 0 → Q (.ref p) H'
def spDraw : Sp := fun vs H Q _ => ∃ (a : Addr) (c : Nat) (m : Int) (b : Nat), vs = [.ref a, .int m] ∧ StrAt H a c ∧ c ≤ 100000 ∧ 0 < m ∧ Sz m b ∧ b ≤ 8999 ∧
  ∀ (r : Int) (H' : Hp), 0 ≤ r → r < m → SameBut a H H' → StrAt H' a (c + 1) → Q (.int r) H'
def spPick (K : PySem.W.Frag) : Sp := fun vs H Q _ => ∃ (a : Addr) (c : Nat) (p : Addr) (xs : List V), vs = [.ref a, .ref p] ∧ StrAt H a c ∧ c ≤ 100000 ∧ p ≠ a ∧ SqL K H p xs ∧ xs ≠ [] ∧ xs.length ≤ 1000 ∧
  ∀ (v : V) (H' : Hp), v ∈ xs → SameBut a H H' → StrAt H' a (c + 1) → Q v H'
def spLPow : Sp := fun vs H Q _ => ∃ (x e : Int) (b : Nat), vs = [.int x, .int e] ∧ 0 ≤ e ∧ Sz x b ∧ 0 < b ∧ (e.toNat + 1) * b + 1 ≤ 999000 ∧ e < 1000 ∧ Q (.int (x ^ e.toNat)) H
/-- the two ways of a choice meet -/
theorem if_join {b : Bool} {ta tb : TE} {σ : L2.St} {H : Hp} {Q : VK} (v : V) (hq : Q v H) (h1 : b = true → ∀ Q : VK, Q v H → ta σ H Q) (h2 : b = false → ∀ Q : VK, Q v H → tb σ H Q) : if b = true then ta σ H Q else tb σ H Q := by
  cases b with
  | true => exact iteT (h1 rfl Q hq)
  | false => exact iteF (h2 rfl Q hq)
/-! ### weights -/
def crow (k a : Int) (j : Nat) : List (Int × Int) := ((([1, 2, 3] : List Int).take j).filter fun c => decide (c * (k - 1) ≤ a) && decide (a + c ≤ 6)).map fun c => (a, c)
def wrow (k a : Int) : List (Int × Int) := (([1, 2, 3] : List Int).filter fun c => decide (c * (k - 1) ≤ a) && decide (a + c ≤ 6)).map fun c => (a, c)
theorem crow_succ {k a z : Int} {j : Nat} (hz : ([1, 2, 3] : List Int)[j]? = some z) : crow k a (j + 1) = crow k a j ++ (if (decide (z * (k - 1) ≤ a) && decide (a + z ≤ 6)) = true then [(a, z)] else []) := by
  unfold crow
  rw [List.take_succ, hz, List.filter_append, List.map_append]
  congr 1
  show List.map _ (List.filter _ [z]) = _
  rw [List.filter_cons]
  split <;> rfl
def wtsTo (k : Int) : Nat → List (Int × Int)
  | 0 => []
  | i + 1 => wtsTo k i ++ wrow k (1 + i)
def wts (k : Int) : List (Int × Int) := wtsTo k 5
theorem wrow_len (k a : Int) : (wrow k a).length ≤ 3 := by
  unfold wrow
  rw [List.length_map]
  exact Nat.le_trans (List.length_filter_le _ _) (by decide)
theorem wtsTo_len (k : Int) : ∀ i, (wtsTo k i).length ≤ 3 * i
  | 0 => Nat.le_refl 0
  | i + 1 => by
    have h1 := wtsTo_len k i
    have h2 := wrow_len k (1 + i)
    unfold wtsTo
    rw [List.length_append]
    omega
theorem wrow_mem {k a : Int} {p : Int × Int} (h : p ∈ wrow k a) : p.1 = a ∧ 1 ≤ p.2 ∧ p.2 ≤ 3 ∧ p.2 * (k - 1) ≤ a ∧ a + p.2 ≤ 6 := by
  unfold wrow at h
  obtain ⟨c, hc, rfl⟩ := List.mem_map.mp h
  obtain ⟨h1, h2⟩ := List.mem_filter.mp hc
  rw [Bool.and_eq_true, decide_eq_true_eq, decide_eq_true_eq] at h2
  have h3 : 1 ≤ c ∧ c ≤ 3 := by
    simp only [List.mem_cons, List.not_mem_nil, or_false] at h1
    omega
  exact ⟨rfl, h3.1, h3.2, h2.1, h2.2⟩
theorem wtsTo_mem {k : Int} {p : Int × Int} : ∀ {i : Nat}, p ∈ wtsTo k i → 1 ≤ p.1 ∧ p.1 ≤ i ∧ 1 ≤ p.2 ∧ p.2 ≤ 3 ∧ p.2 * (k - 1) ≤ p.1 ∧ p.1 + p.2 ≤ 6
  | 0, h => by cases h
  | i + 1, h => by
    unfold wtsTo at h
    rcases List.mem_append.mp h with h | h
    · obtain ⟨h1, h2, h3⟩ := wtsTo_mem h
      exact ⟨h1, by omega, h3⟩
    · obtain ⟨h1, h2, h3, h4, h5⟩ := wrow_mem h
      refine ⟨by omega, by omega, h2, h3, by rw [h1]; exact h4, by omega⟩
theorem wts_mem {k : Int} {p : Int × Int} (h : p ∈ wts k) : 1 ≤ p.1 ∧ p.1 ≤ 5 ∧ 1 ≤ p.2 ∧ p.2 ≤ 3 ∧ p.2 * (k - 1) ≤ p.1 ∧ p.1 + p.2 ≤ 6 := wtsTo_mem h
theorem wts_ne {k : Int} (h0 : 2 ≤ k) (h1 : k ≤ 4) : wts k ≠ [] := by
  have : k = 2 ∨ k = 3 ∨ k = 4 := by omega
  rcases this with rfl | rfl | rfl <;> decide
theorem int_at {ns : List Int} {j : Nat} {x : V} (h : (ns.map V.int)[j]? = some x) : ∃ z, ns[j]? = some z ∧ x = V.int z := by
  rw [List.getElem?_map] at h
  cases e : ns[j]? with
  | none =>
    rw [e] at h
    cases h
  | some z =>
    rw [e] at h
    exact ⟨z, rfl, (Option.some.inj h).symm⟩
/-- a list's items are the tuples of these pairs -/
def Prs (H : Hp) (vs : List V) (ps : List (Int × Int)) : Prop := Paired (fun (v : V) (p : Int × Int) => ∃ r : Addr, v = .ref r ∧ H r = some (.tup [.int p.1, .int p.2])) vs ps
theorem Prs.mono {H H' : Hp} {vs : List V} {ps : List (Int × Int)} (h : Prs H vs ps) (k : ∀ b xs, H b = some (.tup xs) → H' b = some (.tup xs)) : Prs H' vs ps := Paired.mapP h fun v p ⟨r, e, q⟩ => ⟨r, e, k _ _ q⟩
theorem Prs.app {H : Hp} : ∀ {vs ws : List V} {ps qs : List (Int × Int)}, Prs H vs ps → Prs H ws qs → Prs H (vs ++ ws) (ps ++ qs)
  | _, _, _, _, .nil, s => s
  | _, _, _, _, .cons r t, s => .cons r (Prs.app t s)
theorem Prs.mem {H : Hp} : ∀ {vs : List V} {ps : List (Int × Int)} {v : V}, Prs H vs ps → v ∈ vs → ∃ p ∈ ps, ∃ r : Addr, v = .ref r ∧ H r = some (.tup [.int p.1, .int p.2])
  | _, _, v, .nil, h => by cases h
  | _, _, v, .cons (a := a) (b := b) r t, h => by
    rcases List.mem_cons.mp h with rfl | h
    · exact ⟨_, List.mem_cons_self .., r⟩
    · obtain ⟨p, hp, q⟩ := Prs.mem t h
      exact ⟨p, List.mem_cons_of_mem _ hp, q⟩
def spWts : Sp := fun vs H Q _ => ∃ k : Int, vs = [.int k] ∧ 2 ≤ k ∧ k ≤ 4 ∧ ∀ (p : Addr) (acc : List V) (H' : Hp), H p = none → Same H H' → H' p = some (.lst acc) → Prs H' acc (wts k) → Q (.ref p) H'
/-! ### an average loop's parts -/
def stops : List Str := ["notless", "equal", "near1", "near2", "back", "under", "held"]
def looks : List Str := ["under", "held"]
def tellings : List Str := ["old", "new", "less", "more"]
def mendings : List Str := ["none", "down", "up", "both"]
structure Parts where
  k : Int
  a : Int
  c : Int
  d : Int
  stop : Str
  told : Str
  mend : Str
structure Parts.Ok (p : Parts) : Prop where
  k2 : 2 ≤ p.k
  k4 : p.k ≤ 4
  a1 : 1 ≤ p.a
  c1 : 1 ≤ p.c
  ca : p.c * (p.k - 1) ≤ p.a
  m6 : p.a + p.c ≤ 6
  d0 : -p.a ≤ p.d
  d1 : p.d ≤ p.a + p.c
  st : p.stop ∈ stops
  te : p.told ∈ tellings
  lo : p.stop ∈ looks → p.told = "old"
  me : p.mend ∈ mendings
def Parts.vs (p : Parts) : List V := [.int p.k, .int p.a, .int p.c, .int p.d, .str p.stop, .str p.told, .str p.mend]
def spParts : Sp := fun vs H Q _ => ∃ (a : Addr) (c : Nat), vs = [.ref a] ∧ StrAt H a c ∧ c ≤ 90000 ∧ ∀ (p : Addr) (H' : Hp) (L : Parts), H p = none → SameBut a H H' → StrAt H' a (c + 10) → H' p = some (.tup L.vs) → L.Ok → Q (.ref p) H'
theorem inV_str (s : Str) (l : List Str) : inV (.str s) (l.map V.str) = decide (s ∈ l) := by
  unfold inV
  rw [List.any_map]
  induction l with
  | nil => rfl
  | cons x l ih =>
    rw [List.any_cons, ih]
    show ((x == s) || decide (s ∈ l)) = decide (s ∈ x :: l)
    by_cases h : x = s
    · subst h
      simp
    · have h1 : (x == s) = false := by simpa using h
      have h2 : ¬ s = x := fun e => h e.symm
      rw [h1, Bool.false_or]
      simp [h2]
/-- two-argument max and min of ints, as the rules tell them -/
theorem max2 (i j : Int) : (if j > i then j else i) = max i j := by omega
theorem min2 (i j : Int) : (if j < i then j else i) = min i j := by omega
/-! ### is it an integer -/
/-- the value is an int that is no bool (b), or it is none -/
def IsI (K : PySem.W.Frag) (H : Hp) (x : V) (b : Bool) : Prop := ∃ (t : Value) (b1 b2 : Bool), TyX K H x t ∧ PySem.W.kitOne K t (.type "int") = some b1 ∧ PySem.W.kitOne K t (.type "bool") = some b2 ∧ b = (b1 && !b2)
theorem isI_int (K : PySem.W.Frag) (H : Hp) (i : Int) : IsI K H (.int i) true := ⟨_, true, false, .base (.int i), kit_ty (by decide +kernel), kit_ty (by decide +kernel), rfl⟩
theorem isI_bl (K : PySem.W.Frag) (H : Hp) (x : Bool) : IsI K H (.bl x) false := ⟨_, true, true, .base (.bl x), kit_ty (by decide +kernel), kit_ty (by decide +kernel), rfl⟩
theorem isI_non (K : PySem.W.Frag) (H : Hp) : IsI K H .non false := ⟨_, false, false, .base .non, kit_ty (by decide +kernel), kit_ty (by decide +kernel), rfl⟩
theorem isI_str (K : PySem.W.Frag) (H : Hp) (x : Str) : IsI K H (.str x) false := ⟨_, false, false, .base (.str x), kit_ty (by decide +kernel), kit_ty (by decide +kernel), rfl⟩
theorem isI_lst (K : PySem.W.Frag) {H : Hp} {a : Addr} {xs : List V} (h : H a = some (.lst xs)) : IsI K H (.ref a) false := ⟨_, false, false, .base (.lst h), kit_ty (by decide +kernel), kit_ty (by decide +kernel), rfl⟩
theorem isI_tup (K : PySem.W.Frag) {H : Hp} {a : Addr} {xs : List V} (h : H a = some (.tup xs)) : IsI K H (.ref a) false := ⟨_, false, false, .base (.tup h), kit_ty (by decide +kernel), kit_ty (by decide +kernel), rfl⟩
def spIsInt (K : PySem.W.Frag) : Sp := fun vs H Q _ => ∃ (x : V) (b : Bool), vs = [x] ∧ IsI K H x b ∧ Q (.bl b) H
def spIsFrom (K : PySem.W.Frag) : Sp := fun vs H Q _ => ∃ (x : V) (l : Int), vs = [x, .int l] ∧ ((∃ i, x = .int i ∧ Q (.bl (decide (l ≤ i))) H) ∨ (IsI K H x false ∧ Q (.bl false) H))
def spIsWithin (K : PySem.W.Frag) : Sp := fun vs H Q _ => ∃ (x : V) (l m : Int), vs = [x, .int l, .int m] ∧ ((∃ i, x = .int i ∧ Q (.bl (decide (l ≤ i) && decide (i ≤ m))) H) ∨ (IsI K H x false ∧ Q (.bl false) H))
def spIsLP (K : PySem.W.Frag) : Sp := fun vs H Q _ => ∃ (x : V), vs = [x] ∧ ((∃ i, x = .int i ∧ Q (.bl (decide (2 ≤ i) && decide (i ≤ 4))) H) ∨ (IsI K H x false ∧ Q (.bl false) H))
def spGreatC : Sp := fun vs H Q _ => ∃ (k a : Int), vs = [.int k, .int a] ∧ 2 ≤ k ∧ k ≤ 4 ∧ 1 ≤ a ∧ a ≤ 5 ∧ Q (.int (if 6 - a < a / (k - 1) then 6 - a else a / (k - 1))) H
def spReqNum : Sp := fun vs H Q _ => ∃ n : Int, vs = [.int n] ∧ 0 ≤ n ∧ Q .non H
def spReqStart : Sp := fun vs H Q _ => ∃ n : Int, vs = [.int n] ∧ 1 ≤ n ∧ Q .non H
def spPow (n : Nat) : Sp := fun vs H Q _ => ∃ (x e : Int) (b : Nat), vs = [.int x, .int e] ∧ 0 ≤ e ∧ e.toNat < n ∧ Sz x b ∧ 0 < b ∧ (e.toNat + 1) * b + 1 ≤ 499000 ∧ e ≤ 1000 ∧ Q (.int (x ^ e.toNat)) H
def spIsWord (K : PySem.W.Frag) : Sp := fun vs H Q _ => ∃ (x : V) (p : Addr) (l : List Str), vs = [x, .ref p] ∧ SqT K H p (l.map V.str) ∧
  ((∃ s, x = .str s ∧ Q (.bl (decide (s ∈ l))) H) ∨ ((∃ t, TyX K H x t ∧ PySem.W.kitOne K t (.type "str") = some false) ∧ Q (.bl false) H))
def tellingsOf (stop : Str) : List Str := if stop ∈ looks then ["old"] else tellings
def spTellings (K : PySem.W.Frag) : Sp := fun vs H Q _ => ∃ stop : Str, vs = [.str stop] ∧ ∀ (p : Addr) (H' : Hp), Same H H' → SqT K H' p ((tellingsOf stop).map V.str) → Q (.ref p) H'
def spWrongOk : Sp := fun vs H Q _ => ∃ L : Parts, vs = L.vs ∧ L.Ok ∧ ∀ H' : Hp, Same H H' → Q .non H'
theorem Parts.Ok.told_ok {L : Parts} (h : L.Ok) : L.told ∈ tellingsOf L.stop := by
  unfold tellingsOf
  split
  · rename_i c
    rw [h.lo c]
    decide
  · exact h.te
/-! ### the loop as an object -/
structure AvgTxt (K : PySem.W.Frag) (C : Addr) : Prop where
  cl : Cls K C
  nk : NoAttr K C "k"
  na : NoAttr K C "a"
  nc : NoAttr K C "c"
  nd : NoAttr K C "d"
  ns : NoAttr K C "stop"
  nt : NoAttr K C "told"
  nm : NoAttr K C "mend"
def avgF (L : Parts) : List (Str × V) :=
  putF "mend" (.str L.mend) (putF "told" (.str L.told) (putF "stop" (.str L.stop) (putF "d" (.int L.d) (putF "c" (.int L.c) (putF "a" (.int L.a) (putF "k" (.int L.k) []))))))
theorem putF_len (f : Str) (v : V) : ∀ fs : List (Str × V), (putF f v fs).length ≤ fs.length + 1
  | [] => Nat.le_refl 1
  | (g, x) :: r => by
    show (if g = f then (g, v) :: r else (g, x) :: putF f v r).length ≤ r.length + 1 + 1
    split
    · exact Nat.le_succ _
    · exact Nat.succ_le_succ (putF_len f v r)
theorem avgF_no (L : Parts) {m : Str} (h1 : ¬ m = "mend") (h2 : ¬ m = "told") (h3 : ¬ m = "stop") (h4 : ¬ m = "d") (h5 : ¬ m = "c") (h6 : ¬ m = "a") (h7 : ¬ m = "k") : (avgF L).lookup m = none := by
  unfold avgF
  rw [lookup_putF, if_neg h1, lookup_putF, if_neg h2, lookup_putF, if_neg h3, lookup_putF, if_neg h4, lookup_putF, if_neg h5, lookup_putF, if_neg h6, lookup_putF, if_neg h7]
  rfl
theorem avgF_k (L : Parts) : (avgF L).lookup ("k" : Str) = some (.int L.k) := by
  unfold avgF
  rw [lookup_putF, if_neg (by decide +kernel), lookup_putF, if_neg (by decide +kernel), lookup_putF, if_neg (by decide +kernel), lookup_putF, if_neg (by decide +kernel), lookup_putF, if_neg (by decide +kernel), lookup_putF, if_neg (by decide +kernel), lookup_putF, if_pos rfl]
theorem avgF_a (L : Parts) : (avgF L).lookup ("a" : Str) = some (.int L.a) := by
  unfold avgF
  rw [lookup_putF, if_neg (by decide +kernel), lookup_putF, if_neg (by decide +kernel), lookup_putF, if_neg (by decide +kernel), lookup_putF, if_neg (by decide +kernel), lookup_putF, if_neg (by decide +kernel), lookup_putF, if_pos rfl]
theorem avgF_c (L : Parts) : (avgF L).lookup ("c" : Str) = some (.int L.c) := by
  unfold avgF
  rw [lookup_putF, if_neg (by decide +kernel), lookup_putF, if_neg (by decide +kernel), lookup_putF, if_neg (by decide +kernel), lookup_putF, if_neg (by decide +kernel), lookup_putF, if_pos rfl]
theorem avgF_d (L : Parts) : (avgF L).lookup ("d" : Str) = some (.int L.d) := by
  unfold avgF
  rw [lookup_putF, if_neg (by decide +kernel), lookup_putF, if_neg (by decide +kernel), lookup_putF, if_neg (by decide +kernel), lookup_putF, if_pos rfl]
theorem avgF_stop (L : Parts) : (avgF L).lookup ("stop" : Str) = some (.str L.stop) := by
  unfold avgF
  rw [lookup_putF, if_neg (by decide +kernel), lookup_putF, if_neg (by decide +kernel), lookup_putF, if_pos rfl]
theorem avgF_told (L : Parts) : (avgF L).lookup ("told" : Str) = some (.str L.told) := by
  unfold avgF
  rw [lookup_putF, if_neg (by decide +kernel), lookup_putF, if_pos rfl]
theorem avgF_mend (L : Parts) : (avgF L).lookup ("mend" : Str) = some (.str L.mend) := by
  unfold avgF
  rw [lookup_putF, if_pos rfl]
def AvgAt (C : Addr) (H : Hp) (p : Addr) (L : Parts) : Prop := ∃ dx : Addr, H p = some (.ins C dx (avgF L))
def spAvgInit (C : Addr) : Sp := fun vs H Q _ => ∃ (x dx : Addr) (L : Parts), vs = .ref x :: L.vs ∧ L.Ok ∧ H x = some (.ins C dx []) ∧ ∀ H', AvgAt C H' x L → SameBut x H H' → Q .non H'
def stepZ (L : Parts) (n x : Int) : Int := (L.a * x + L.c * (n / x ^ (L.k - 1).toNat) + L.d) / (L.a + L.c)
def spNext (C : Addr) : Sp := fun vs H Q _ => ∃ (p : Addr) (L : Parts) (n x : Int) (b : Nat), vs = [.ref p, .int n, .int x] ∧ AvgAt C H p L ∧ L.Ok ∧ 0 ≤ n ∧ 1 ≤ x ∧ Sz x b ∧ 0 < b ∧ b ≤ 2000 ∧ Q (.int (stepZ L n x)) H
theorem Same.keep {H H1 H2 : Hp} {a : Addr} (s : Same H H1) (n : H a = none) (b : SameBut a H1 H2) : Same H H2 := fun c o e => b c o (ne_of_none e n) (s c o e)
theorem Sz.ub {i : Int} {b : Nat} (h : Sz i b) : i < 2 ^ b := by
  have e : ((2 ^ b : Nat) : Int) = (2 : Int) ^ b := by rw [Int.natCast_pow] <;> rfl
  unfold Sz at h
  omega
theorem Sz.lb {i : Int} {b : Nat} (h : Sz i b) : -(2 ^ b) < i := by
  have e : ((2 ^ b : Nat) : Int) = (2 : Int) ^ b := by rw [Int.natCast_pow] <;> rfl
  unfold Sz at h
  omega
theorem Sz.mk {i : Int} {b : Nat} (h : -(2 ^ b) < i) (k : i < 2 ^ b) : Sz i b := by
  have e : ((2 ^ b : Nat) : Int) = (2 : Int) ^ b := by rw [Int.natCast_pow] <;> rfl
  unfold Sz
  omega
def spLaw (K : PySem.W.Frag) : Sp := fun vs H Q _ => ∃ (a : Addr) (ns : List Int), vs = [.ref a] ∧ SqL K H a (ns.map V.int) ∧ ns.length ≤ 63 ∧ ∀ H', Q (.bl true) H'
/-- a new object and its __init__ -/
theorem made_same {H H3 : Hp} {x dx C : Addr} (nx : H x = none) (nd : H dx = none) (b : SameBut x (upd (upd H dx (.own x)) x (.ins C dx [])) H3) : Same H H3 := fun c o e =>
  b c o (ne_of_none e nx) (by rw [upd_ne (ne_of_none e nx), upd_ne (ne_of_none e nd)]; exact e)
/-! ### gaps (law k10) -/
theorem pw2 (x : Int) : x ^ (2 : Int).toNat = x * x := by
  show x ^ 2 = x * x
  rw [Int.pow_succ, Int.pow_succ, Int.pow_zero, Int.one_mul]
theorem pw1 (x : Int) : x ^ (1 : Int).toNat = x := by
  show x ^ 1 = x
  rw [Int.pow_succ, Int.pow_zero, Int.one_mul]
theorem pw3 (x : Int) : x ^ (3 : Int).toNat = x * x * x := by
  show x ^ 3 = x * x * x
  rw [Int.pow_succ, Int.pow_succ, Int.pow_succ, Int.pow_zero, Int.one_mul]
theorem pw4 (x : Int) : x ^ (4 : Int).toNat = x * x * x * x := by
  show x ^ 4 = x * x * x * x
  rw [Int.pow_succ, Int.pow_succ, Int.pow_succ, Int.pow_succ, Int.pow_zero, Int.one_mul]
/-- the quotient is never below what makes q nought -/
theorem amgm {k r i : Int} (hk : k = 2 ∨ k = 3 ∨ k = 4) (hr : 1 ≤ r) (hx : 1 ≤ r + i) : (r - (k - 1) * i) * (r + i) ^ (k - 1).toNat ≤ r ^ k.toNat := by
  have sq : 0 ≤ i * i := by
    rcases Int.le_total 0 i with h | h
    · exact Int.mul_nonneg h h
    · exact Int.mul_nonneg_of_nonpos_of_nonpos h h
  rcases hk with rfl | rfl | rfl
  · show (r - (2 - 1) * i) * (r + i) ^ (1 : Int).toNat ≤ r ^ (2 : Int).toNat
    rw [pw1, pw2]
    have e : r * r - (r - (2 - 1) * i) * (r + i) = i * i := by grind
    omega
  · show (r - (3 - 1) * i) * (r + i) ^ (2 : Int).toNat ≤ r ^ (3 : Int).toNat
    rw [pw2, pw3]
    have e : r * r * r - (r - (3 - 1) * i) * ((r + i) * (r + i)) = i * i * (r + 2 * (r + i)) := by grind
    have h : 0 ≤ i * i * (r + 2 * (r + i)) := Int.mul_nonneg sq (by omega)
    omega
  · show (r - (4 - 1) * i) * (r + i) ^ (3 : Int).toNat ≤ r ^ (4 : Int).toNat
    rw [pw3, pw4]
    have e : r * r * r * r - (r - (4 - 1) * i) * ((r + i) * (r + i) * (r + i)) = i * i * (6 * (r * r) + 8 * (r * i) + 3 * (i * i)) := by grind
    have sq2 : 0 ≤ (3 * r + 2 * i) * (3 * r + 2 * i) := by
      rcases Int.le_total 0 (3 * r + 2 * i) with h | h
      · exact Int.mul_nonneg h h
      · exact Int.mul_nonneg_of_nonpos_of_nonpos h h
    have e2 : 3 * (6 * (r * r) + 8 * (r * i) + 3 * (i * i)) = 2 * ((3 * r + 2 * i) * (3 * r + 2 * i)) + i * i := by grind
    have h : 0 ≤ i * i * (6 * (r * r) + 8 * (r * i) + 3 * (i * i)) := Int.mul_nonneg sq (by omega)
    omega
def nearZ (k r i j : Int) : Int := (r + i) ^ (k - 1).toNat * (r - (k - 1) * i + j) - r ^ k.toNat
def quoZ (k r i n : Int) : Int := n / (r + i) ^ (k - 1).toNat - r + (k - 1) * i
theorem quo_iff {k r i j s : Int} (hx : 1 ≤ r + i) : j ≤ quoZ k r i (r ^ k.toNat + s) ↔ nearZ k r i j ≤ s := by
  have hp : 0 < (r + i) ^ (k - 1).toNat := Int.pow_pos (by omega)
  unfold quoZ nearZ
  have h := Int.le_ediv_iff_mul_le (a := r - (k - 1) * i + j) (b := r ^ k.toNat + s) hp
  rw [Int.mul_comm (r - (k - 1) * i + j)] at h
  omega
theorem quo_nn {k r i s : Int} (hk : k = 2 ∨ k = 3 ∨ k = 4) (hr : 1 ≤ r) (hx : 1 ≤ r + i) (hs : 0 ≤ s) : 0 ≤ quoZ k r i (r ^ k.toNat + s) := by
  rw [quo_iff hx]
  have h := amgm hk hr hx
  unfold nearZ
  rw [Int.add_zero, Int.mul_comm]
  omega
theorem step_gap {a c d k r i n : Int} (hm : 0 < a + c) : (a * (r + i) + c * (n / (r + i) ^ (k - 1).toNat) + d) / (a + c) = r + ((a - c * (k - 1)) * i + c * quoZ k r i n + d) / (a + c) := by
  unfold quoZ
  generalize n / (r + i) ^ (k - 1).toNat = q
  have e : a * (r + i) + c * q + d = (a - c * (k - 1)) * i + c * (q - r + (k - 1) * i) + d + (a + c) * r := by grind
  rw [e, Int.add_mul_ediv_left _ _ (by omega)]
  omega
def spTurn : Sp := fun vs H Q _ => ∃ (k r i j : Int) (b : Nat), vs = [.int k, .int r, .int i, .int j] ∧ 2 ≤ k ∧ k ≤ 4 ∧ Sz (r + i) b ∧ Sz r b ∧ Sz (r - (k - 1) * i + j) b ∧ 0 < b ∧ b ≤ 1000 ∧ Q (.int (nearZ k r i j)) H
theorem pow_lt_succ {r : Int} {k : Nat} (hr : 0 ≤ r) (hk : 1 ≤ k) : r ^ k < (r + 1) ^ k := by
  induction k with
  | zero => omega
  | succ k ih =>
    rw [Int.pow_succ, Int.pow_succ]
    by_cases h : k = 0
    · subst h
      rw [Int.pow_zero, Int.pow_zero]
      omega
    · have h1 := ih (by omega)
      have h0 : 0 ≤ r ^ k := Int.pow_nonneg hr
      have h2 : r ^ k * r ≤ (r + 1) ^ k * r := Int.mul_le_mul_of_nonneg_right (by omega) hr
      have h3 : (r + 1) ^ k * (r + 1) = (r + 1) ^ k * r + (r + 1) ^ k := by rw [Int.mul_add, Int.mul_one]
      omega
theorem AvgAt.but {C : Addr} {H H' : Hp} {p a : Addr} {L : Parts} (h : AvgAt C H p L) (b : SameBut a H H') (n : p ≠ a) : AvgAt C H' p L := by
  obtain ⟨dx, e⟩ := h
  exact ⟨dx, b _ _ n e⟩
theorem AvgAt.same {C : Addr} {H H' : Hp} {p : Addr} {L : Parts} (h : AvgAt C H p L) (b : Same H H') : AvgAt C H' p L := by
  obtain ⟨dx, e⟩ := h
  exact ⟨dx, b _ _ e⟩
/-- every parameter is given, defaults stand in the tuple at T -/
theorem binds_full {K : PySem.W.Frag} {fd : FuncData} {ps : List Str} {T : Addr} {o : Obj} {its : Array Value} {m : Nat} (lT : K.lookup T = some o) (oT : o.data = .seq its m)
    (h : ∀ us : List Value, us.length = ps.length → ∃ k, bindArgs fd ⟨us, []⟩ = seqItems? (.ref T) >>= k ∧ k (some its) = pure (ps.zip us)) : Binds K fd ps [] := fun s us X hl => by
  rw [List.append_nil] at hl ⊢
  obtain ⟨k, e1, e2⟩ := h us hl
  refine BindsTo.of_looks fun M => ?_
  rw [e1]
  exact looks_items X lT oT (.of_pure e2)
theorem room64 {k : Nat} {A : Around} (r : Room k A) : A.units + 64 < cLine := by
  have := r.un
  omega
/-- go on with any heap of which this is known -/
theorem swap {Φ : Hp → Prop} {H : Hp} (P : Hp → Prop) (h : P H) (q : ∀ G, P G → Φ G) : Φ H := q H h
end Q

set_option Elab.async false
set_option linter.all false
set_option maxRecDepth 100000
set_option maxHeartbeats 4000000
/-! an own error class over FloorError(ValueError) whose __init__ says super().__init__(a text) and then stores its one argument -/
namespace PySem
namespace QErr
open PySem.W PySem.Calls PyProof.Rows PySem.HandSPX
def eA (v : Str) (p1 p2 : Pos) : Arguments := { posonlyargs := [], args := [{ arg := "self", annotation := none, pos := p1 }, { arg := v, annotation := none, pos := p2 }], vararg := none, kwonlyargs := [], kw_defaults := [], kwarg := none, defaults := [] }
def eB (v m : Str) (j : Nat) (q1 q2 q3 q4 q5 q6 q7 q8 q9 q10 : Pos) : List Stmt :=
  [.Expr (.Call (.Attribute (.Call (.Name "super" q1) [] [] q2) "__init__" q3) [.Constant (.str m) j q4] [] q5) q6, .Assign [.Attribute (.Name "self" q7) v q8] (.Name v q9) q10]
def eS (v : Str) : Scope := { kind := .function, names := [(PySem.Str.ofString "self", .local), (v, .local), (PySem.Str.ofString "__class__", .free), (PySem.Str.ofString "super", .globalImplicit)], isGenerator := false, isCoroutine := false, more := [] }
theorem scCell {v : Str} (hv : v = "value" ∨ v = "word" ∨ v = "field") : ∀ y ∈ (eS v).names, y.2 ≠ NameKind.cell := by
  rcases hv with rfl | rfl | rfl <;> decide +kernel
theorem scLook {v : Str} (hv : v = "value" ∨ v = "word" ∨ v = "field") : (eS v).names.lookup v = some NameKind.local := by
  rcases hv with rfl | rfl | rfl <;> decide +kernel
theorem scSelf (v : Str) : (eS v).names.lookup ("self" : Str) = some NameKind.local := rfl
theorem scLoc {v : Str} (hv : v = "value" ∨ v = "word" ∨ v = "field") (a b : Value) : ∀ y ∈ ([("self", a), (v, b)] : List (Str × Value)), (eS v).names.lookup y.1 = some NameKind.local := by
  intro y hy
  simp only [List.mem_cons, List.not_mem_nil, or_false] at hy
  rcases hy with rfl | rfl
  · exact scSelf v
  · exact scLook hv
theorem scSuper {v : Str} (hv : v = "value" ∨ v = "word" ∨ v = "field") : (eS v).names.lookup ("super" : Str) = some NameKind.globalImplicit := by
  rcases hv with rfl | rfl | rfl <;> decide +kernel
theorem scClass {v : Str} (hv : v = "value" ∨ v = "word" ∨ v = "field") : (eS v).names.lookup ("__class__" : Str) = some NameKind.free := by
  rcases hv with rfl | rfl | rfl <;> decide +kernel
structure ErrTxt (prog : Program) (K : Frag) (mg : Str → Option Value) (n v : Str) (C fI : Addr) : Prop where
  gC : mg n = some (.ref C)
  cls : ∃ nm q N bs bm sn sub ab col dd k0 k1 k2 k3 k5, K.lookup C = some (excClassObj nm q C N bs bm true sn sub ab col dd k0 k1 k2 k3 k5 "ValueError.__new__") ∧ refsVE bm = true
  sa : findIn K (.ref C) "__setattr__" = some (some (.builtin "object.__setattr__"))
  ga : findIn K (.ref C) "__getattribute__" = some (some (.builtin "BaseException.__getattribute__"))
  gg : findIn K (.ref C) "__getattr__" = some none
  noN : findIn K (.ref C) v = some none
  iC : findIn K (.ref C) "__init__" = some (some (.ref fI))
  tC : typeIn K (.ref fI) = some (.type "function")
  kC : keepIn K (.ref C) = true
  exC : subIn K (.ref C) (.type "BaseException") = some true
  tyC : typeIn K (.ref C) = some (.type "type")
  hdC : hasDictIn K C = true
  te : exmOne K (.ref C) (.ref C) = some true
  self : mroIn K C (.ref C) = some true
  subV : subIn K (.ref C) (.type "ValueError") = some true
  up : ks_superIn K C C "__init__" = some (some (.builtin "ValueError.__init__"))
  any : nsIn K cStatics "thirdparty.any" = some none
  sup : mg "super" = none
  top : (prog.main.scope.names.lookup ("super" : Str)).isSome = false
  fn : ∃ (qual : Str) (oc : Value) (od : Option Addr) (doc pm : Value) (an : Option Addr) (cda cc : Addr) (ct : Value) (osl : Array (Option Value)) (m : Str) (j : Nat) (p1 p2 q1 q2 q3 q4 q5 q6 q7 q8 q9 q10 : Pos),
    K.lookup fI = some ⟨oc, od, .func (ksFn "__init__" qual (eA v p1 p2) (eB v m j q1 q2 q3 q4 q5 q6 q7 q8 q9 q10) (eS v) .none .none doc pm an (.ref cda) ct cc), osl⟩ ∧ codeIn K (.ref cda) qual = true ∧
    (∃ (ccl : Value) (cdd : Option Addr) (vs : Array Value) (ccs : Array (Option Value)) (file : Str) (tf : Tok), K.lookup cda = some ⟨ccl, cdd, .fields vs, ccs⟩ ∧ vs[2]? = some (.str file tf) ∧ ((prog.main.file : Str) == file) = true) ∧
    (∃ (cl : Value) (cld : Option Addr) (csl : Array (Option Value)), K.lookup cc = some ⟨cl, cld, .cell (some (.ref C)), csl⟩) ∧
    ∃ pl : Env → Sem Bool, ∀ env : Env, eval (.Call (.Attribute (.Call (.Name "super" q1) [] [] q2) "__init__" q3) [.Constant (.str m) j q4] [] q5) env = (do
      let ov ← attributeBase (.Call (.Name "super" q1) [] [] q2) "__init__" env (eval (.Call (.Name "super" q1) [] [] q2) env)
      standAt q3.atName
      let (f, first) ← holding [ov] (getMethod ov "__init__" (pl env))
      callWith q5 f first (backTo q5 (starEach [.Constant (.str m) j q4] env)) [])
/-- what __init__ leaves of a fresh exception at x -/
structure InitEnd (h h' : Heap) (x C dx : Addr) (v : Str) (u : Value) : Prop where
  keep : ∀ b o, b ≠ x → h.get? b = some o → h'.get? b = some o
  obj : ∃ t1 : Addr, h'.get? x = some { cls := .ref C, dict := some dx, data := .fields #[.ref t1, .none, .none, .none, .bool false, .none] }
  dbig : h.objs.size ≤ dx
  dne : dx ≠ x
  ns : h'.Ns1 dx (fun y => if y = v then some u else none)
section
variable {prog : Program} {w : World} {A : Around} {E : Value → Shared → Prop} {R : Result → Shared → Prop} {s : Shared} {K : Frag} {mg : Str → Option Value} {n v : Str} {C fI : Addr}
/-- the bound built-in __init__ is called: the args are laid anew -/
theorem call_up (F : ExcBaseFacts "ValueError" "ValueError.__new__" "ValueError.__init__" veTail) {u x t0 : Addr} {rest : List Value} {Q : Value → Shared → Prop} {nm q : Str} {N : Addr} {bs bm : List Value} {sn : List Str} {sub : List Value} {ab : Bool} {col : Option Bool} {dd : Option Addr} {k0 k1 k2 k3 k5 : Option Value}
    (hC : s.heap.get? C = some (excClassObj nm q C N bs bm true sn sub ab col dd k0 k1 k2 k3 k5 "ValueError.__new__")) (hx : s.heap.get? x = some (excO C t0)) (hu : s.heap.get? u = some (kxs_mw "ValueError.__init__" x)) (hz : rest.length ≤ sizeLine)
    (hq : ∀ h' t1, (∀ b o, b ≠ x → s.heap.get? b = some o → h'.get? b = some o) → h'.get? x = some (excO C t1) → Q .none { s with heap := h' }) :
    wpAny (model prog w) A (call (.ref u) rest) Q E s := by
  obtain ⟨hh, g, d, tk, os⟩ := s
  refine wpAny_call (codeAny_of_tree ?_)
  show wpAny _ A.in1 (callAny (.ref u) ⟨rest, []⟩) _ _ _
  simp only [callAny]
  refine wpAny_bind (wpAny_load hu ?_)
  simp only [kxs_mw, show (Value.type "method-wrapper" == Value.type "method" || Value.type "method-wrapper" == Value.type "builtin_function_or_method" || Value.type "method-wrapper" == Value.type "method-wrapper") = true by decide, if_true]
  refine KFB.if_so (by decide) ?_
  refine wpAny_bind (check_bound_init F.toExcCallFacts hC hx rfl ?_)
  refine wpAny_bind (wpAny_pure (wpAny_pure ?_))
  refine ⟨plainId_quiet F.init.plain _, codeAny_builtin F.initEntry ?_⟩
  exact exc_init_tree (cls := .ref C) (t0 := t0) (dv := none) (c2 := .none) (c3 := .none) (b4 := .bool false) hx hz fun h' k e _ => hq h' _ k e
theorem err_init (T : ErrTxt prog K mg n v C fI) (hv : v = "value" ∨ v = "word" ∨ v = "field") {x t0 : Addr} {u : Value} (X : K.In s.heap) (hlim : s.heap.NoLimit) (G : s.heap.Ns mainGlobals mg)
    (B : ∃ mb, s.heap.Ns builtinsNs mb ∧ ∀ y : Str, y ≠ "__name__" → mb y = bootBuiltins y) (hx : s.heap.get? x = some (excO C t0)) (hnx : K.lookup x = none) (hroom : A.depth < recursionLimit)
    (hq : ∀ h' tk dx, InitEnd s.heap h' x C dx v u → R (.ok (.ret .none)) { s with heap := h', toks := tk }) :
    codeAny (model prog w) A (.call (.ref fI) ⟨[.ref x, u], []⟩) R s := by
  obtain ⟨qual, oc, od, doc, pm, an, cda, cc, ct, osl, m, j, p1, p2, q1, q2, q3, q4, q5, q6, q7, q8, q9, q10, ho, hcd, ⟨ccl, cdd, vs, ccs, file, tf, hcda, hvs, hfile⟩, ⟨cl, cld, csl, hcc⟩, pl, hpl⟩ := T.fn
  obtain ⟨nm, q, N, bs, bm, sn, sub, ab, col, dd, k0, k1, k2, k3, k5, hC, hbm⟩ := T.cls
  have hcl : clsIn K C = some { name := nm, bases := bs, mro := .ref C :: bm, ns := N, qualname := q, hasDict := true, slotNames := sn, subclasses := sub, abstract := ab, collection := col, hasDel := false } := by unfold clsIn; rw [hC] <;> rfl
  have hself : ((([("self", .ref x), (v, u)] : List (Str × Value)).reverse).lookup ("self" : Str)) = some (.ref x) := by
    rcases hv with rfl | rfl | rfl <;> rfl
  have hval : ((([("self", .ref x), (v, u)] : List (Str × Value)).reverse).lookup v) = some u := by
    rcases hv with rfl | rfl | rfl <;> rfl
  refine ks_codeAny_call_defAt (binds := [("self", .ref x), (v, u)]) hroom (X _ _ ho) rfl hlim (codeRec_of X hcd) rfl (BindsTo.of_eq (by rcases hv with rfl | rfl | rfl <;> with_unfolding_all rfl)) (scCell hv) (scLoc hv _ _) (fun h₁ hns k => ?_)
  have X1 : K.In h₁ := X.keeps k
  have hx1 := k _ _ hx
  have hxC : x ≠ C := fun z => by
    have y := X _ _ hC
    rw [← z, hx] at y
    cases y
  show wpAt _ _ _ (execs _ _) _ _ _
  refine ks_wpAt_execs_cons (ks_wpAt_Expr_any (ks_wpAt_MethodCall (pl := pl _) ?_ (hpl _)))
  obtain ⟨mb, hB, hB2⟩ := B
  have hD : h₁.get? C = some (excClassObj nm q C N bs bm true sn sub ab col dd k0 k1 k2 k3 k5 "ValueError.__new__") := X1 _ _ hC
  refine ks_wpAt_super_base (scSuper hv) (scClass hv) (by decide) rfl (X1 _ _ ho) rfl rfl rfl (X1 _ _ hcda) rfl hvs hfile T.top ?_
  refine ks_loadName_global rfl (scSuper hv) (loadGlobal_builtin (G.keeps k) T.sup (hB.keeps k) ((hB2 _ (by decide +kernel)).trans (show bootBuiltins "super" = some (.type "super") by decide +kernel)) ⟨rfl, ?_⟩)
  refine wpAny_loadName_free rfl (scClass hv) rfl ⟨_, X1 _ _ hcc, rfl⟩ ?_
  refine wpAny_loadName_local rfl (scSelf v) hns hself ?_
  refine ks_wpAny_isType_cls hD rfl ⟨rfl, ?_⟩
  refine ks_wpAny_call_super hD rfl hx1 rfl (fun c e => by cases e) (looks_mroIn X1 T.self) (fun h2 hso k2 => ?_)
  have X2 : K.In h2 := X1.keeps k2
  have hx2 := k2 _ _ hx1
  have hup : alongIn K "__init__" (((.ref C :: bm).dropWhile (· != .ref C)).drop 1) = some (some (.builtin "ValueError.__init__")) := by
    have z := T.up
    unfold ks_superIn at z
    rw [hcl] at z
    exact z
  have I2 : InstAt h2 x (excO C t0) C none := ⟨hx2, rfl, rfl, trivial⟩
  refine kxs_getMethod kxs_ValueError hso (looks_opaque X2 T.any) (l₀ := .ref C :: bm) (fun A Q E s k q => wpAny_bind ((looks_clsIn X2 hcl) A _ E s k (wpAny_pure q))) rfl X2 hup (I2.type.andThen (looks_subIn X2 T.subV)) hxC (by decide) ?_
  have k3 : ∀ b o, h2.get? b = some o → (h2.push (kxs_mw "ValueError.__init__" x)).get? b = some o := fun b o e => Heap.get?_push_of_some _ e
  have hu3 : (h2.push (kxs_mw "ValueError.__init__" x)).get? h2.objs.size = some (kxs_mw "ValueError.__init__" x) := Heap.get?_push_at rfl rfl
  refine kxs_callWith (i := "ValueError.__init__") (x := x) (by rfl) (evalArgs_plain ?_)
  refine Calls.spliced_cons (Calls.Constant_str (k := j) (pos := q4) (Calls.spliced_nil ⟨hu3, ?_⟩))
  refine call_up F.excBase_ValueError (k3 _ _ (k2 _ _ hD)) (k3 _ _ hx2) hu3 (by rw [sizeLine_eq]; exact (by decide : 1 ≤ 16777216)) (fun h4 t1 k4 hx4 => ?_)
  have hbase : ∀ b o, b ≠ x → s.heap.get? b = some o → h4.get? b = some o := fun b o hb e => k4 b o hb (k3 _ _ (k2 _ _ (k _ _ e)))
  have X4 : K.In h4 := fun b o e => hbase b o (fun z => by rw [z, hnx] at e; cases e) (X _ _ e)
  have hLx : s.heap.objs.size ≠ x := Nat.ne_of_gt (Heap.lt_size hx)
  have n4 : h4.Ns s.heap.objs.size (fun y => (([("self", .ref x), (v, u)] : List (Str × Value)).reverse).lookup y) := by
    obtain ⟨ob, es, ep, e1, e2⟩ := hns
    exact ⟨ob, es, ep, k4 _ _ hLx (k3 _ _ (k2 _ _ e1)), e2⟩
  have hsz : s.heap.objs.size < h4.objs.size := by
    obtain ⟨ob, es, ep, e1, e2⟩ := n4
    exact Heap.lt_size e1
  refine wpAt_of_wpAny ?_
  show wpAny _ _ (execs _ _) _ _ _
  refine wpAny_execs_cons (plainObj_wpAny_Assign_Attribute ?_)
  refine wpAny_Name (wpAny_loadName_local rfl (scLook hv) n4 hval ?_) (by rcases hv with rfl | rfl | rfl <;> decide)
  refine wpAny_Name (wpAny_loadName_local rfl (scSelf v) n4 hself ?_) (by decide)
  refine set_plain X4 (ox := excO C t1) (od := none) ⟨hx4, rfl, rfl, trivial⟩ T.sa ?_
  refine exc_osa X4 hx4 hcl (show refsVE (.ref C :: bm) = true from hbm) rfl T.noN (fun h5 tk5 dx k5 dn dne hx5 hn5 => ?_)
  exact wpAny_execs_nil (hq h5 tk5 dx ⟨fun b o hb e => k5 b o hb (hbase b o hb e), ⟨t1, hx5⟩, Nat.le_of_lt (Nat.lt_of_lt_of_le hsz dn), dne, hn5⟩)
/-- a made error -/
structure OwnMade (h h' : Heap) (e C d : Addr) (v : Str) (u : Value) : Prop where
  keep : ∀ b o, h.get? b = some o → h'.get? b = some o
  new : h.objs.size ≤ e
  obj : ∃ oe vs, h'.get? e = some oe ∧ oe.cls = .ref C ∧ oe.dict = some d ∧ oe.data = .fields vs ∧ vs[1]? = some .none
  dbig : h.objs.size ≤ d
  dne : d ≠ e
  ns : h'.Ns1 d (fun y => if y = v then some u else none)
theorem one_size (v : Value) : [v].length ≤ sizeLine := by
  rw [sizeLine_eq]
  exact (by decide : 1 ≤ 16777216)
theorem err_made (T : ErrTxt prog K mg n v C fI) (hv : v = "value" ∨ v = "word" ∨ v = "field") {u : Value} (X : K.In s.heap) (hlim : s.heap.NoLimit) (G : s.heap.Ns mainGlobals mg)
    (B : ∃ mb, s.heap.Ns builtinsNs mb ∧ ∀ y : Str, y ≠ "__name__" → mb y = bootBuiltins y) (hroom : A.depth + 1 < recursionLimit)
    (hq : ∀ h' tk e d, OwnMade s.heap h' e C d v u → R (.ok (.ret (.ref e))) { s with heap := h', toks := tk }) :
    codeAny (model prog w) A (.call (.ref C) ⟨[u], []⟩) R s := by
  obtain ⟨nm, q, N, bs, bm, sn, sub, ab, col, dd, k0, k1, k2, k3, k5, hC, hbm⟩ := T.cls
  obtain ⟨hp, g, dr, tk, os⟩ := s
  have k : ∀ b o, hp.get? b = some o → ((hp.push (kdv_tup [u])).push (excO C hp.objs.size)).get? b = some o := fun b o e => Heap.get?_push_of_some _ (Heap.get?_push_of_some _ e)
  have hget : ((hp.push (kdv_tup [u])).push (excO C hp.objs.size)).get? (hp.objs.size + 1) = some (excO C hp.objs.size) := by heap_get
  have hnx : K.lookup (hp.objs.size + 1) = none := by
    cases e : K.lookup (hp.objs.size + 1) with
    | none => rfl
    | some o =>
      have z : hp.get? (hp.objs.size + 1) = some o := X _ _ e
      exact absurd (Nat.lt_of_succ_lt (Heap.lt_size z)) (Nat.lt_irrefl _)
  refine call_own F.excBase_ValueError (fun X => refsVE_contains X bm hbm) (X _ _ hC) (looks_findIn X T.iC) (fun self => bind_fn X self T.tC) (one_size u) ?_
  refine err_init (s := ⟨(hp.push (kdv_tup [u])).push (excO C hp.objs.size), g, dr, tk, os⟩) T hv (X.keeps k) (hlim.keeps k) (G.keeps k) (by obtain ⟨mb, h1, h2⟩ := B; exact ⟨mb, h1.keeps k, h2⟩) hget hnx ?_ fun h' tk' dx ⟨k', hx, dn, dne, hns⟩ => ?_
  · show A.depth + 1 < recursionLimit
    exact hroom
  · obtain ⟨t1, hx⟩ := hx
    have old : ∀ b o, hp.get? b = some o → h'.get? b = some o := fun b o e => k' b o (Nat.ne_of_lt (Nat.lt_succ_of_lt (Heap.lt_size e))) (k b o e)
    have z : hp.objs.size + 1 + 1 ≤ dx := by
      first
        | (simpa only [Heap.size_push] using dn)
        | exact dn
        | (have q := dn; rw [Heap.size_push, Heap.size_push] at q; exact q)
    exact ⟨rfl, hq h' tk' (hp.objs.size + 1) dx ⟨old, Nat.le_succ _, ⟨_, _, hx, rfl, rfl, rfl, rfl⟩, Nat.le_trans (Nat.le_trans (Nat.le_succ _) (Nat.le_succ _)) z, dne, hns⟩⟩
end
end QErr
end PySem
namespace L2
open PySem PySem.Spec PyProof.Rows
theorem relO_one {f : Str} {v : V} {v' : Value} (r : RelV v v') (g : Str) : RelO (List.lookup g [(f, v)]) (if g = f then some v' else none) := by
  by_cases hw : g = f
  · subst hw
    rw [if_pos rfl]
    have q : List.lookup g [(g, v)] = some v := by simp [List.lookup]
    rw [q]
    exact r
  · rw [if_neg hw]
    have qw : (g == f) = false := by simpa using hw
    have q2 : List.lookup g [(f, v)] = none := by simp [List.lookup, qw]
    rw [q2]
    trivial
section
variable {X : Cx} {C fI : Addr} {n f : Str}
/-- n(e), n an own error that keeps its one argument in f -/
def tMkErr (C : Addr) (f : Str) (ta : TA) : St → Hp → XK → Prop := fun σ H Q => ta σ H fun vs H1 => ∃ v, vs = [v] ∧ ∀ d, H1 d = none → Q (.ref C) (some d) (upd H1 d (.xd [(f, v)]))
theorem pmk_err {a : Expr} {ta : TA} {p pos : Pos} {k : Nat} (T : PySem.QErr.ErrTxt X.prog X.K X.mg n f C fI) (hv : f = "value" ∨ f = "word" ∨ f = "field") (hr : Room (k + 1) X.A) (ha : PA X [a] ta) (hg : Gl X n := by rfl)
    (hdb : (n == ("__debug__" : Str)) = false := by decide)
    (he : starEach (a :: []) X.env = (false, eval a X.env) :: starEach [] X.env := by rfl) (hpl : (backTo pos (starEach [] X.env)).any (·.1) = false := by rfl) :
    PMk X (.Call (.Name n p) [a] [] pos) (tMkErr C f ta) := by
  intro pins s σ H Q I h
  refine wpAny_Call_Name_kw (ld_glob I hg T.gC ?_ hdb)
  refine PySem.W.callWith_K (h₀ := X.base) I.ok.mod.kin T.kC (thn (ha.run pos pins s σ H _ I h) fun us s1 hh => ?_) he hpl
  obtain ⟨vs, H1, I1, r1, v, ev, q1⟩ := hh
  subst ev
  refine ⟨I1.kIn, ?_⟩
  cases r1 with
  | cons rv rn =>
    rename_i v' us'
    cases rn
    show wpAny _ _ (call (.ref C) [v']) _ _ _
    have hlim := I1.nolimit
    have G1 := I1.mod.glob.keeps I1.bk
    have B1 : ∃ mb, s1.heap.Ns builtinsNs mb ∧ ∀ y : Str, y ≠ "__name__" → mb y = bootBuiltins y := by
      obtain ⟨mb, h1, h2⟩ := I1.mod.blt
      exact ⟨mb, h1.keeps I1.bk, h2⟩
    obtain ⟨hp, g, dr, tk, os⟩ := s1
    refine wpAny_call (PySem.QErr.err_made T hv I1.kIn hlim G1 B1 (by have := hr.dp; omega) fun h' tk' e d M => ?_)
    show MkP X pins σ Q (.ref e) ⟨h', g, dr, tk', os⟩
    obtain ⟨oe, fv, hoe, hc, hd, hdat, h1⟩ := M.obj
    have hns := M.ns
    obtain ⟨G', g1, g2⟩ := restrict h' fun b => decide (b ≠ e)
    have gk : ∀ b, b ≠ e → G'.get? b = h'.get? b := fun b hb => g1 b (decide_eq_true hb)
    have ge : G'.get? e = none := g2 e (by simp)
    have old : ∀ b o, hp.get? b = some o → G'.get? b = some o := fun b o q => (gk b (Nat.ne_of_lt (Nat.lt_of_lt_of_le (Heap.lt_size q) M.new))).trans (M.keep b o q)
    have ob : ObjOk X.prog X.w (upd H1 d (.xd [(f, v)])) G' d (.xd [(f, v)]) :=
      ⟨_, hns.at (fun o q => (gk d M.dne).trans q), fun f => relO_one rv f⟩
    have J : Inv X pins σ (upd H1 d (.xd [(f, v)])) ⟨G', g, dr, tk', os⟩ := I1.laid (t' := tk') old M.dbig ob
    refine ⟨e, oe, fv, ⟨G', g, dr, tk', os⟩, _, .ref C, some d, rfl, J, fun b o q => ?_, ge, hoe, ⟨hc, hd⟩, hdat, h1, ?_, rfl, I1.bare, raises_own T.exC T.tyC, q1 d (I1.hok.fresh M.dbig)⟩
    · by_cases hb : b = e
      · have q' : G'.get? b = some o := q
        rw [hb, ge] at q'; cases q'
      · exact (gk b hb).symm.trans q
    · rw [upd_ne (Ne.symm M.dne)]
      exact I1.hok.fresh M.new
/-- raise n(e) -/
def tRaiseErr (C : Addr) (f : Str) (W : WX) (ta : TA) : TS := fun _ σ H => tMkErr C f ta σ H fun cls d H' => W cls d σ H'
theorem ps_raiseErr {a : Expr} {ta : TA} {W : WX} {p pos pos2 : Pos} {k : Nat} (hc : X.calm = true) (T : PySem.QErr.ErrTxt X.prog X.K X.mg n f C fI) (hv : f = "value" ∨ f = "word" ∨ f = "field") (hr : Room (k + 1) X.A) (tk : Takes X W) (ha : PA X [a] ta) (hg : Gl X n := by rfl)
    (hdb : (n == ("__debug__" : Str)) = false := by decide)
    (he : starEach (a :: []) X.env = (false, eval a X.env) :: starEach [] X.env := by rfl) (hpl : (backTo pos (starEach [] X.env)).any (·.1) = false := by rfl) :
    PS X (.Raise (some (.Call (.Name n p) [a] [] pos)) none pos2) (tRaiseErr C f W ta) := ps_raise hc tk (pmk_err T hv hr ha hg hdb he hpl)
end
end L2

set_option Elab.async false
set_option linter.all false
set_option maxRecDepth 100000
set_option maxHeartbeats 4000000
/-! try with several clauses, each of which names its exception -/
namespace L2
open PySem PySem.Spec PyProof.Rows
abbrev Suite := Addr → Value → Option Addr → TS
/-- what several clauses, each with its class, its name's slot and its suite, wish -/
def wClauses (K : PySem.W.Frag) (out : WX) (D : Ends) : List (Value × Nat × Suite) → WX
  | [] => out
  | cl :: more => wAs K cl.1 cl.2.1 cl.2.2 (wClauses K out D more) D
inductive Clauses (X : Cx) : List ExceptHandler → List (Value × Nat × Suite) → Prop
  | done : Clauses X [] []
  | one {x n : Str} {c : Value} {i : Nat} {u : Suite} {first : Stmt} {more : List Stmt} {q1 q2 : Pos} {hds : List ExceptHandler} {l : List (Value × Nat × Suite)}
      (slot : X.N[i]? = some n) (here : X.env.kindOf n = some .local) (named : Names X x c)
      (walks : ∀ (a : Addr) (oe : Obj) (cls : Value) (d : Option Addr) (pn : List (Addr × Obj)), Zc cls d oe → (∃ vs, oe.data = .fields vs) → PSs (X.suite a ((a, oe) :: pn)) (first :: more) (u a cls d))
      (tail : Clauses X hds l) : Clauses X (.ExceptHandler (some (.Name x q1)) (some n) (first :: more) q2 :: hds) ((c, i, u) :: l)
section
variable {X : Cx} {body : List Stmt} {hd : ExceptHandler} {hds : List ExceptHandler} {l : List (Value × Nat × Suite)} {pos : Pos} {tb : WX → TS} {out : WX}
theorem ps_try_clauses (hs : X.stack = X.env :: X.outer) (hf : X.env.frame = some X.env.locals) (hN : X.N.Nodup) (tk : Takes X out)
    (hb : ∀ (W : WX) (pn : List (Addr × Obj)) (xe : Value → Shared → Prop), Takes (X.tr pn xe) W → PassesOwn (model X.prog X.w) X.A X.env xe → PSs (X.tr pn xe) body (tb W))
    (cls : Clauses X (hd :: hds) l) : PS X (.Try body (hd :: hds) [] [] pos) (fun D σ H => tb (wClauses X.K out D l) D σ H) := by
  constructor
  intro pins s σ H D I hyp
  have good := I.ok
  have frames : X.A.frames = some (X.env :: X.outer) := good.frames.trans (by rw [hs])
  apply wpAny_Try_except
  refine wpAny_mono ((hb (wClauses X.K out D l) (X.pn ++ pins) _ ?land PassesOwn.looking).run [] s σ H D (I.toTry _) hyp) ?fine (fun e s1 z => z)
  case land =>
    intro u s2 seen
    obtain ⟨a, B, sI, pins2, σ2, H2, kind, d, rfl, J0, nb, up, sky, na, os, ag, wish⟩ := seen
    have J := J0.ofTry good
    rw [show (X.tr (X.pn ++ pins) _).stack = X.env :: X.outer from hs] at sky
    show wpAny (model X.prog X.w) X.A (noteFrame (.ref a) X.env) _ _ _
    refine Sky.land Zc.steady frames hf sky fun h3 fl up3 => ?_
    have J3 : Inv X pins σ2 H2 { s2 with heap := h3 } := J.landed nb fl.1 (up.trans up3) os ag
    obtain ⟨oe, vs, at3, z3, dat3⟩ := fl.there
    have off : a ∉ frs (X.env :: X.outer) := fun hm => by
      obtain ⟨_, o, e1, e2⟩ := fl.2.2.1.mem hm
      cases at3.symm.trans e1
      exact e2 _ dat3
    have offL : a ≠ X.env.locals := fun z => off (by rw [z]; exact List.mem_filterMap.mpr ⟨X.env, List.mem_cons_self, hf⟩)
    have offF : a ∉ X.fs := fun hm => by
      obtain ⟨e, e1, e2⟩ := List.mem_filterMap.mp hm
      exact off (List.mem_filterMap.mpr ⟨e, List.mem_cons_of_mem _ e1, e2⟩)
    have S3 := J3.suite at3 dat3 na offL offF
    suffices go : ∀ {hs' : List ExceptHandler} {l' : List (Value × Nat × Suite)}, Clauses X hs' l' → wClauses X.K out D l' kind d σ2 H2 → wpAny (model X.prog X.w) X.A (handleBy (.ref a) X.env hs') (SP X pins D) X.xe { s2 with heap := h3 } from go cls wish
    intro hs' l' known
    induction known with
    | done =>
      intro left
      refine wpAny_handleBy_nil ?_
      obtain ⟨_, _, _, oe', vs', T, _, _, e1, _, e2, e3, _⟩ := id fl
      unfold PySem.passOn
      refine wpAny_bind (wpAny_field e1 e2 e3 ?_)
      have some_ : ¬ ((Value.ref T == Value.none) = true) := by simp
      rw [if_neg some_]
      have out_ : wpAny (model X.prog X.w) X.A (setFlight (.ref a) X.env.frame) (fun _ s4 => wpAny (model X.prog X.w) X.A (throw (.ref a) : Sem Flow) (SP X pins D) X.xe s4) X.xe { s2 with heap := h3 } := by
        rw [hf]
        refine HandSPX.setFlight_upZ fl fun h4 held up4 => wpAny_throw (tk _ _ ?_)
        exact ⟨a, B, sI, pins, σ2, H2, kind, d, rfl, J, nb, (up.trans up3).trans up4, .inr (.inr (by rw [hs]; exact held)), na, os, ag, left⟩
      first
        | exact wpAny_bind out_
        | exact wpAny_bind (wpAny_pure (wpAny_bind out_))
    | @one x n c i u first more q1 q2 hds2 l2 slot here named walks tail ih =>
      intro wished
      obtain ⟨b, isb, yes, no⟩ := wished
      refine wpAny_handleBy_cons (codeAny_handlers_test ?_) (by intro z; cases z)
      have kinds : PySem.W.Looks (model X.prog X.w) h3 (typeOf (.ref a)) kind := fun A Q E s k q => wpAny_typeOf_ref (k _ _ at3) (z3.1.symm ▸ q)
      have asked : ∀ {Q E : Value → Shared → Prop}, Q c { s2 with heap := h3 } → wpAny (model X.prog X.w) (X.A.mark (some (.ref a))) (eval (.Name x q1) X.env) Q E { s2 with heap := h3 } := fun {Q E} q => by
        rcases named with ⟨g1, g2, g3 | ⟨g4, g5, g6⟩⟩
        · exact ld_glob (X := X.suite a ((a, oe) :: (X.pn ++ pins))) S3 g1 g3 q g2
        · exact ld_blt (X := X.suite a ((a, oe) :: (X.pn ++ pins))) S3 g1 g4 g5 q g6 g2
      refine asked ((PySem.W.exm_one (M := model X.prog X.w) J3.kIn kinds isb).here ?_)
      cases b
      · exact ih (no rfl)
      · refine codeAny_handlers_suite_as (HandSPX.lands_againZ fl fun h4 fl4 up4 => ?_)
        have J4 : Inv X pins σ2 H2 { s2 with heap := h4 } := J.landed nb fl4.1 ((up.trans up3).trans up4) os ag
        obtain ⟨oe4, vs4, at4, z4, dat4⟩ := fl4.there
        have S4 := J4.suite at4 dat4 na offL offF
        refine store_ok (X := X.suite a ((a, oe4) :: (X.pn ++ pins))) (v := .ref a) S4 hN slot (.inl here) rfl (fun s5 S5 => ?_) (.inr here)
        refine wpAny_mono ((walks a oe4 kind d (X.pn ++ pins) z4 ⟨_, dat4⟩).run [] s5 _ H2 _ S5 (yes rfl a na)) (fun f s6 behind => ?_) (fun _ _ z => z.elim)
        cases f
        · obtain ⟨σ6, H6, S6, q6⟩ := behind
          exact gone_ok (S6.unsuite good) hN slot here fun s7 J7 => ⟨_, _, J7, q6⟩
        · obtain ⟨σ6, H6, S6, q6⟩ := behind
          exact gone_ok (S6.unsuite good) hN slot here fun s7 J7 => ⟨_, _, J7, q6⟩
        · obtain ⟨σ6, H6, S6, q6⟩ := behind
          exact gone_ok (S6.unsuite good) hN slot here fun s7 J7 => ⟨_, _, J7, q6⟩
        · obtain ⟨v6, σ6, H6, S6, r6, q6⟩ := behind
          exact gone_ok (S6.unsuite good) hN slot here fun s7 J7 => ⟨_, _, _, J7, r6, q6⟩
  case fine =>
    intro f s1 behind
    cases f
    · obtain ⟨σ1, H1, J1, q1⟩ := behind
      exact wpAny_execs_nil ⟨σ1, H1, J1.ofTry good, q1⟩
    · obtain ⟨σ1, H1, J1, q1⟩ := behind
      exact ⟨σ1, H1, J1.ofTry good, q1⟩
    · obtain ⟨σ1, H1, J1, q1⟩ := behind
      exact ⟨σ1, H1, J1.ofTry good, q1⟩
    · obtain ⟨v1, σ1, H1, J1, r1, q1⟩ := behind
      exact ⟨v1, σ1, H1, J1.ofTry good, r1, q1⟩
end
end L2

set_option Elab.async false
set_option linter.all false
set_option maxRecDepth 100000
set_option maxHeartbeats 4000000
/-! bundles for defs that raise -/
namespace QX
open PySem PySem.Spec PyProof.Rows L2
/-- a def that may raise, called by its name -/
structure Cal (P : Program) (w : World) (K : PySem.W.Frag) (mg : Str → Option Value) (base : Heap) (k : Nat) (x : Str) (sp : Sp) : Prop where
  ex : ∃ (f : Addr) (fd : FuncData) (ps : List Str), FnOk P w K mg base (L2.CX P w) k f fd ps sp ∧ mg x = some (.ref f) ∧ PySem.W.keepIn K (.ref f) = true ∧ Binds K fd ps []
/-- a method that may raise -/
structure Met (P : Program) (w : World) (K : PySem.W.Frag) (mg : Str → Option Value) (base : Heap) (k : Nat) (C : Addr) (m : Str) (sp : Sp) : Prop where
  ex : ∃ (f : Addr) (fd : FuncData) (ps : List Str), Cls K C ∧ Meth K C m f ∧ FnOk P w K mg base (L2.CX P w) k f fd ps sp ∧ Binds K fd ps []
section
variable {P : Program} {w : World} {K : PySem.W.Frag} {mg : Str → Option Value} {base : Heap}
theorem fnx {x qual : Str} {st : Stmt} {f : Addr} {fd : FuncData} {N ps : List Str} {k : Nat} {sp : Sp} (F : C8.Fun K x qual st f fd) (S : FnScope N ps (C8.fnScope st)) (len : ∀ vs H Q E, sp vs H Q E → vs.length = ps.length)
    (body : ∀ (cdv : Value) (A : Around) (outer : List Env) (s : Shared) (H : Hp) (vs : List V) (Q : VK) (E : XK), Room k (A.deeper (envOfC qual (C8.fnScope st) s.heap.objs.size f cdv)) → sp vs H Q E →
      ∃ t, PSs (cxOf (L2.CX P w) P w K mg base N qual (C8.fnScope st) f cdv A outer s H E) (C8.fnBody st) t ∧ t { nx := fun _ H' => Q .non H', rt := Q } (start N vs) H) : FnOk P w K mg base (L2.CX P w) (k + 1) f fd ps sp := by
  obtain ⟨_, _, _, _, _, _, _, cdv, _, _, rfl, at_, code⟩ := F.ex
  exact fn_of at_ code S len fun A outer s H vs Q E room held => body cdv A outer s H vs Q E room held
theorem calx {x : Str} {st : Stmt} {f : Addr} {fd : FuncData} {N ps : List Str} {k : Nat} {sp : Sp} (F : C8.Def K mg x st f fd) (b : Binds K fd ps []) (S : FnScope N ps (C8.fnScope st)) (len : ∀ vs H Q E, sp vs H Q E → vs.length = ps.length)
    (body : ∀ (cdv : Value) (A : Around) (outer : List Env) (s : Shared) (H : Hp) (vs : List V) (Q : VK) (E : XK), Room k (A.deeper (envOfC x (C8.fnScope st) s.heap.objs.size f cdv)) → sp vs H Q E →
      ∃ t, PSs (cxOf (L2.CX P w) P w K mg base N x (C8.fnScope st) f cdv A outer s H E) (C8.fnBody st) t ∧ t { nx := fun _ H' => Q .non H', rt := Q } (start N vs) H) : Cal P w K mg base (k + 1) x sp :=
  ⟨f, fd, ps, fnx F.fn S len body, F.mgf, F.kp, b⟩
theorem metx {m qual : Str} {C : Addr} {st : Stmt} {f : Addr} {fd : FuncData} {N ps : List Str} {k : Nat} {sp : Sp} (c : Cls K C) (me : Meth K C m f) (F : C8.Fun K m qual st f fd) (b : Binds K fd ps []) (S : FnScope N ps (C8.fnScope st)) (len : ∀ vs H Q E, sp vs H Q E → vs.length = ps.length)
    (body : ∀ (cdv : Value) (A : Around) (outer : List Env) (s : Shared) (H : Hp) (vs : List V) (Q : VK) (E : XK), Room k (A.deeper (envOfC qual (C8.fnScope st) s.heap.objs.size f cdv)) → sp vs H Q E →
      ∃ t, PSs (cxOf (L2.CX P w) P w K mg base N qual (C8.fnScope st) f cdv A outer s H E) (C8.fnBody st) t ∧ t { nx := fun _ H' => Q .non H', rt := Q } (start N vs) H) : Met P w K mg base (k + 1) C m sp :=
  ⟨f, fd, ps, c, me, fnx F S len body, b⟩
end
section
variable {X : Cx} {k j : Nat} {C : Addr} {x m : Str} {sp : Sp} {W : WX} {p pos apos : Pos} {e o : Expr} {es : List Expr} {ta : TE} {t : TA}
theorem pe_cx (c : Cal X.prog X.w X.K X.mg X.base k x sp) (tk : Takes X W) (hr : Room j X.A) (hk : k ≤ j) (hg : Gl X x) (ha : PA X (e :: es) t)
    (hdb : (x == ("__debug__" : Str)) = false := by decide) (he : starEach (e :: es) X.env = (false, eval e X.env) :: starEach es X.env := by rfl) (hpl : (backTo pos (starEach es X.env)).any (·.1) = false := by rfl) :
    PE X (.Call (.Name x p) (e :: es) [] pos) (tCallS sp (WE W) t) := by
  obtain ⟨f, fd, ps, F, hm, kp, b⟩ := c.ex
  exact pe_callS F (hr.mono hk) hg hm kp b (passAt tk) ha hdb he hpl
/-- o.m(e, ..), m may raise what W takes -/
def tMeX (C : Addr) (m : Str) (sp : Sp) (W : WX) (ta : TE) (t : TA) : TE := fun σ H Q => ta σ H fun v H1 => ∃ (a dx : Addr) (fs : List (Str × V)), v = .ref a ∧ H1 a = some (.ins C dx fs) ∧ fs.lookup m = none ∧ t σ H1 fun vs H2 => sp (v :: vs) H2 Q (WE W σ)
theorem pe_mx {pl : Sem Bool} (c : Met X.prog X.w X.K X.mg X.base k C m sp) (tk : Takes X W) (hr : Room j X.A) (hk : k ≤ j) (he : PE X o ta) (ha : PA X (e :: es) t)
    (hst : starEach (e :: es) X.env = (false, eval e X.env) :: starEach es X.env := by rfl) (hpl : (backTo pos (starEach es X.env)).any (·.1) = false := by rfl)
    (ht : eval (.Call (.Attribute o m apos) (e :: es) [] pos) X.env = (do
      let ov ← eval o X.env
      standAt apos.atName
      let (f, first) ← holding [ov] (getMethod ov m pl)
      callWith pos f first (backTo pos (starEach (e :: es) X.env)) (backToKw pos (keywordEach [] X.env))) := by rfl) :
    PE X (.Call (.Attribute o m apos) (e :: es) [] pos) (tMeX C m sp W ta t) := by
  obtain ⟨f, fd, ps, cl, me, F, b⟩ := c.ex
  constructor
  intro pins s σ H Q I hyp
  refine PySem.W.methodCall_KW (pl := pl) (thn (he.run pins s σ H _ I hyp) fun u s1 seen => ?_) ht
  obtain ⟨v, H1, I1, rv, a, dx, fs, rfl, at_, none_, more⟩ := seen
  obtain rfl : u = Value.ref a := rv
  refine getmeth_ok I1 at_ cl me none_ (PySem.W.callWith_K (first := [.ref a]) (h₀ := X.base) I.ok.mod.kin me.kp (thn (ha.run pos pins s1 σ H1 _ I1 more) fun us s2 behind => ?_) hst hpl)
  obtain ⟨vs, H2, I2, rs, held⟩ := behind
  exact ⟨I2.kIn, run_fnS (us := .ref a :: us) (vs := .ref a :: vs) F (hr.mono hk) b (passAt tk σ) I2 (.cons rfl rs) held⟩
end
/-- a class of ours that may be made by its name; its __init__ may raise -/
structure Mak (P : Program) (w : World) (K : PySem.W.Frag) (mg : Str → Option Value) (base : Heap) (k : Nat) (x : Str) (C : Addr) (sp : Sp) (dvs : List V) : Prop where
  ex : ∃ (f : Addr) (fd : FuncData) (ps : List Str) (ds : List Value), Mk K C f ∧ FnOk P w K mg base (L2.CX P w) k f fd ps sp ∧ mg x = some (.ref C) ∧ Binds K fd ps ds ∧ Vals dvs ds
section
variable {P : Program} {w : World} {K : PySem.W.Frag} {mg : Str → Option Value} {base : Heap}
theorem makx {x qual : Str} {C : Addr} {st : Stmt} {f : Addr} {fd : FuncData} {N ps : List Str} {ds : List Value} {dvs : List V} {k : Nat} {sp : Sp} (M : Mk K C f) (hm : mg x = some (.ref C)) (F : C8.Fun K "__init__" qual st f fd) (b : Binds K fd ps ds) (d : Vals dvs ds) (S : FnScope N ps (C8.fnScope st))
    (len : ∀ vs H Q E, sp vs H Q E → vs.length = ps.length)
    (body : ∀ (cdv : Value) (A : Around) (outer : List Env) (s : Shared) (H : Hp) (vs : List V) (Q : VK) (E : XK), Room k (A.deeper (envOfC qual (C8.fnScope st) s.heap.objs.size f cdv)) → sp vs H Q E →
      ∃ t, PSs (cxOf (L2.CX P w) P w K mg base N qual (C8.fnScope st) f cdv A outer s H E) (C8.fnBody st) t ∧ t { nx := fun _ H' => Q .non H', rt := Q } (start N vs) H) : Mak P w K mg base (k + 1) x C sp dvs :=
  ⟨f, fd, ps, ds, M, fnx F S len body, hm, b, d⟩
end
section
variable {X : Cx} {k j : Nat} {C : Addr} {x : Str} {sp : Sp} {dvs : List V} {W : WX} {p pos : Pos} {e : Expr} {es : List Expr} {t : TA}
/-- C(e, ..), whose __init__ may raise what W takes -/
def tMkX (C : Addr) (sp : Sp) (dvs : List V) (W : WX) (t : TA) : TE := fun σ H Q => t σ H fun vs H1 => ∀ a dx, H1 a = none → H1 dx = none → dx ≠ a →
  sp (.ref a :: (vs ++ dvs)) (upd (upd H1 dx (.own a)) a (.ins C dx [])) (fun v H2 => v = .non ∧ Q (.ref a) H2) (WE W σ)
theorem pe_mkx (c : Mak X.prog X.w X.K X.mg X.base k x C sp dvs) (tk : Takes X W) (hr : Room j X.A) (hk : k + 1 ≤ j) (hg : Gl X x) (ha : PA X (e :: es) t)
    (hdb : (x == ("__debug__" : Str)) = false := by decide) (he : starEach (e :: es) X.env = (false, eval e X.env) :: starEach es X.env := by rfl) (hpl : (backTo pos (starEach es X.env)).any (·.1) = false := by rfl) :
    PE X (.Call (.Name x p) (e :: es) [] pos) (tMkX C sp dvs W t) := by
  obtain ⟨f, fd, ps, ds, M, F, hm, b, d⟩ := c.ex
  have room : Room (k + 1) X.A := hr.mono hk
  constructor
  intro pins s σ H Q I hyp
  refine wpAny_Call_Name_kw (ld_glob I hg hm (PySem.W.callWith_K (h₀ := X.base) I.ok.mod.kin M.kp (thn (ha.run pos pins s σ H _ I hyp) fun us s1 behind => ?_) he hpl) hdb)
  obtain ⟨vs, H1, I1, rs, held⟩ := behind
  refine ⟨I1.kIn, ?_⟩
  show wpAny _ _ (call (.ref C) us) _ _ _
  have here := held (s1.heap.objs.size + 1) s1.heap.objs.size (I1.hok.fresh (Nat.le_succ _)) (I1.hok.fresh (Nat.le_refl _)) (Nat.ne_of_lt (Nat.lt_succ_self _))
  have J := Inv.made (C := C) I1
  have all : Vals (V.ref (s1.heap.objs.size + 1) :: (vs ++ dvs)) (Value.ref (s1.heap.objs.size + 1) :: (us ++ ds)) := .cons rfl (rs.append d)
  have long : (Value.ref (s1.heap.objs.size + 1) :: us ++ ds).length = ps.length := (F.len _ _ _ _ here ▸ all.length).symm
  refine wpAny_call (make_map (f := f) I1.kIn M.makes M.init (beq_iff_eq.mp M.fn) (codeAny_mono (F.run _ X.stack _ _ ⟨Value.ref (s1.heap.objs.size + 1) :: us, []⟩ (Value.ref (s1.heap.objs.size + 1) :: (us ++ ds)) _ _ (WE W σ) (room.make C us []) (J.env0.make C us [])
    (b _ (Value.ref (s1.heap.objs.size + 1) :: us) J.kIn long) all here) fun r s2 got => ?_))
  match r, got with
  | .error er, got => exact passAt tk σ pins _ _ er s2 J got
  | .ok (.ret u), got =>
    obtain ⟨v, H3, I3, rv, rfl, q3⟩ := J.after got
    exact ⟨rv, V.ref (s1.heap.objs.size + 1), H3, I3, rfl, q3⟩
  | .ok .next, got => exact got.elim
  | .ok .brk, got => exact got.elim
  | .ok .cont, got => exact got.elim
end
/-- what the written part says of an error's class -/
theorem exm_of {K : PySem.W.Frag} {A S : Addr} {b : Bool} (h1 : PySem.W.subIn K (.ref S) (.type "BaseException") = some true) (h2 : PySem.W.isClsIn K S = true) (h3 : PySem.W.typeIn K (.ref S) = some (.type "type")) (h4 : PySem.W.subIn K (.ref A) (.ref S) = some b) :
    PySem.W.exmOne K (.ref A) (.ref S) = some b := by
  have e1 : (PySem.W.subIn K (.ref S) (.type "BaseException") == some true) = true := by rw [h1] <;> rfl
  have e2 : ((PySem.W.clsIn K S).isSome && PySem.W.typeIn K (.ref S) == some (.type "type")) = true := by
    have h2' : (PySem.W.clsIn K S).isSome = true := h2
    rw [h2', h3] <;> rfl
  unfold PySem.W.exmOne PySem.W.kitCls
  simp only [e1, e2, if_true]
  exact h4
end QX
namespace QX
open PySem PySem.Spec PyProof.Rows L2
theorem call_form {o : Expr} {name : Str} {a : Expr} {q3 q5 : Pos} (ho : (q3.endLine == q5.line) = true) (ha : ∀ env : Env, starEach [a] env = [(false, eval a env)]) : ∃ pl : Env → Sem Bool, ∀ env : Env, eval (.Call (.Attribute o name q3) [a] [] q5) env = (do
      let ov ← attributeBase o name env (eval o env)
      standAt q3.atName
      let (f, first) ← holding [ov] (getMethod ov name (pl env))
      callWith q5 f first (backTo q5 (starEach [a] env)) []) := by
  refine ⟨fun env => (do return (← importBound o env).getD true), fun env => ?_⟩
  rw [arm_eval_Call]
  have few : methodCallForm ([a].length + ([] : List Keyword).length) (backTo q5 (starEach [a] env)) (backToKw q5 (keywordEach [] env)) = true := by
    rw [ha env] <;> rfl
  have at_ : methodCallPos true o env q3 q5 = pure q5 := by
    unfold methodCallPos
    rw [ho] <;> rfl
  have kw : backToKw q5 (keywordEach [] env) = [] := rfl
  refine congrArg _ (funext fun ov => congrArg _ (funext fun _ => ?_))
  unfold methodCall
  rw [few, at_, kw]
  unfold calleeOf
  rw [if_pos rfl]
  simp only [pure_bind]
theorem up_of {K : PySem.W.Frag} {C N S NS : Addr} {nm q nmS qS : Str} {bs bsS bmS : List Value} {sn snS : List Str} {sub subS : List Value} {hd hdS ab abS : Bool} {col colS : Option Bool} {dd ddS : Option Addr} {k0 k1 k2 k3 k5 y0 y1 y2 y3 y5 : Option Value} {new newS : String} {r : Option (Option Value)}
    (xC : K.lookup C = some (PySem.excClassObj nm q C N bs (.ref S :: bmS) hd sn sub ab col dd k0 k1 k2 k3 k5 new)) (xS : K.lookup S = some (PySem.excClassObj nmS qS S NS bsS bmS hdS snS subS abS colS ddS y0 y1 y2 y3 y5 newS))
    (h : PySem.W.findIn K (.ref S) "__init__" = r) : PySem.W.ks_superIn K C C "__init__" = r := by
  have e1 : PySem.W.clsIn K C = some { name := nm, bases := bs, mro := .ref C :: .ref S :: bmS, ns := N, qualname := q, hasDict := hd, slotNames := sn, subclasses := sub, abstract := ab, collection := col, hasDel := false } := by
    unfold PySem.W.clsIn
    rw [xC] <;> rfl
  have e2 : ((Value.ref C :: .ref S :: bmS).dropWhile (· != .ref C)).drop 1 = .ref S :: bmS := by simp [List.dropWhile_cons]
  unfold PySem.W.ks_superIn
  rw [e1]
  show PySem.W.alongIn K "__init__" (((Value.ref C :: .ref S :: bmS).dropWhile (· != .ref C)).drop 1) = r
  rw [e2]
  have e3 : PySem.W.findIn K (.ref S) "__init__" = PySem.W.alongIn K "__init__" (.ref S :: bmS) := by
    show (match K.lookup S with
      | some ⟨_, _, .cls cd, _⟩ => PySem.W.alongIn K "__init__" cd.mro
      | _ => none) = _
    rw [xS] <;> rfl
  rw [← e3]
  exact h
theorem err_mk {prog : Program} {K : PySem.W.Frag} {h : Heap} {mg : Str → Option Value} (n v : Str) (X : K.In h) (G : h.Ns mainGlobals mg)
    {C fI N cda cc S NS : Addr} {nmS qS : Str} {bsS bmS : List Value} {snS : List Str} {subS : List Value} {hdS abS : Bool} {colS : Option Bool} {ddS : Option Addr} {y0 y1 y2 y3 y5 : Option Value} {newS : String} {nm q qual : Str} {bs : List Value} {sn : List Str} {sub : List Value} {ab : Bool} {col : Option Bool} {dd : Option Addr} {k0 k1 k2 k3 k5 : Option Value} {oc : Value} {od : Option Addr} {doc pm : Value} {an : Option Addr} {ct : Value} {osl : Array (Option Value)} {m : Str} {j : Nat} {p1 p2 q1 q2 q3 q4 q5 q6 q7 q8 q9 q10 : Pos}
    {ccl : Value} {cdd : Option Addr} {vs : Array Value} {ccs : Array (Option Value)} {file : Str} {tf : Tok} {cl : Value} {cld : Option Addr} {csl : Array (Option Value)}
    (aC : PySem.W.nsIn K mainGlobals n = some (some (.ref C))) (xC : K.lookup C = some (PySem.excClassObj nm q C N bs (.ref S :: bmS) true sn sub ab col dd k0 k1 k2 k3 k5 "ValueError.__new__")) (bC : PySem.HandSPX.refsVE bmS = true) (xS : K.lookup S = some (PySem.excClassObj nmS qS S NS bsS bmS hdS snS subS abS colS ddS y0 y1 y2 y3 y5 newS))
    (sa : PySem.W.findIn K (.ref C) "__setattr__" = some (some (.builtin "object.__setattr__"))) (ga : PySem.W.findIn K (.ref C) "__getattribute__" = some (some (.builtin "BaseException.__getattribute__"))) (gg : PySem.W.findIn K (.ref C) "__getattr__" = some none) (nb : PySem.W.findIn K (.ref C) v = some none)
    (iC : PySem.W.findIn K (.ref C) "__init__" = some (some (.ref fI))) (tI : PySem.W.typeIn K (.ref fI) = some (.type "function"))
    (kC : PySem.W.keepIn K (.ref C) = true) (eC : PySem.W.subIn K (.ref C) (.type "BaseException") = some true) (tC : PySem.W.typeIn K (.ref C) = some (.type "type")) (hC : PySem.W.hasDictIn K C = true) (cC : PySem.W.isClsIn K C = true) (sC : PySem.W.subIn K (.ref C) (.ref C) = some true)
    (mC : PySem.W.mroIn K C (.ref C) = some true) (vC : PySem.W.subIn K (.ref C) (.type "ValueError") = some true) (uC : PySem.W.findIn K (.ref S) "__init__" = some (some (.builtin "ValueError.__init__"))) (anyC : PySem.W.nsIn K cStatics "thirdparty.any" = some none)
    (sup : PySem.W.nsIn K mainGlobals "super" = some none) (top : (prog.main.scope.names.lookup ("super" : Str)).isSome = false)
    (lI : K.lookup fI = some ⟨oc, od, .func (PySem.W.ksFn "__init__" qual (PySem.QErr.eA v p1 p2) (PySem.QErr.eB v m j q1 q2 q3 q4 q5 q6 q7 q8 q9 q10) (PySem.QErr.eS v) .none .none doc pm an (.ref cda) ct cc), osl⟩) (cI : PySem.W.codeIn K (.ref cda) qual = true)
    (lcd : K.lookup cda = some ⟨ccl, cdd, .fields vs, ccs⟩) (hvs : vs[2]? = some (.str file tf)) (hfile : ((prog.main.file : Str) == file) = true) (lcc : K.lookup cc = some ⟨cl, cld, .cell (some (.ref C)), csl⟩) (same : (q3.endLine == q5.line) = true) :
    PySem.QErr.ErrTxt prog K mg n v C fI := {
  gC := PySem.W.mg_of X G aC, cls := ⟨nm, q, N, bs, .ref S :: bmS, sn, sub, ab, col, dd, k0, k1, k2, k3, k5, xC, bC⟩, sa := sa, ga := ga, gg := gg, noN := nb, iC := iC, tC := tI, kC := kC, exC := eC, tyC := tC, hdC := hC
  te := exm_of eC cC tC sC, self := mC, subV := vC, up := up_of xC xS uC, any := anyC, sup := PySem.W.mg_none_of X G sup, top := top
  fn := ⟨qual, oc, od, doc, pm, an, cda, cc, ct, osl, m, j, p1, p2, q1, q2, q3, q4, q5, q6, q7, q8, q9, q10, lI, cI, ⟨ccl, cdd, vs, ccs, file, tf, lcd, hvs, hfile⟩, ⟨cl, cld, csl, lcc⟩, call_form same (fun env => rfl)⟩ }
end QX

set_option Elab.async false
set_option linter.all false
set_option maxRecDepth 100000
set_option maxHeartbeats 4000000
namespace Q
open PySem PySem.Spec PyProof.Rows L2
/-- no integer from l on -/
def Bad (K : PySem.W.Frag) (H : Hp) (l : Int) (x : V) : Prop := IsI K H x false ∨ ∃ i, x = .int i ∧ i < l
/-- a number from l on is asked for: nothing, or the error at C with the very object -/
def spReqX (K : PySem.W.Frag) (C : Addr) (l : Int) : Sp := fun vs H Q E => ∃ x, vs = [x] ∧ ((∃ i, x = .int i ∧ l ≤ i ∧ Q .non H) ∨ (Bad K H l x ∧ ∀ d, H d = none → E (.ref C) (some d) (upd H d (.xd [("value", x)]))))
def spStepX (K : PySem.W.Frag) (C CN CS : Addr) : Sp := fun vs H Q E => ∃ (p : Addr) (nv xv : V), vs = [.ref p, nv, xv] ∧
  ((Bad K H 0 nv ∧ ∀ d, H d = none → E (.ref CN) (some d) (upd H d (.xd [("value", nv)]))) ∨
    ((∃ i, nv = .int i ∧ 0 ≤ i) ∧ Bad K H 1 xv ∧ ∀ d, H d = none → E (.ref CS) (some d) (upd H d (.xd [("value", xv)]))))
def spRefused (K : PySem.W.Frag) (C CN CS : Addr) : Sp := fun vs H Q _ => ∃ (p : Addr) (L : Parts) (nv xv : V), vs = [.ref p, nv, xv] ∧ AvgAt C H p L ∧
  ((Bad K H 0 nv ∧ ∀ (t : Addr) (H' : Hp), Same H H' → H' t = some (.tup [.str "number", nv]) → Q (.ref t) H') ∨
    ((∃ i, nv = .int i ∧ 0 ≤ i) ∧ Bad K H 1 xv ∧ ∀ (t : Addr) (H' : Hp), Same H H' → H' t = some (.tup [.str "start", xv]) → Q (.ref t) H'))
theorem root_pos {n r : Int} {k : Nat} (hn : 1 ≤ n) (h0 : 0 ≤ r) (h : n < (r + 1) ^ k) : 1 ≤ r := by
  rcases Int.lt_or_le 0 r with h1 | h1
  · omega
  · have e : r = 0 := by omega
    rw [e, Int.zero_add, Int.one_pow] at h
    omega
/-! ### the law's own defs of law k05 -/
def spLoop (C : Addr) : Sp := fun vs H Q _ => ∃ (p : Addr) (L : Parts), vs = [.ref p] ∧ H p = some (.tup L.vs) ∧ L.Ok ∧ ∀ (x : Addr) (H' : Hp), H x = none → Same H H' → AvgAt C H' x L → Q (.ref x) H'
def spLed : Sp := fun vs H Q _ => ∃ (p : Addr) (L : Parts) (n x : Int) (b : Nat), vs = [.ref p, .int n, .int x] ∧ H p = some (.tup L.vs) ∧ L.Ok ∧ 0 ≤ n ∧ 1 ≤ x ∧ Sz x b ∧ 0 < b ∧ b ≤ 2000 ∧ Q (.int (stepZ L n x)) H
def spNumber : Sp := fun vs H Q _ => ∃ (a : Addr) (c : Nat) (k : Int), vs = [.ref a, .int k] ∧ StrAt H a c ∧ c ≤ 90000 ∧ 2 ≤ k ∧ k ≤ 4 ∧ ∀ (n : Int) (H' : Hp), 1 ≤ n → Sz n 700 → SameBut a H H' → StrAt H' a (c + 20) → Q (.int n) H'
def spRoot : Sp := fun vs H Q _ => ∃ n k : Int, vs = [.int n, .int k] ∧ 0 ≤ n ∧ Sz n 700 ∧ 2 ≤ k ∧ k ≤ 4 ∧ ∀ (r : Int) (H' : Hp), 0 ≤ r → r ≤ n → r ^ k.toNat ≤ n → n < (r + 1) ^ k.toNat → Same H H' → Q (.int r) H'
/-! ### above the root a step never turns the order -/
theorem quot_drop {k n x : Int} (hk : k = 2 ∨ k = 3 ∨ k = 4) (hx : 1 ≤ x) (h0 : 0 ≤ n) (hn : n < x ^ k.toNat) : n / x ^ (k - 1).toNat - (k - 1) ≤ n / (x + 1) ^ (k - 1).toNat := by
  have p0 : 0 < x ^ (k - 1).toNat := Int.pow_pos (by omega)
  have p1 : 0 < (x + 1) ^ (k - 1).toNat := Int.pow_pos (by omega)
  have q0 : 0 ≤ n / x ^ (k - 1).toNat := Int.ediv_nonneg h0 (Int.le_of_lt p0)
  have q1 : n / x ^ (k - 1).toNat * x ^ (k - 1).toNat ≤ n := Int.ediv_mul_le n (by omega)
  have q2 : n / x ^ (k - 1).toNat < x := by
    refine Int.ediv_lt_of_lt_mul p0 ?_
    have e : k.toNat = (k - 1).toNat + 1 := by omega
    rw [e, Int.pow_succ, Int.mul_comm] at hn
    exact hn
  rw [Int.le_ediv_iff_mul_le p1]
  refine Int.le_trans ?_ q1
  generalize n / x ^ (k - 1).toNat = q at *
  have xx : 0 ≤ x * x := Int.mul_nonneg (by omega) (by omega)
  rcases hk with rfl | rfl | rfl
  · show (q - (2 - 1)) * (x + 1) ^ (1 : Int).toNat ≤ q * x ^ (1 : Int).toNat
    rw [pw1, pw1]
    have e : q * x - (q - (2 - 1)) * (x + 1) = x + 1 - q := by grind
    omega
  · show (q - (3 - 1)) * (x + 1) ^ (2 : Int).toNat ≤ q * x ^ (2 : Int).toNat
    rw [pw2, pw2]
    have e : q * (x * x) - (q - (3 - 1)) * ((x + 1) * (x + 1)) = (x - q) * (2 * x + 1) + 3 * x + 2 := by grind
    have h : 0 ≤ (x - q) * (2 * x + 1) := Int.mul_nonneg (by omega) (by omega)
    omega
  · show (q - (4 - 1)) * (x + 1) ^ (3 : Int).toNat ≤ q * x ^ (3 : Int).toNat
    rw [pw3, pw3]
    have e : q * (x * x * x) - (q - (4 - 1)) * ((x + 1) * (x + 1) * (x + 1)) = (x - q) * (3 * (x * x) + 3 * x + 1) + 6 * (x * x) + 8 * x + 3 := by grind
    have h : 0 ≤ (x - q) * (3 * (x * x) + 3 * x + 1) := Int.mul_nonneg (by omega) (by omega)
    omega
theorem step_up {L : Parts} (ok : L.Ok) {n x : Int} (hx : 1 ≤ x) (h0 : 0 ≤ n) (hn : n < x ^ L.k.toNat) : stepZ L n x ≤ stepZ L n (x + 1) := by
  have k2 := ok.k2
  have k4 := ok.k4
  have a1 := ok.a1
  have c1 := ok.c1
  have ca := ok.ca
  have hk3 : L.k = 2 ∨ L.k = 3 ∨ L.k = 4 := by omega
  have d := quot_drop hk3 hx h0 hn
  unfold stepZ
  refine Int.ediv_le_ediv (by omega) ?_
  generalize n / x ^ (L.k - 1).toNat = q1 at *
  generalize n / (x + 1) ^ (L.k - 1).toNat = q2 at *
  have h1 : L.c * (q1 - q2) ≤ L.c * (L.k - 1) := Int.mul_le_mul_of_nonneg_left (by omega) (by omega)
  rw [Int.mul_sub] at h1
  have h2 : L.a * (x + 1) = L.a * x + L.a := by rw [Int.mul_add, Int.mul_one]
  omega
theorem step_mono {L : Parts} (ok : L.Ok) {n x : Int} (hx : 1 ≤ x) (h0 : 0 ≤ n) (hn : n < x ^ L.k.toNat) : ∀ m : Nat, n < (x + m) ^ L.k.toNat ∧ stepZ L n x ≤ stepZ L n (x + m)
  | 0 => ⟨by rw [Int.natCast_zero, Int.add_zero]; exact hn, by rw [Int.natCast_zero, Int.add_zero]; exact Int.le_refl _⟩
  | m + 1 => by
    obtain ⟨h1, h2⟩ := step_mono ok hx h0 hn m
    have k2 := ok.k2
    have e : x + ((m + 1 : Nat) : Int) = x + m + 1 := by omega
    rw [e]
    exact ⟨Int.lt_trans h1 (pow_lt_succ (by omega) (by omega)), Int.le_trans h2 (step_up ok (by omega) h0 h1)⟩
theorem step_le {L : Parts} (ok : L.Ok) {n x z : Int} (hx : 1 ≤ x) (h0 : 0 ≤ n) (hn : n < x ^ L.k.toNat) (hz : x ≤ z) : n < z ^ L.k.toNat ∧ stepZ L n x ≤ stepZ L n z := by
  have := step_mono ok hx h0 hn (z - x).toNat
  have e : x + ((z - x).toNat : Int) = z := by omega
  rw [e] at this
  exact this
theorem step_nn {L : Parts} (ok : L.Ok) {n x : Int} (hx : 1 ≤ x) (h0 : 0 ≤ n) : 0 ≤ stepZ L n x := by
  have a1 := ok.a1
  have c1 := ok.c1
  have d0 := ok.d0
  unfold stepZ
  refine Int.ediv_nonneg ?_ (by omega)
  have p0 : 0 < x ^ (L.k - 1).toNat := Int.pow_pos (by omega)
  have q0 : 0 ≤ n / x ^ (L.k - 1).toNat := Int.ediv_nonneg h0 (Int.le_of_lt p0)
  have h1 : 0 ≤ L.c * (n / x ^ (L.k - 1).toNat) := Int.mul_nonneg (by omega) q0
  have h2 : L.a * 1 ≤ L.a * x := Int.mul_le_mul_of_nonneg_left hx (by omega)
  omega
/-! ### objects that are none -/
def OddV (H : Hp) (l : Int) (v : V) (d : PyData) : Prop :=
  (∃ i, v = .int i ∧ d = .int i ∧ i < l) ∨ (∃ b, v = .bl b ∧ d = .bool b) ∨ (v = .non ∧ d = .none) ∨ (v = .str "9" ∧ d = .str "9") ∨ (v = .str "1" ∧ d = .str "1") ∨
    (∃ a, v = .ref a ∧ H a = some (.lst [.int 4]) ∧ d = .list [.int 4]) ∨ (∃ a, v = .ref a ∧ H a = some (.tup [.int 3]) ∧ d = .tuple [.int 3])
theorem OddV.mono {H H' : Hp} {l : Int} {v : V} {d : PyData} (h : OddV H l v d) (k : ∀ a o, v = .ref a → H a = some o → H' a = some o) : OddV H' l v d := by
  rcases h with h | h | h | h | h | ⟨a, e, e1, e2⟩ | ⟨a, e, e1, e2⟩
  · exact .inl h
  · exact .inr (.inl h)
  · exact .inr (.inr (.inl h))
  · exact .inr (.inr (.inr (.inl h)))
  · exact .inr (.inr (.inr (.inr (.inl h))))
  · exact .inr (.inr (.inr (.inr (.inr (.inl ⟨a, e, k a _ e e1, e2⟩)))))
  · exact .inr (.inr (.inr (.inr (.inr (.inr ⟨a, e, k a _ e e1, e2⟩)))))
theorem OddV.same {H H' : Hp} {l : Int} {v : V} {d : PyData} (h : OddV H l v d) (k : Same H H') : OddV H' l v d := h.mono fun a o _ e => k a o e
theorem OddV.bad {K : PySem.W.Frag} {H : Hp} {l : Int} {v : V} {d : PyData} (h : OddV H l v d) : Bad K H l v := by
  rcases h with ⟨i, rfl, _, h⟩ | ⟨b, rfl, _⟩ | ⟨rfl, _⟩ | ⟨rfl, _⟩ | ⟨rfl, _⟩ | ⟨a, rfl, e, _⟩ | ⟨a, rfl, e, _⟩
  · exact .inr ⟨i, rfl, h⟩
  · exact .inl (isI_bl K H b)
  · exact .inl (isI_non K H)
  · exact .inl (isI_str K H _)
  · exact .inl (isI_str K H _)
  · exact .inl (isI_lst K e)
  · exact .inl (isI_tup K e)
theorem OddV.dp {K : PySem.W.Frag} {H : Hp} {l : Int} {v : V} {d : PyData} (h : OddV H l v d) : Dp K H v d := by
  rcases h with ⟨i, rfl, rfl, h⟩ | ⟨b, rfl, rfl⟩ | ⟨rfl, rfl⟩ | ⟨rfl, rfl⟩ | ⟨rfl, rfl⟩ | ⟨a, rfl, e, rfl⟩ | ⟨a, rfl, e, rfl⟩
  · exact .int i
  · exact .bl b
  · exact .non
  · exact .str _
  · exact .str _
  · exact .lst (SqL.of e) (.cons (.int 4) .nil)
  · exact .tup (SqT.of e) (.cons (.int 3) .nil)
theorem OddV.lay {H : Hp} {l : Int} {v : V} {d : PyData} (h : OddV H l v d) : d.canLay0 = true ∧ d.depth ≤ 2 := by
  rcases h with ⟨i, rfl, rfl, h⟩ | ⟨b, rfl, rfl⟩ | ⟨rfl, rfl⟩ | ⟨rfl, rfl⟩ | ⟨rfl, rfl⟩ | ⟨a, rfl, e, rfl⟩ | ⟨a, rfl, e, rfl⟩
  · exact ⟨rfl, by show PyData.depth (.int i) ≤ 2; unfold PyData.depth; omega⟩
  · exact ⟨rfl, by show PyData.depth (.bool b) ≤ 2; unfold PyData.depth; omega⟩
  · exact ⟨rfl, by decide⟩
  · exact ⟨by decide +kernel, by decide +kernel⟩
  · exact ⟨by decide +kernel, by decide +kernel⟩
  · exact ⟨by decide +kernel, by decide +kernel⟩
  · exact ⟨by decide +kernel, by decide +kernel⟩
theorem OddV.ty {K : PySem.W.Frag} {H : Hp} {l : Int} {v : V} {d : PyData} (h : OddV H l v d) : ∃ (t : Value) (b : Bool), TyX K H v t ∧ PySem.W.kitOne K t (.type "bool") = some b := by
  rcases h with ⟨i, rfl, _, h⟩ | ⟨b, rfl, _⟩ | ⟨rfl, _⟩ | ⟨rfl, _⟩ | ⟨rfl, _⟩ | ⟨a, rfl, e, _⟩ | ⟨a, rfl, e, _⟩
  · exact ⟨_, false, .base (.int i), kit_ty (by decide +kernel)⟩
  · exact ⟨_, true, .base (.bl b), kit_ty (by decide +kernel)⟩
  · exact ⟨_, false, .base .non, kit_ty (by decide +kernel)⟩
  · exact ⟨_, false, .base (.str _), kit_ty (by decide +kernel)⟩
  · exact ⟨_, false, .base (.str _), kit_ty (by decide +kernel)⟩
  · exact ⟨_, false, .base (.lst e), kit_ty (by decide +kernel)⟩
  · exact ⟨_, false, .base (.tup e), kit_ty (by decide +kernel)⟩
theorem pair_shaped {d : PyData} (s : Str) (hs : PyData.canLay0 (.str s) = true) (h1 : d.canLay0 = true) (h2 : d.depth ≤ 2) : SeqAt.shaped (.tuple [.str s, d]) = true := by
  unfold SeqAt.shaped
  rw [Bool.and_eq_true, decide_eq_true_eq]
  refine ⟨?_, ?_⟩
  · show (PyData.canLay0 (.str s) && (PyData.canLay0 d && true)) = true
    rw [hs, h1] <;> rfl
  · simp only [PyData.depth, PyData.depthAll]
    omega
end Q

set_option Elab.async false
set_option linter.all false
set_option maxRecDepth 100000
set_option maxHeartbeats 4000000
namespace Q
open PySem PySem.Spec PyProof.Rows L2
def top (i : Nat) : Stmt := PySem.Challenge.pw_floorward_k05_steps.main.body.getD i (.Pass ⟨0, 0, 0, 0⟩)
/-! _law_stream: 0:_law_script 1:_law_k 2:_law_cell -/
abbrev s_Lstream : Stmt := top 28
theorem sc_Lstream : FnScope ["_law_script", "_law_k", "_law_cell"] ["_law_script", "_law_k"] (C8.fnScope s_Lstream) := C8.fnScope_by (by decide +kernel)
/-! _law_draw: 0:_law_stream_here 1:_law_many 2:_law_digit 3:_law_spread -/
abbrev s_Ldraw : Stmt := top 29
theorem sc_Ldraw : FnScope ["_law_stream_here", "_law_many", "_law_digit", "_law_spread"] ["_law_stream_here", "_law_many"] (C8.fnScope s_Ldraw) := C8.fnScope_by (by decide +kernel)
/-! _law_pick: 0:_law_stream_here 1:_law_things -/
abbrev s_Lpick : Stmt := top 30
theorem sc_Lpick : FnScope ["_law_stream_here", "_law_things"] ["_law_stream_here", "_law_things"] (C8.fnScope s_Lpick) := C8.fnScope_by (by decide +kernel)
/-! _law_power: 0:_law_x 1:_law_k 2:_law_found 3:_law_turn -/
abbrev s_Lpower : Stmt := top 31
theorem sc_Lpower : FnScope ["_law_x", "_law_k", "_law_found", "_law_turn"] ["_law_x", "_law_k"] (C8.fnScope s_Lpower) := C8.fnScope_by (by decide +kernel)
/-! _law_weights: 0:_law_k 1:_law_found 2:_law_a 3:_law_c -/
abbrev s_Lweights : Stmt := top 33
theorem sc_Lweights : FnScope ["_law_k", "_law_found", "_law_a", "_law_c"] ["_law_k"] (C8.fnScope s_Lweights) := C8.fnScope_by (by decide +kernel)
/-! _law_parts: 0:_law_stream_here 1:_law_k 2:_law_a 3:_law_c 4:_law_d 5:_law_stop 6:_law_told 7:_law_mend -/
abbrev s_Lparts : Stmt := top 34
theorem sc_Lparts : FnScope ["_law_stream_here", "_law_k", "_law_a", "_law_c", "_law_d", "_law_stop", "_law_told", "_law_mend"] ["_law_stream_here"] (C8.fnScope s_Lparts) := C8.fnScope_by (by decide +kernel)
/-! is_int: 0:value -/
abbrev s_is_int : Stmt := top 7
theorem sc_is_int : FnScope ["value"] ["value"] (C8.fnScope s_is_int) := C8.fnScope_by (by decide +kernel)
/-! is_from: 0:value 1:least -/
abbrev s_is_from : Stmt := top 8
theorem sc_is_from : FnScope ["value", "least"] ["value", "least"] (C8.fnScope s_is_from) := C8.fnScope_by (by decide +kernel)
/-! is_within: 0:value 1:least 2:greatest -/
abbrev s_is_within : Stmt := top 9
theorem sc_is_within : FnScope ["value", "least", "greatest"] ["value", "least", "greatest"] (C8.fnScope s_is_within) := C8.fnScope_by (by decide +kernel)
/-! require_number: 0:n -/
abbrev s_require_number : Stmt := top 10
theorem sc_require_number : FnScope ["n"] ["n"] (C8.fnScope s_require_number) := C8.fnScope_by (by decide +kernel)
/-! require_start: 0:start -/
abbrev s_require_start : Stmt := top 24
theorem sc_require_start : FnScope ["start"] ["start"] (C8.fnScope s_require_start) := C8.fnScope_by (by decide +kernel)
/-! is_word: 0:value 1:words -/
abbrev s_is_word : Stmt := top 13
theorem sc_is_word : FnScope ["value", "words"] ["value", "words"] (C8.fnScope s_is_word) := C8.fnScope_by (by decide +kernel)
/-! possible_tellings: 0:stop -/
abbrev s_possible_tellings : Stmt := top 22
theorem sc_possible_tellings : FnScope ["stop"] ["stop"] (C8.fnScope s_possible_tellings) := C8.fnScope_by (by decide +kernel)
/-! is_loop_power: 0:k -/
abbrev s_is_loop_power : Stmt := top 20
theorem sc_is_loop_power : FnScope ["k"] ["k"] (C8.fnScope s_is_loop_power) := C8.fnScope_by (by decide +kernel)
/-! greatest_c: 0:k 1:a -/
abbrev s_greatest_c : Stmt := top 21
theorem sc_greatest_c : FnScope ["k", "a"] ["k", "a"] (C8.fnScope s_greatest_c) := C8.fnScope_by (by decide +kernel)
/-! wrong_part: 0:k 1:a 2:c 3:d 4:stop 5:told 6:mend -/
abbrev s_wrong_part : Stmt := top 23
theorem sc_wrong_part : FnScope ["k", "a", "c", "d", "stop", "told", "mend"] ["k", "a", "c", "d", "stop", "told", "mend"] (C8.fnScope s_wrong_part) := C8.fnScope_by (by decide +kernel)
/-! Average.__init__: 0:self 1:k 2:a 3:c 4:d 5:stop 6:told 7:mend 8:word -/
abbrev s_Average___init__ : Stmt := inClass (top 25) 0
theorem sc_Average___init__ : FnScope ["self", "k", "a", "c", "d", "stop", "told", "mend", "word"] ["self", "k", "a", "c", "d", "stop", "told", "mend"] (C8.fnScope s_Average___init__) := C8.fnScope_by (by decide +kernel)
/-! power: 0:base 1:k 2:half -/
abbrev s_power : Stmt := top 11
theorem sc_power : FnScope ["base", "k", "half"] ["base", "k"] (C8.fnScope s_power) := C8.fnScope_by (by decide +kernel)
/-! next_guess: 0:loop 1:n 2:x 3:quotient -/
abbrev s_next_guess : Stmt := top 26
theorem sc_next_guess : FnScope ["loop", "n", "x", "quotient"] ["loop", "n", "x"] (C8.fnScope s_next_guess) := C8.fnScope_by (by decide +kernel)
/-! Average.step: 0:self 1:n 2:x -/
abbrev s_Average_step : Stmt := inClass (top 25) 2
theorem sc_Average_step : FnScope ["self", "n", "x"] ["self", "n", "x"] (C8.fnScope s_Average_step) := C8.fnScope_by (by decide +kernel)
/-! _law_refused: 0:_law_loop_here 1:_law_n 2:_law_x 3:e -/
abbrev s_Lrefused : Stmt := top 38
theorem sc_Lrefused : FnScope ["_law_loop_here", "_law_n", "_law_x", "e"] ["_law_loop_here", "_law_n", "_law_x"] (C8.fnScope s_Lrefused) := C8.fnScope_by (by decide +kernel)
/-! _law_loop: 0:_law_parts_here -/
abbrev s_Lloop : Stmt := top 35
theorem sc_Lloop : FnScope ["_law_parts_here"] ["_law_parts_here"] (C8.fnScope s_Lloop) := C8.fnScope_by (by decide +kernel)
/-! _law_led: 0:_law_parts_here 1:_law_n 2:_law_x -/
abbrev s_Lled : Stmt := top 36
theorem sc_Lled : FnScope ["_law_parts_here", "_law_n", "_law_x"] ["_law_parts_here", "_law_n", "_law_x"] (C8.fnScope s_Lled) := C8.fnScope_by (by decide +kernel)
/-! _law_root: 0:_law_n 1:_law_k 2:_law_least 3:_law_most 4:_law_middle -/
abbrev s_Lroot : Stmt := top 32
theorem sc_Lroot : FnScope ["_law_n", "_law_k", "_law_least", "_law_most", "_law_middle"] ["_law_n", "_law_k"] (C8.fnScope s_Lroot) := C8.fnScope_by (by decide +kernel)
/-! _law_number: 0:_law_stream_here 1:_law_k 2:_law_way 3:_law_floor 4:_law_end 5:_law_i 6:_law_turn 7:_law_some -/
abbrev s_Lnumber : Stmt := top 37
theorem sc_Lnumber : FnScope ["_law_stream_here", "_law_k", "_law_way", "_law_floor", "_law_end", "_law_i", "_law_turn", "_law_some"] ["_law_stream_here", "_law_k"] (C8.fnScope s_Lnumber) := C8.fnScope_by (by decide +kernel)
/-! law: 0:_law_script 1:_law_turn 2:_law_stream_here 3:_law_parts_here 4:_law_loop_here 5:_law_n 6:_law_floor 7:_law_number_here 8:_law_x 9:_law_last 10:_law_k 11:_law_y 12:_law_odd 13:_law_wrong 14:_law_start 15:_law_due 16:_law_told -/
abbrev s_law : Stmt := top 39
theorem sc_law : FnScope ["_law_script", "_law_turn", "_law_stream_here", "_law_parts_here", "_law_loop_here", "_law_n", "_law_floor", "_law_number_here", "_law_x", "_law_last", "_law_k", "_law_y", "_law_odd", "_law_wrong", "_law_start", "_law_due", "_law_told"] ["_law_script"] (C8.fnScope s_law) := C8.fnScope_by (by decide +kernel)
/-- what the walks ask of the top's names -/
structure Txt (K : PySem.W.Frag) (mg : Str → Option Value) : Prop where
  b_abs : mg "abs" = none
  b_bool : mg "bool" = none
  b_int : mg "int" = none
  b_isinstance : mg "isinstance" = none
  b_len : mg "len" = none
  b_max : mg "max" = none
  b_min : mg "min" = none
  b_range : mg "range" = none
  b_str : mg "str" = none
  c_LOOKS : ∃ a : Addr, mg "LOOKS" = some (.ref a) ∧ ∀ H : Hp, SqT K H a [.str "under", .str "held"]
  c_MENDS : ∃ a : Addr, mg "MENDS" = some (.ref a) ∧ ∀ H : Hp, SqT K H a [.str "none", .str "down", .str "up", .str "both"]
  c_MOST_WEIGHT : ∃ u, mg "MOST_WEIGHT" = some u ∧ RelV (.int 6) u
  c_STOPS : ∃ a : Addr, mg "STOPS" = some (.ref a) ∧ ∀ H : Hp, SqT K H a [.str "notless", .str "equal", .str "near1", .str "near2", .str "back", .str "under", .str "held"]
  c_TELLINGS : ∃ a : Addr, mg "TELLINGS" = some (.ref a) ∧ ∀ H : Hp, SqT K H a [.str "old", .str "new", .str "less", .str "more"]

local macro_rules | `(tactic| walk_at "rd") => `(tactic| repeat (first | refine ⟨_, rfl, ?_⟩ | refine ⟨_, _, rfl, rfl, ?_⟩ | refine ⟨_, _, rfl, ?_⟩ | refine ⟨_, _, _, rfl, ?_⟩ | refine .inl ⟨_, rfl, ?_⟩ | refine ⟨rfl, ?_⟩))

section
variable {P : Program} {w : World} {K : PySem.W.Frag} {mg : Str → Option Value} {base : Heap}
theorem ok_Lstream {f : Addr} {fd : FuncData} (F : C8.Def K mg "_law_stream" s_Lstream f fd) (b : Binds K fd ["_law_script", "_law_k"] []) (T : Txt K mg) : C8.Cal P w K mg base 1 "_law_stream" (spStream K) [] := by
  refine C8.cal0 F b .nil sc_Lstream (fun vs H Q E h => ?_) (fun cdv A outer s H vs Q E hr h => ?_)
  · obtain ⟨a, ns, k, rfl, hS, h63, hk, q⟩ := h
    rfl
  · obtain ⟨a, ns, k, rfl, hS, h63, hk, q⟩ := h
    refine ⟨_, pss_cons (ps_set (i := 2) sc_Lstream.nd rfl (Or.inl rfl) (pe_ifExp (pt_cmpR op_lt (pv 1) (pe_callB (call_len_seq) rfl T.b_len PySem.boot_len (pa_cons (pv 0) pa_nil)) (nomark _)) (pe_callB (call_abs) rfl T.b_abs boot_abs (pa_cons (pe_ix ix_list (pv 0) (pv 1) (fun _ _ => rfl)) pa_nil)) pe_int))
      (pss_one (ps_ret (pe_lst (pa_cons (pe_ifExp (pt_cmpR op_ge (pv 2) (pe_op op_pow pe_int pe_int) (nomark _)) (pv 2) pe_int) (pa_cons (pe_op op_add (pe_op op_mod (pe_callTy (call_int1) rfl T.b_int boot_int (pa_cons (pv 2) pa_nil)) pe_int) (pe_op op_mul pe_int (pv 1))) (pa_cons pe_int pa_nil)))))), ?_⟩
    have ex : ∃ cell : Int, 0 ≤ cell ∧ ((k < ns.length ∧ ∃ z, atI (ns.map V.int) (k : Int) = some (V.int z) ∧ cell = (if z < 0 then -z else z)) ∨ (¬ k < ns.length ∧ cell = 0)) := by
      by_cases hlt : k < ns.length
      · refine ⟨_, ?_, .inl ⟨hlt, ns[k], atI_nat (by rw [List.getElem?_map, List.getElem?_eq_getElem hlt] <;> rfl), rfl⟩⟩
        split <;> omega
      · exact ⟨0, by decide, .inr ⟨hlt, rfl⟩⟩
    obtain ⟨cell, h0, hc⟩ := ex
    have hl : (ns.map V.int).length = ns.length := List.length_map _
    walk_at "rd"
    refine ⟨a, _, rfl, .inl hS, ?_⟩
    walk_at "rd"
    refine if_join (.int cell) ?_ (fun c Q q => ?_) (fun c Q q => ?_)
    · walk_at "rd"
      refine ⟨⟨by decide, by decide, by decide⟩, ?_⟩
      walk_at "rd"
      refine if_join (.int (if 10 ^ (18 : Int).toNat ≤ cell then cell else 0)) ?_ (fun c Q q => ?_) (fun c Q q => ?_)
      · walk_at "rd"
        refine ⟨(by show (0 : Int) < 2147483647; decide), ?_⟩
        walk_at "rd"
        refine ⟨.inl ⟨by decide, by decide⟩, ?_⟩
        walk_at "rd"
        refine ⟨(by show 3 ≤ sizeLine; decide), fun p hp => q p _ hp (same_new hp _) ⟨_, _, _, upd_same, ?_, ?_, ?_, Int.le_refl 0, Int.le_refl 0⟩⟩
        · split <;> omega
        · omega
        · omega
      · refine ⟨_, rfl, ?_⟩
        have c' := of_decide_eq_true c
        rw [if_pos c'] at q
        exact q
      · have c' := of_decide_eq_false c
        rw [if_neg c'] at q
        exact q
    · have c' := of_decide_eq_true c
      rcases hc with ⟨_, z, hz, rfl⟩ | ⟨h, _⟩
      · exact ⟨_, rfl, _, rfl, a, _, _, _, rfl, rfl, hS, hz, _, rfl, q⟩
      · rw [hl] at c'
        omega
    · have c' := of_decide_eq_false c
      rcases hc with ⟨h, _⟩ | ⟨_, rfl⟩
      · rw [hl] at c'
        omega
      · exact q
theorem ok_Ldraw {f : Addr} {fd : FuncData} (F : C8.Def K mg "_law_draw" s_Ldraw f fd) (b : Binds K fd ["_law_stream_here", "_law_many"] []) (T : Txt K mg) : C8.Cal P w K mg base 1 "_law_draw" (spDraw) [] := by
  refine C8.cal0 F b .nil sc_Ldraw (fun vs H Q E h => ?_) (fun cdv A outer s H vs Q E hr h => ?_)
  · obtain ⟨a, c, m, b', rfl, hA, hc, hm, hb, hb2, q⟩ := h
    rfl
  · obtain ⟨a, c, m, b', rfl, hA, hc, hm, hb, hb2, q⟩ := h
    refine ⟨_, pss_cons (ps_if (pt_cmpR op_gt (pe_ix ix_list (pv 0) pe_int (fun _ _ => rfl)) pe_int (nomark _)) (pss_cons (ps_set (i := 2) sc_Ldraw.nd rfl (Or.inl rfl) (pe_op op_mod (pe_callTy (call_int1) rfl T.b_int boot_int (pa_cons (pe_ix ix_list (pv 0) pe_int (fun _ _ => rfl)) pa_nil)) (pv 1)))
        (pss_cons (ps_asg (pe_op op_fdivW (pe_ix ix_list (pv 0) pe_int (fun _ _ => rfl)) (pv 1)) (pg_sub (pv 0) pe_int set_list))
        (pss_one (ps_ret (pv 2))))) (pss_nil))
      (pss_cons (ps_asg (pe_op op_add (pe_ix ix_list (pv 0) pe_int (fun _ _ => rfl)) pe_int) (pg_sub (pv 0) pe_int set_list))
      (pss_cons (ps_set (i := 3) sc_Ldraw.nd rfl (Or.inl rfl) (pe_op op_mod (pe_op op_pow (pe_callTy (call_int1) rfl T.b_int boot_int (pa_cons (pe_op op_add (pe_op op_add (pe_ix ix_list (pv 0) pe_int (fun _ _ => rfl)) (pe_op op_mul pe_int (pe_ix ix_list (pv 0) pe_int (fun _ _ => rfl)))) pe_int) pa_nil)) pe_int) pe_int))
      (pss_one (ps_ret (pe_op op_mod (pe_op op_fdiv (pe_op op_mod (pe_callTy (call_int1) rfl T.b_int boot_int (pa_cons (pe_op op_mul (pe_op op_add (pv 3) (pe_ix ix_list (pv 0) pe_int (fun _ _ => rfl))) pe_int) pa_nil)) pe_int) pe_int) (pv 1)))))), ?_⟩
    obtain ⟨x, y, z, h1, h2, h3, h4, h5, h6⟩ := hA
    have L0 : SqL K H a [.int x, .int y, .int z] := SqL.of h1
    walk_at "rd"
    refine ⟨a, _, _, _, rfl, rfl, L0, atI_nat (j := 0) rfl, ?_⟩
    walk_at "rd"
    refine ite2 (fun c => ?_) (fun c => ?_)
    · have c' : 0 < x := of_decide_eq_true c
      walk_at "rd"
      refine ⟨a, _, _, _, rfl, rfl, L0, atI_nat (j := 0) rfl, ?_⟩
      walk_at "rd"
      refine ⟨hm, ?_⟩
      walk_at "rd"
      refine ⟨a, _, _, _, rfl, rfl, L0, atI_nat (j := 0) rfl, ?_⟩
      walk_at "rd"
      refine ⟨Sz.d _ hm hb hb2, ?_⟩
      walk_at "rd"
      refine ⟨a, _, _, 0, rfl, rfl, h1, rfl, ?_⟩
      walk_at "rd"
      exact q _ _ (Int.emod_nonneg _ (by omega)) (Int.emod_lt_of_pos _ hm) (but_upd _ _ _) ⟨_, _, _, upd_same, Int.ediv_nonneg h2 (by omega), h3, h4, h5, by omega⟩
    · walk_at "rd"
      refine ⟨a, _, _, _, rfl, rfl, L0, atI_nat (j := 2) rfl, ?_⟩
      walk_at "rd"
      refine ⟨a, _, _, 2, rfl, rfl, h1, rfl, ?_⟩
      have L1 : SqL K (upd H a (.lst [.int x, .int y, .int (z + 1)])) a [.int x, .int y, .int (z + 1)] := SqL.of upd_same
      walk_at "rd"
      refine ⟨a, _, _, _, rfl, rfl, L1, atI_nat (j := 1) rfl, ?_⟩
      walk_at "rd"
      refine ⟨a, _, _, _, rfl, rfl, L1, atI_nat (j := 2) rfl, ?_⟩
      walk_at "rd"
      refine ⟨.inl ⟨by decide, by decide⟩, ?_⟩
      walk_at "rd"
      refine ⟨⟨by decide, by decide, by omega⟩, ?_⟩
      walk_at "rd"
      refine ⟨(by show (0 : Int) < 2147483647; decide), ?_⟩
      generalize hg : (y + 7919 * (z + 1) + 104729) ^ (5 : Int).toNat % 2147483647 = g
      have g0 : 0 ≤ g := by rw [← hg]; exact Int.emod_nonneg _ (by decide)
      have g1 : g < 2147483647 := by rw [← hg]; exact Int.emod_lt_of_pos _ (by decide)
      walk_at "rd"
      refine ⟨a, _, _, _, rfl, rfl, L1, atI_nat (j := 2) rfl, ?_⟩
      walk_at "rd"
      refine ⟨.inr ⟨by decide, by decide⟩, ?_⟩
      walk_at "rd"
      refine ⟨(by show (0 : Int) < 2147483629; decide), ?_⟩
      walk_at "rd"
      refine ⟨⟨by decide, by decide⟩, ?_⟩
      walk_at "rd"
      refine ⟨hm, ?_⟩
      exact q _ _ (Int.emod_nonneg _ (by omega)) (Int.emod_lt_of_pos _ hm) (but_upd _ _ _) ⟨_, _, _, upd_same, h2, h3, h4, by omega, by omega⟩
theorem ok_Lpick {f : Addr} {fd : FuncData} (F : C8.Def K mg "_law_pick" s_Lpick f fd) (b : Binds K fd ["_law_stream_here", "_law_things"] []) (T : Txt K mg) (c_Ldraw : C8.Cal P w K mg base 1 "_law_draw" (spDraw) []) : C8.Cal P w K mg base 2 "_law_pick" (spPick K) [] := by
  refine C8.cal0 F b .nil sc_Lpick (fun vs H Q E h => ?_) (fun cdv A outer s H vs Q E hr h => ?_)
  · obtain ⟨a, c, p, xs, rfl, hA, hc, hn, hS, hne, hl, q⟩ := h
    rfl
  · obtain ⟨a, c, p, xs, rfl, hA, hc, hn, hS, hne, hl, q⟩ := h
    refine ⟨_, pss_one (ps_ret (pe_ix ix_list (pv 1) (C8.pe_c c_Ldraw hr (by decide) rfl (pa_cons (pv 0) (pa_cons (pe_callB (call_len_seq) rfl T.b_len PySem.boot_len (pa_cons (pv 1) pa_nil)) pa_nil))) (fun _ _ => rfl))), ?_⟩
    have hpos : 0 < xs.length := List.length_pos_iff.mpr hne
    walk_at "rd"
    refine ⟨p, _, rfl, .inl hS, ?_⟩
    refine ⟨a, c, _, 10, rfl, hA, hc, by omega, ?_, by decide, fun r H' h0 h1 hb hs => ?_⟩
    · show (xs.length : Int).natAbs < 2 ^ 10
      omega
    obtain ⟨j, rfl⟩ := Int.eq_ofNat_of_zero_le h0
    have hj : j < xs.length := by omega
    exact ⟨p, xs, _, xs[j], rfl, rfl, hb.seq hn hS, atI_nat (List.getElem?_eq_getElem hj), q _ _ (List.getElem_mem hj) hb hs⟩
theorem ok_Lpower {f : Addr} {fd : FuncData} (F : C8.Def K mg "_law_power" s_Lpower f fd) (b : Binds K fd ["_law_x", "_law_k"] []) (T : Txt K mg) : C8.Cal P w K mg base 1 "_law_power" (spLPow) [] := by
  refine C8.cal0 F b .nil sc_Lpower (fun vs H Q E h => ?_) (fun cdv A outer s H vs Q E hr h => ?_)
  · obtain ⟨x, e, b', rfl, he, hx, hb, hl, hk, q⟩ := h
    rfl
  · obtain ⟨x, e, b', rfl, he, hx, hb, hl, hk, q⟩ := h
    refine ⟨_, pss_cons (ps_set (i := 2) sc_Lpower.nd rfl (Or.inl rfl) pe_int)
      (pss_cons (ps_for PassesOwn.never rfl (pi_range1 rfl T.b_range (pa_cons (pv 1) pa_nil)) (pg_name (i := 3) sc_Lpower.nd rfl (Or.inl rfl)) (pss_one (ps_set (i := 2) sc_Lpower.nd rfl (Or.inl rfl) (pe_op op_mulW (pv 2) (pv 0)))))
      (pss_one (ps_ret (pv 2)))), ?_⟩
    walk_at "rd"
    refine ⟨by omega, by omega, ?_⟩
    refine for_range (n := e.toNat) (fun i σ H' => ∃ (g : Int) (v : Option V), σ = [some (.int x), some (.int e), some (.int g), v] ∧ g = x ^ i ∧ H' = H) ⟨1, none, rfl, (Int.pow_zero x).symm, rfl⟩ ?_ ?_
    · rintro i σ H' hi ⟨g, v, rfl, rfl, rfl⟩
      walk_at "rd"
      refine ⟨Sz.w (Sz.pow hx hb i) hx ?_, ?_⟩
      · have : i * b' ≤ e.toNat * b' := Nat.mul_le_mul_right _ (by omega)
        rw [Nat.succ_mul] at hl
        omega
      · exact ⟨_, _, rfl, (Int.pow_succ x i).symm, rfl⟩
    · rintro σ H' ⟨g, v, rfl, rfl, rfl⟩
      walk_at "rd"
      exact q

theorem ok_Lweights {f : Addr} {fd : FuncData} (F : C8.Def K mg "_law_weights" s_Lweights f fd) (b : Binds K fd ["_law_k"] []) (T : Txt K mg) : C8.Cal P w K mg base 1 "_law_weights" (spWts) [] := by
  refine C8.cal0 F b .nil sc_Lweights (fun vs H Q E h => ?_) (fun cdv A outer s H vs Q E hr h => ?_)
  · obtain ⟨k, rfl, k2, k4, q⟩ := h
    rfl
  · obtain ⟨k, rfl, k2, k4, q⟩ := h
    refine ⟨_, pss_cons (ps_set (i := 1) sc_Lweights.nd rfl (Or.inl rfl) (pe_lst (pa_nil)))
      (pss_cons (ps_for PassesOwn.never rfl (pi_range2 rfl T.b_range (pa_cons pe_int (pa_cons pe_int pa_nil))) (pg_name (i := 2) sc_Lweights.nd rfl (Or.inr rfl)) (pss_one (ps_expr (pe_bm PySem.F.plainAttrs_list PySem.F.slot_list_extend PySem.F.type_list_extend mt_extend (pv 1) (pa_cons (pe_lc (own := [("_law_c", 3)]) rfl sc_Lweights.nd (pi_tup (pe_tup (pa_cons pe_int (pa_cons pe_int (pa_cons pe_int pa_nil))))) (blkOk_by (N := ["_law_k", "_law_found", "_law_a", "_law_c"]) (sc := C8.fnScope s_Lweights) (by decide +kernel)) (fun _ _ _ _ _ => by exact (pg_name (i := 3) sc_Lweights.nd rfl (Or.inl rfl))) (fun _ _ _ _ _ => pts_one (PW.pt (pw_and (pt_cmpR op_ge (pv 2) (pe_op op_mul (pv 3) (pe_op op_sub (pv 0) pe_int)) (nomark _)) (pw_and1 (pt_cmpR op_le (pe_op op_add (pv 2) (pv 3)) pe_int (nomark _)))))) (fun _ _ _ _ _ => by exact (pe_tup (pa_cons (pv 2) (pa_cons (pv 3) pa_nil))))) pa_nil)))))
      (pss_one (ps_ret (pv 1)))), ?_⟩
    refine ⟨(by show 0 ≤ sizeLine; decide), fun p hp => ?_⟩
    walk_at "rd"
    refine ⟨by decide, ?_⟩
    refine for_range (n := 5) (fun i σ H' => ∃ (acc : List V) (va vc : Option V), σ = [some (.int k), some (.ref p), va, vc] ∧ H' p = some (.lst acc) ∧ Prs H' acc (wtsTo k i) ∧ SameBut p H H') ⟨[], none, none, rfl, upd_same, .nil, but_new hp _⟩ ?_ ?_
    · rintro i σ H' hi ⟨acc, va, vc, rfl, hacc, hprs, hbut⟩
      have hlen := hprs.length
      have hwl := wtsTo_len k i
      walk_at "rd"
      refine ⟨.inl ⟨rfl, _, SqL.of hacc⟩, ?_⟩
      refine ⟨(by show 3 ≤ sizeLine; decide), fun t ht => ?_⟩
      refine ⟨t, rfl, ⟨_, SqT.of upd_same⟩, fun D hD => ?_⟩
      have ntD : t ≠ D := ne_of_none upd_same hD
      have nD : H' D = none := (same_new ht _).free hD
      have npD : p ≠ D := ne_of_none hacc nD
      have npt : p ≠ t := ne_of_none hacc ht
      refine lc_tup (K := K) (a := t) (xs := ([1, 2, 3] : List Int).map V.int) (fun j G => ∃ ad, G D = some (.lst ad) ∧ Prs G ad (crow k (1 + i) j) ∧ (∀ b o, b ≠ D → (upd H' t (.tup (([1, 2, 3] : List Int).map V.int))) b = some o → G b = some o) ∧ ad.length ≤ j) ⟨[], upd_same, .nil, fun b o n e => by rw [upd_ne n]; exact e, Nat.zero_le _⟩
        (fun j G _ ⟨ad, _, _, h3, _⟩ => SqT.of (h3 t _ ntD upd_same)) ?_ ?_
      · rintro j x G hj ⟨ad, h1, h2, h3, h4⟩
        obtain ⟨z, hz, rfl⟩ := int_at hj
        have hj3 : j < 3 := (List.getElem?_eq_some_iff.mp hz).1
        have cs := crow_succ (k := k) (a := 1 + i) hz
        refine ⟨rfl, ?_⟩
        walk_at "rd"
        refine ⟨.inr ⟨by omega, by omega⟩, ?_⟩
        walk_at "rd"
        refine ite2 (fun c1 => ?_) (fun c1 => ?_)
        · walk_at "rd"
          refine ite2 (fun c2 => ?_) (fun c2 => ?_)
          · walk_at "rd"
            rw [c1, c2] at cs
            refine ⟨(by show 2 ≤ sizeLine; decide), fun r hr => ?_⟩
            have nrD : D ≠ r := ne_of_none h1 hr
            refine ⟨ad, by rw [upd_ne nrD]; exact h1, small1000 (by omega), ad ++ [.ref r], upd_same, ?_, fun b o n e => ?_, by rw [List.length_append]; exact Nat.succ_le_succ h4⟩
            · rw [cs]
              refine (h2.mono fun b xs e => ?_).app (.cons ⟨r, rfl, ?_⟩ .nil)
              · rw [upd_ne (fun z => by rw [z, h1] at e; cases e), upd_ne (ne_of_none e hr)]
                exact e
              · rw [upd_ne nrD.symm, upd_same]
            · rw [upd_ne n, upd_ne (ne_of_none (h3 b o n e) hr)]
              exact h3 b o n e
          · have c2' := Bool.eq_false_iff.mpr c2
            rw [c1, c2'] at cs
            refine ⟨ad, h1, ?_, h3, by omega⟩
            rw [cs]
            simpa using h2
        · have c1' := Bool.eq_false_iff.mpr c1
          rw [c1'] at cs
          refine iteF ⟨ad, h1, ?_, h3, by omega⟩
          rw [cs]
          simpa using h2
      · rintro G ⟨ad, h1, h2, h3, h4⟩
        have h4' : ad.length ≤ 3 := h4
        have kp : ∀ b o, H' b = some o → G b = some o := fun b o e => h3 b o (ne_of_none e nD) (by rw [upd_ne (ne_of_none e ht)]; exact e)
        refine ⟨p, D, acc, ad, rfl, rfl, kp _ _ hacc, h1, small _ (by omega), ?_⟩
        refine ⟨_, _, _, rfl, upd_same, ?_, fun b o n e => ?_⟩
        · refine (hprs.mono fun b xs e => ?_).app (h2.mono fun b xs e => ?_)
          · rw [upd_ne (fun z => by rw [z, hacc] at e; cases e)]
            exact kp _ _ e
          · rw [upd_ne (fun z => by rw [z, kp _ _ hacc] at e; cases e)]
            exact e
        · rw [upd_ne n]
          exact kp _ _ (hbut b o n e)
    · rintro σ H' ⟨acc, va, vc, rfl, hacc, hprs, hbut⟩
      walk_at "rd"
      exact q p acc H' hp (fun b o e => hbut b o (ne_of_none e hp) e) hacc hprs
theorem ok_Lparts {f : Addr} {fd : FuncData} (F : C8.Def K mg "_law_parts" s_Lparts f fd) (b : Binds K fd ["_law_stream_here"] []) (T : Txt K mg) (c_Lpick : C8.Cal P w K mg base 2 "_law_pick" (spPick K) []) (c_Ldraw : C8.Cal P w K mg base 1 "_law_draw" (spDraw) []) (c_Lweights : C8.Cal P w K mg base 1 "_law_weights" (spWts) []) : C8.Cal P w K mg base 3 "_law_parts" (spParts) [] := by
  refine C8.cal0 F b .nil sc_Lparts (fun vs H Q E h => ?_) (fun cdv A outer s H vs Q E hr h => ?_)
  · obtain ⟨a, c, rfl, hA, hc, q⟩ := h
    rfl
  · obtain ⟨a, c, rfl, hA, hc, q⟩ := h
    refine ⟨_, pss_cons (ps_set (i := 1) sc_Lparts.nd rfl (Or.inl rfl) (pe_op op_add pe_int (C8.pe_c c_Ldraw hr (by decide) rfl (pa_cons (pv 0) (pa_cons pe_int pa_nil)))))
      (pss_cons (ps_asg (C8.pe_c c_Lpick hr (by decide) rfl (pa_cons (pv 0) (pa_cons (C8.pe_c c_Lweights hr (by decide) rfl (pa_cons (pv 1) pa_nil)) pa_nil))) (pg_tup rfl (pgs_cons (pg_name (i := 2) sc_Lparts.nd rfl (Or.inl rfl)) (pgs_cons (pg_name (i := 3) sc_Lparts.nd rfl (Or.inl rfl)) (pgs_nil)))))
      (pss_cons (ps_set (i := 4) sc_Lparts.nd rfl (Or.inl rfl) (C8.pe_c c_Lpick hr (by decide) rfl (pa_cons (pv 0) (pa_cons (pe_lst (pa_cons pe_int (pa_cons pe_int (pa_cons pe_int (pa_cons (pe_op op_sub (pv 3) pe_int) (pa_cons (pv 3) (pa_cons (pe_un un_neg pe_int) (pa_cons (pe_op op_sub (C8.pe_c c_Ldraw hr (by decide) rfl (pa_cons (pv 0) (pa_cons (pe_op op_add (pe_op op_add (pe_op op_mul pe_int (pv 2)) (pv 3)) pe_int) pa_nil))) (pv 2)) pa_nil)))))))) pa_nil))))
      (pss_cons (ps_set (i := 5) sc_Lparts.nd rfl (Or.inl rfl) (C8.pe_c c_Lpick hr (by decide) rfl (pa_cons (pv 0) (pa_cons (pe_lst (pa_cons pe_str (pa_cons pe_str (pa_cons pe_str (pa_cons pe_str (pa_cons pe_str (pa_cons pe_str (pa_cons pe_str pa_nil)))))))) pa_nil))))
      (pss_cons (ps_set (i := 6) sc_Lparts.nd rfl (Or.inl rfl) (C8.pe_c c_Lpick hr (by decide) rfl (pa_cons (pv 0) (pa_cons (pe_lst (pa_cons pe_str (pa_cons pe_str (pa_cons pe_str (pa_cons pe_str pa_nil))))) pa_nil))))
      (pss_cons (ps_set (i := 7) sc_Lparts.nd rfl (Or.inl rfl) (C8.pe_c c_Lpick hr (by decide) rfl (pa_cons (pv 0) (pa_cons (pe_lst (pa_cons pe_str (pa_cons pe_str (pa_cons pe_str (pa_cons pe_str (pa_cons pe_str pa_nil)))))) pa_nil))))
      (pss_one (ps_ret (pe_tup (pa_cons (pv 1) (pa_cons (pv 2) (pa_cons (pv 3) (pa_cons (pv 4) (pa_cons (pv 5) (pa_cons (pe_ifExp (pt_cmpR op_in_seq (pv 5) (pe_tup (pa_cons pe_str (pa_cons pe_str pa_nil))) (by with_unfolding_all rfl)) pe_str (pv 6)) (pa_cons (pv 7) pa_nil))))))))))))))), ?_⟩
    -- k
    walk_at "rd"
    refine ⟨a, c, 3, 2, rfl, hA, by omega, by decide, by decide, by decide, fun r1 H1 r10 r13 b1 s1 => ?_⟩
    walk_at "rd"
    -- the weights
    refine ⟨by omega, by omega, fun p2 acc H2 n2 m2 e2 w2 => ?_⟩
    have n2a : p2 ≠ a := s1.ne n2
    have s2 := s1.same m2
    have wl := w2.length
    have ww := wtsTo_len (2 + r1) 5
    refine ⟨a, c + 1, p2, acc, rfl, s2, by omega, n2a, SqL.of e2, ?_, ?_, fun v H3 hv b3 s3 => ?_⟩
    · intro z
      rw [z] at wl
      exact wts_ne (k := 2 + r1) (by omega) (by omega) (List.eq_nil_of_length_eq_zero wl.symm)
    · have : (wts (2 + r1)).length ≤ 3 * 5 := ww
      omega
    obtain ⟨⟨wa, wc⟩, hp, t, rfl, ht⟩ := w2.mem hv
    obtain ⟨a1, a5, c1, c3, ca, m6⟩ := wts_mem hp
    have a1 : 1 ≤ wa := a1
    have a5 : wa ≤ 5 := a5
    have c1 : 1 ≤ wc := c1
    have c3 : wc ≤ 3 := c3
    have ca : wc * (2 + r1 - 1) ≤ wa := ca
    have m6 : wa + wc ≤ 6 := m6
    obtain ⟨x0, y0, z0, hs2, _⟩ := id s2
    have nta : t ≠ a := fun z => by rw [z, hs2] at ht; cases ht
    refine ⟨t, _, rfl, SqT.of (b3 _ _ nta ht), rfl, _, _, rfl, _, _, rfl, rfl, ?_⟩
    -- d
    walk_at "rd"
    refine ⟨.inl ⟨by decide, by decide⟩, ?_⟩
    walk_at "rd"
    refine ⟨a, c + 2, _, 10, rfl, s3, by omega, by omega, (by show Int.natAbs _ < 2 ^ 10; omega), by decide, fun r4 H4 r40 r41 b4 s4 => ?_⟩
    walk_at "rd"
    refine ⟨(by show 7 ≤ sizeLine; decide), fun p5 n5 => ?_⟩
    have n5a : p5 ≠ a := s4.ne n5
    refine ⟨a, c + 3, p5, _, rfl, s4.same (same_new n5 _), by omega, n5a, SqL.of upd_same, List.cons_ne_nil _ _, (by show 7 ≤ 1000; decide), fun vd H6 hvd b6 s6 => ?_⟩
    obtain ⟨d, rfl, d0, d1⟩ : ∃ d : Int, vd = .int d ∧ -wa ≤ d ∧ d ≤ wa + wc := by
      simp only [List.mem_cons, List.not_mem_nil, or_false] at hvd
      rcases hvd with rfl | rfl | rfl | rfl | rfl | rfl | rfl <;> exact ⟨_, rfl, by omega, by omega⟩
    -- the words
    walk_at "rd"
    refine ⟨(by show 7 ≤ sizeLine; decide), fun p7 n7 => ?_⟩
    refine ⟨a, c + 4, p7, stops.map V.str, rfl, s6.same (same_new n7 _), by omega, s6.ne n7, SqL.of upd_same, List.cons_ne_nil _ _, (by show 7 ≤ 1000; decide), fun v8 H8 hv8 b8 s8 => ?_⟩
    obtain ⟨stop, hst, rfl⟩ := List.mem_map.mp hv8
    walk_at "rd"
    refine ⟨(by show 4 ≤ sizeLine; decide), fun p9 n9 => ?_⟩
    refine ⟨a, c + 5, p9, tellings.map V.str, rfl, s8.same (same_new n9 _), by omega, s8.ne n9, SqL.of upd_same, List.cons_ne_nil _ _, (by show 4 ≤ 1000; decide), fun v10 H10 hv10 b10 s10 => ?_⟩
    obtain ⟨told, hto, rfl⟩ := List.mem_map.mp hv10
    walk_at "rd"
    refine ⟨(by show 5 ≤ sizeLine; decide), fun p11 n11 => ?_⟩
    refine ⟨a, c + 6, p11, (["none", "none", "down", "up", "both"] : List Str).map V.str, rfl, s10.same (same_new n11 _), by omega, s10.ne n11, SqL.of upd_same, List.cons_ne_nil _ _, (by show 5 ≤ 1000; decide), fun v12 H12 hv12 b12 s12 => ?_⟩
    obtain ⟨mend, hme, rfl⟩ := List.mem_map.mp hv12
    -- the tuple
    walk_at "rd"
    refine ⟨(by show 2 ≤ sizeLine; decide), fun p13 n13 => ?_⟩
    refine ⟨p13, looks.map V.str, rfl, .inr (SqT.of upd_same), rfl, rfl, ?_⟩
    walk_at "rd"
    refine if_join (.str (if stop ∈ looks then "old" else told)) ?_ (fun cc Q q => ?_) (fun cc Q q => ?_)
    · walk_at "rd"
      refine ⟨(by show 7 ≤ sizeLine; decide), fun p14 n14 => ?_⟩
      have bb : SameBut a H (upd (upd H12 p13 (.tup (looks.map V.str))) p14 (.tup [.int (2 + r1), .int wa, .int wc, .int d, .str stop, .str (if stop ∈ looks then "old" else told), .str mend])) :=
        b1.trans ((Same.but m2).trans (b3.trans (b4.trans ((but_new n5 _).trans (b6.trans ((but_new n7 _).trans (b8.trans ((but_new n9 _).trans (b10.trans ((but_new n11 _).trans (b12.trans ((but_new n13 _).trans (but_new n14 _)))))))))))))
      have s14 := (s12.same (same_new n13 (.tup (looks.map V.str)))).ne n14
      refine q p14 _ ⟨2 + r1, wa, wc, d, stop, if stop ∈ looks then "old" else told, mend⟩ ?_ bb (((s12.same (same_new n13 _)).same (same_new n14 _)).mono (by omega)) upd_same ?_
      · have bb' : SameBut a H (upd H12 p13 (.tup (looks.map V.str))) := b1.trans ((Same.but m2).trans (b3.trans (b4.trans ((but_new n5 _).trans (b6.trans ((but_new n7 _).trans (b8.trans ((but_new n9 _).trans (b10.trans ((but_new n11 _).trans (b12.trans (but_new n13 _))))))))))))
        exact bb'.free s14 n14
      · refine ⟨by show 2 ≤ 2 + r1; omega, by show 2 + r1 ≤ 4; omega, a1, c1, ca, m6, d0, d1, hst, ?_, ?_, ?_⟩
        · show (if stop ∈ looks then ("old" : Str) else told) ∈ tellings
          split
          · decide
          · exact hto
        · intro hl
          show (if stop ∈ looks then ("old" : Str) else told) = "old"
          rw [if_pos hl]
        · show mend ∈ mendings
          simp only [List.mem_cons, List.not_mem_nil, or_false] at hme
          rcases hme with rfl | rfl | rfl | rfl | rfl <;> decide
    · have c2 : inV (.str stop) (looks.map V.str) = true := cc
      rw [inV_str] at c2
      rw [if_pos (of_decide_eq_true c2)] at q
      exact q
    · have c2 : inV (.str stop) (looks.map V.str) = false := cc
      rw [inV_str] at c2
      rw [if_neg (of_decide_eq_false c2)] at q
      exact ⟨_, rfl, q⟩

theorem ok_is_int {f : Addr} {fd : FuncData} (F : C8.Def K mg "is_int" s_is_int f fd) (b : Binds K fd ["value"] []) (T : Txt K mg) : C8.Cal P w K mg base 1 "is_int" (spIsInt K) [] := by
  refine C8.cal0 F b .nil sc_is_int (fun vs H Q E h => ?_) (fun cdv A outer s H vs Q E hr h => ?_)
  · obtain ⟨x, b', rfl, ⟨t, b1, b2, ty, k1, k2, rfl⟩, q⟩ := h
    rfl
  · obtain ⟨x, b', rfl, ⟨t, b1, b2, ty, k1, k2, rfl⟩, q⟩ := h
    refine ⟨_, pss_one (ps_ret (pe_and (pe_callB (call_isi) rfl T.b_isinstance boot_isinstance (pa_cons (pv 0) (pa_cons (pe_bltn (v := .ty "int") rfl T.b_int boot_int rfl) pa_nil))) (pe_one (pe_not (pe_callB (call_isi) rfl T.b_isinstance boot_isinstance (pa_cons (pv 0) (pa_cons (pe_bltn (v := .ty "bool") rfl T.b_bool boot_bool rfl) pa_nil))))))), ?_⟩
    walk_at "rd"
    refine ⟨_, .ty "int", t, _, b1, rfl, .ty "int", ty, k1, ?_⟩
    walk_at "rd"
    cases b1 with
    | true =>
      walk_at "rd"
      refine ⟨_, .ty "bool", t, _, b2, rfl, .ty "bool", ty, k2, ?_⟩
      walk_at "rd"
      exact q
    | false => exact q
theorem ok_is_from {f : Addr} {fd : FuncData} (F : C8.Def K mg "is_from" s_is_from f fd) (b : Binds K fd ["value", "least"] []) (T : Txt K mg) (c_is_int : C8.Cal P w K mg base 1 "is_int" (spIsInt K) []) : C8.Cal P w K mg base 2 "is_from" (spIsFrom K) [] := by
  refine C8.cal0 F b .nil sc_is_from (fun vs H Q E h => ?_) (fun cdv A outer s H vs Q E hr h => ?_)
  · obtain ⟨x, l, rfl, h⟩ := h
    rfl
  · obtain ⟨x, l, rfl, h⟩ := h
    refine ⟨_, pss_one (ps_ret (pe_and (C8.pe_c c_is_int hr (by decide) rfl (pa_cons (pv 0) pa_nil)) (pe_one (pe_cmpR op_ge (pv 0) (pv 1) (nomark _))))), ?_⟩
    rcases h with ⟨i, rfl, q⟩ | ⟨hi, q⟩
    · walk_at "rd"
      refine ⟨_, true, rfl, isI_int K H i, ?_⟩
      walk_at "rd"
      exact q
    · walk_at "rd"
      refine ⟨_, false, rfl, hi, ?_⟩
      walk_at "rd"
      exact q
theorem ok_is_within {f : Addr} {fd : FuncData} (F : C8.Def K mg "is_within" s_is_within f fd) (b : Binds K fd ["value", "least", "greatest"] []) (T : Txt K mg) (c_is_int : C8.Cal P w K mg base 1 "is_int" (spIsInt K) []) : C8.Cal P w K mg base 2 "is_within" (spIsWithin K) [] := by
  refine C8.cal0 F b .nil sc_is_within (fun vs H Q E h => ?_) (fun cdv A outer s H vs Q E hr h => ?_)
  · obtain ⟨x, l, m, rfl, h⟩ := h
    rfl
  · obtain ⟨x, l, m, rfl, h⟩ := h
    refine ⟨_, pss_one (ps_ret (pe_and (C8.pe_c c_is_int hr (by decide) rfl (pa_cons (pv 0) pa_nil)) (pe_one (pe_chain op_le op_le (pv 1) (pv 0) (pv 2))))), ?_⟩
    rcases h with ⟨i, rfl, q⟩ | ⟨hi, q⟩
    · walk_at "rd"
      refine ⟨_, true, rfl, isI_int K H i, ?_⟩
      walk_at "rd"
      walk_at "rd"
      cases c1 : decide (l ≤ i) with
      | true =>
        rw [c1, Bool.true_and] at q
        walk_at "rd"
        exact q
      | false =>
        rw [c1, Bool.false_and] at q
        exact q
    · walk_at "rd"
      refine ⟨_, false, rfl, hi, ?_⟩
      walk_at "rd"
      exact q
theorem ok_require_number {f : Addr} {fd : FuncData} (F : C8.Def K mg "require_number" s_require_number f fd) (b : Binds K fd ["n"] []) (T : Txt K mg) (c_is_from : C8.Cal P w K mg base 2 "is_from" (spIsFrom K) []) : C8.Cal P w K mg base 3 "require_number" (spReqNum) [] := by
  refine C8.cal0 F b .nil sc_require_number (fun vs H Q E h => ?_) (fun cdv A outer s H vs Q E hr h => ?_)
  · obtain ⟨n, rfl, h0, q⟩ := h
    rfl
  · obtain ⟨n, rfl, h0, q⟩ := h
    refine ⟨_, pss_one (ps_if (pt_not (pt_val (C8.pe_c c_is_from hr (by decide) rfl (pa_cons (pv 0) (pa_cons pe_int pa_nil))))) (pss_one (ps_never)) (pss_nil)), ?_⟩
    walk_at "rd"
    rw [decide_eq_true h0]
    walk_at "rd"
    exact q
theorem ok_require_start {f : Addr} {fd : FuncData} (F : C8.Def K mg "require_start" s_require_start f fd) (b : Binds K fd ["start"] []) (T : Txt K mg) (c_is_from : C8.Cal P w K mg base 2 "is_from" (spIsFrom K) []) : C8.Cal P w K mg base 3 "require_start" (spReqStart) [] := by
  refine C8.cal0 F b .nil sc_require_start (fun vs H Q E h => ?_) (fun cdv A outer s H vs Q E hr h => ?_)
  · obtain ⟨n, rfl, h0, q⟩ := h
    rfl
  · obtain ⟨n, rfl, h0, q⟩ := h
    refine ⟨_, pss_one (ps_if (pt_not (pt_val (C8.pe_c c_is_from hr (by decide) rfl (pa_cons (pv 0) (pa_cons pe_int pa_nil))))) (pss_one (ps_never)) (pss_nil)), ?_⟩
    walk_at "rd"
    rw [decide_eq_true h0]
    walk_at "rd"
    exact q
theorem ok_is_word {f : Addr} {fd : FuncData} (F : C8.Def K mg "is_word" s_is_word f fd) (b : Binds K fd ["value", "words"] []) (T : Txt K mg) : C8.Cal P w K mg base 1 "is_word" (spIsWord K) [] := by
  refine C8.cal0 F b .nil sc_is_word (fun vs H Q E h => ?_) (fun cdv A outer s H vs Q E hr h => ?_)
  · obtain ⟨x, p, l, rfl, hp, h⟩ := h
    rfl
  · obtain ⟨x, p, l, rfl, hp, h⟩ := h
    refine ⟨_, pss_one (ps_ret (pe_and (pe_callB (call_isi) rfl T.b_isinstance boot_isinstance (pa_cons (pv 0) (pa_cons (pe_bltn (v := .ty "str") rfl T.b_str boot_str rfl) pa_nil))) (pe_one (pe_cmpR op_in_seq (pv 0) (pv 1) (by with_unfolding_all rfl))))), ?_⟩
    rcases h with ⟨s, rfl, q⟩ | ⟨⟨t, ty, kt⟩, q⟩
    · walk_at "rd"
      refine ⟨_, .ty "str", _, _, true, rfl, .ty "str", .base (.str s), kit_ty (by decide +kernel), ?_⟩
      walk_at "rd"
      refine ⟨p, _, rfl, .inr hp, rfl, ?_, ?_⟩
      · rw [List.all_map]
        exact List.all_eq_true.mpr fun _ _ => rfl
      · show Q (.bl (inV (.str s) (l.map V.str))) H
        rw [inV_str]
        exact q
    · walk_at "rd"
      refine ⟨_, .ty "str", t, _, false, rfl, .ty "str", ty, kt, ?_⟩
      walk_at "rd"
      exact q
theorem ok_possible_tellings {f : Addr} {fd : FuncData} (F : C8.Def K mg "possible_tellings" s_possible_tellings f fd) (b : Binds K fd ["stop"] []) (T : Txt K mg) : C8.Cal P w K mg base 1 "possible_tellings" (spTellings K) [] := by
  refine C8.cal0 F b .nil sc_possible_tellings (fun vs H Q E h => ?_) (fun cdv A outer s H vs Q E hr h => ?_)
  · obtain ⟨stop, rfl, q⟩ := h
    rfl
  · obtain ⟨stop, rfl, q⟩ := h
    obtain ⟨a_LOOKS, g_LOOKS, t_LOOKS⟩ := T.c_LOOKS
    obtain ⟨a_TELLINGS, g_TELLINGS, t_TELLINGS⟩ := T.c_TELLINGS
    refine ⟨_, pss_one (ps_ret (pe_ifExp (pt_cmpR op_in_seq (pv 0) (pe_glob (v := .ref a_LOOKS) rfl g_LOOKS rfl) (by with_unfolding_all rfl)) (pe_tup (pa_cons pe_str pa_nil)) (pe_glob (v := .ref a_TELLINGS) rfl g_TELLINGS rfl))), ?_⟩
    walk_at "rd"
    refine ⟨a_LOOKS, looks.map V.str, rfl, .inr (t_LOOKS H), rfl, rfl, ?_⟩
    walk_at "rd"
    refine ite2 (fun c => ?_) (fun c => ?_)
    · have c2 : inV (.str stop) (looks.map V.str) = true := c
      rw [inV_str] at c2
      refine ⟨(by show 1 ≤ sizeLine; decide), fun p hp => q p _ (same_new hp _) ?_⟩
      unfold tellingsOf
      rw [if_pos (of_decide_eq_true c2)]
      exact SqT.of upd_same
    · have c2 : inV (.str stop) (looks.map V.str) = false := Bool.eq_false_iff.mpr c
      rw [inV_str] at c2
      refine q _ H (Same.refl H) ?_
      unfold tellingsOf
      rw [if_neg (of_decide_eq_false c2)]
      exact t_TELLINGS H
theorem ok_is_loop_power {f : Addr} {fd : FuncData} (F : C8.Def K mg "is_loop_power" s_is_loop_power f fd) (b : Binds K fd ["k"] []) (T : Txt K mg) (c_is_within : C8.Cal P w K mg base 2 "is_within" (spIsWithin K) []) : C8.Cal P w K mg base 3 "is_loop_power" (spIsLP K) [] := by
  refine C8.cal0 F b .nil sc_is_loop_power (fun vs H Q E h => ?_) (fun cdv A outer s H vs Q E hr h => ?_)
  · obtain ⟨x, rfl, h⟩ := h
    rfl
  · obtain ⟨x, rfl, h⟩ := h
    refine ⟨_, pss_one (ps_ret (C8.pe_c c_is_within hr (by decide) rfl (pa_cons (pv 0) (pa_cons pe_int (pa_cons pe_int pa_nil))))), ?_⟩
    walk_at "rd"
    rcases h with ⟨i, rfl, q⟩ | ⟨hi, q⟩
    · exact .inl ⟨i, rfl, q⟩
    · exact .inr ⟨hi, q⟩
theorem ok_greatest_c {f : Addr} {fd : FuncData} (F : C8.Def K mg "greatest_c" s_greatest_c f fd) (b : Binds K fd ["k", "a"] []) (T : Txt K mg) : C8.Cal P w K mg base 1 "greatest_c" (spGreatC) [] := by
  refine C8.cal0 F b .nil sc_greatest_c (fun vs H Q E h => ?_) (fun cdv A outer s H vs Q E hr h => ?_)
  · obtain ⟨k, a, rfl, k2, k4, a1, a5, q⟩ := h
    rfl
  · obtain ⟨k, a, rfl, k2, k4, a1, a5, q⟩ := h
    refine ⟨_, pss_one (ps_ret (pe_callB (call_min2 rfl) rfl T.b_min boot_min (pa_cons (pe_op op_fdiv (pv 1) (pe_op op_sub (pv 0) pe_int)) (pa_cons (pe_op op_sub (C8.pe_gc rfl T.c_MOST_WEIGHT) (pv 1)) pa_nil)))), ?_⟩
    walk_at "rd"
    refine ⟨⟨by omega, by omega⟩, ?_⟩
    walk_at "rd"
    exact q
theorem ok_wrong_part_ok {f : Addr} {fd : FuncData} (F : C8.Def K mg "wrong_part" s_wrong_part f fd) (b : Binds K fd ["k", "a", "c", "d", "stop", "told", "mend"] []) (T : Txt K mg) (c_is_loop_power : C8.Cal P w K mg base 3 "is_loop_power" (spIsLP K) []) (c_is_within : C8.Cal P w K mg base 2 "is_within" (spIsWithin K) []) (c_is_word : C8.Cal P w K mg base 1 "is_word" (spIsWord K) []) (c_greatest_c : C8.Cal P w K mg base 1 "greatest_c" (spGreatC) []) (c_possible_tellings : C8.Cal P w K mg base 1 "possible_tellings" (spTellings K) []) : C8.Cal P w K mg base 4 "wrong_part" (spWrongOk) [] := by
  refine C8.cal0 F b .nil sc_wrong_part (fun vs H Q E h => ?_) (fun cdv A outer s H vs Q E hr h => ?_)
  · obtain ⟨L, rfl, ok, q⟩ := h
    rfl
  · obtain ⟨L, rfl, ok, q⟩ := h
    obtain ⟨a_MENDS, g_MENDS, t_MENDS⟩ := T.c_MENDS
    obtain ⟨a_STOPS, g_STOPS, t_STOPS⟩ := T.c_STOPS
    refine ⟨_, pss_cons (ps_if (pt_not (pt_val (C8.pe_c c_is_loop_power hr (by decide) rfl (pa_cons (pv 0) pa_nil)))) (pss_one (ps_ret pe_str)) (pss_nil))
      (pss_cons (ps_if (pt_not (pt_val (C8.pe_c c_is_within hr (by decide) rfl (pa_cons (pv 1) (pa_cons pe_int (pa_cons (pe_op op_sub (C8.pe_gc rfl T.c_MOST_WEIGHT) pe_int) pa_nil)))))) (pss_one (ps_ret pe_str)) (pss_nil))
      (pss_cons (ps_if (pt_not (pt_val (C8.pe_c c_is_within hr (by decide) rfl (pa_cons (pv 2) (pa_cons pe_int (pa_cons (C8.pe_c c_greatest_c hr (by decide) rfl (pa_cons (pv 0) (pa_cons (pv 1) pa_nil))) pa_nil)))))) (pss_one (ps_ret pe_str)) (pss_nil))
      (pss_cons (ps_if (pt_not (pt_val (C8.pe_c c_is_within hr (by decide) rfl (pa_cons (pv 3) (pa_cons (pe_un un_neg (pv 1)) (pa_cons (pe_op op_add (pv 1) (pv 2)) pa_nil)))))) (pss_one (ps_ret pe_str)) (pss_nil))
      (pss_cons (ps_if (pt_not (pt_val (C8.pe_c c_is_word hr (by decide) rfl (pa_cons (pv 4) (pa_cons (pe_glob (v := .ref a_STOPS) rfl g_STOPS rfl) pa_nil))))) (pss_one (ps_ret pe_str)) (pss_nil))
      (pss_cons (ps_if (pt_not (pt_val (C8.pe_c c_is_word hr (by decide) rfl (pa_cons (pv 5) (pa_cons (C8.pe_c c_possible_tellings hr (by decide) rfl (pa_cons (pv 4) pa_nil)) pa_nil))))) (pss_one (ps_ret pe_str)) (pss_nil))
      (pss_cons (ps_if (pt_not (pt_val (C8.pe_c c_is_word hr (by decide) rfl (pa_cons (pv 6) (pa_cons (pe_glob (v := .ref a_MENDS) rfl g_MENDS rfl) pa_nil))))) (pss_one (ps_ret pe_str)) (pss_nil))
      (pss_one (ps_ret pe_non)))))))), ?_⟩
    have k2 := ok.k2
    have k4 := ok.k4
    have a1 := ok.a1
    have c1 := ok.c1
    have ca := ok.ca
    have m6 := ok.m6
    have d0 := ok.d0
    have d1 := ok.d1
    walk_at "rd"
    rw [decide_eq_true k2, decide_eq_true k4]
    walk_at "rd"
    rw [decide_eq_true a1, decide_eq_true (show L.a ≤ 6 - 1 by omega)]
    walk_at "rd"
    refine ⟨by omega, by omega, by omega, by omega, ?_⟩
    walk_at "rd"
    have hc : L.c ≤ (if 6 - L.a < L.a / (L.k - 1) then 6 - L.a else L.a / (L.k - 1)) := by
      split
      · omega
      · exact Int.le_ediv_of_mul_le (by omega) ca
    rw [decide_eq_true c1, decide_eq_true hc]
    walk_at "rd"
    rw [decide_eq_true d0, decide_eq_true d1]
    walk_at "rd"
    refine ⟨_, a_STOPS, stops, rfl, t_STOPS H, .inl ⟨L.stop, rfl, ?_⟩⟩
    rw [decide_eq_true ok.st]
    walk_at "rd"
    intro p H1 m1 s1
    refine ⟨_, p, _, rfl, s1, .inl ⟨L.told, rfl, ?_⟩⟩
    rw [decide_eq_true ok.told_ok]
    walk_at "rd"
    refine ⟨_, a_MENDS, mendings, rfl, t_MENDS H1, .inl ⟨L.mend, rfl, ?_⟩⟩
    rw [decide_eq_true ok.me]
    walk_at "rd"
    exact q H1 m1
theorem ok_Average___init___ok {f : Addr} {fd : FuncData} {C_Average : Addr} (F : C8.Fun K "__init__" "Average.__init__" s_Average___init__ f fd) (b : Binds K fd ["self", "k", "a", "c", "d", "stop", "told", "mend"] []) (M : Mk K C_Average f) (hm : mg "Average" = some (.ref C_Average)) (T : Txt K mg) (A_ : AvgTxt K C_Average) (c_wrong_part : C8.Cal P w K mg base 4 "wrong_part" (spWrongOk) []) : C8.Mak P w K mg base 5 "Average" C_Average (spAvgInit C_Average) [] := by
  refine C8.mak0 M hm F b .nil sc_Average___init__ (fun vs H Q E h => ?_) (fun cdv A outer s H vs Q E hr h => ?_)
  · obtain ⟨x, dx, L, rfl, ok, hx, q⟩ := h
    rfl
  · obtain ⟨x, dx, L, rfl, ok, hx, q⟩ := h
    refine ⟨_, pss_cons (ps_set (i := 8) sc_Average___init__.nd rfl (Or.inl rfl) (C8.pe_c c_wrong_part hr (by decide) rfl (pa_cons (pv 1) (pa_cons (pv 2) (pa_cons (pv 3) (pa_cons (pv 4) (pa_cons (pv 5) (pa_cons (pv 6) (pa_cons (pv 7) pa_nil)))))))))
      (pss_cons (ps_if (pt_cmpR op_notN (pv 8) pe_non (nomark _)) (pss_one (ps_never)) (pss_nil))
      (pss_cons (ps_fld (pv 0) (pv 1) rfl)
      (pss_cons (ps_fld (pv 0) (pv 2) rfl)
      (pss_cons (ps_fld (pv 0) (pv 3) rfl)
      (pss_cons (ps_fld (pv 0) (pv 4) rfl)
      (pss_cons (ps_fld (pv 0) (pv 5) rfl)
      (pss_cons (ps_fld (pv 0) (pv 6) rfl)
      (pss_one (ps_fld (pv 0) (pv 7) rfl))))))))), ?_⟩
    walk_at "rd"
    refine ⟨ok, fun H1 s1 => ?_⟩
    walk_at "rd"
    have l1 := putF_len "k" (.int L.k) []
    have l2 := putF_len "a" (.int L.a) (putF "k" (.int L.k) [])
    have l3 := putF_len "c" (.int L.c) (putF "a" (.int L.a) (putF "k" (.int L.k) []))
    have l4 := putF_len "d" (.int L.d) (putF "c" (.int L.c) (putF "a" (.int L.a) (putF "k" (.int L.k) [])))
    have l5 := putF_len "stop" (.str L.stop) (putF "d" (.int L.d) (putF "c" (.int L.c) (putF "a" (.int L.a) (putF "k" (.int L.k) []))))
    have l6 := putF_len "told" (.str L.told) (putF "stop" (.str L.stop) (putF "d" (.int L.d) (putF "c" (.int L.c) (putF "a" (.int L.a) (putF "k" (.int L.k) [])))))
    have l0 : ([] : List (Str × V)).length = 0 := rfl
    refine ⟨x, C_Average, dx, _, rfl, s1 _ _ hx, A_.cl, A_.nk, by omega, ?_⟩
    walk_at "rd"
    refine ⟨x, C_Average, dx, _, rfl, upd_same, A_.cl, A_.na, by omega, ?_⟩
    walk_at "rd"
    refine ⟨x, C_Average, dx, _, rfl, upd_same, A_.cl, A_.nc, by omega, ?_⟩
    walk_at "rd"
    refine ⟨x, C_Average, dx, _, rfl, upd_same, A_.cl, A_.nd, by omega, ?_⟩
    walk_at "rd"
    refine ⟨x, C_Average, dx, _, rfl, upd_same, A_.cl, A_.ns, by omega, ?_⟩
    walk_at "rd"
    refine ⟨x, C_Average, dx, _, rfl, upd_same, A_.cl, A_.nt, by omega, ?_⟩
    walk_at "rd"
    refine ⟨x, C_Average, dx, _, rfl, upd_same, A_.cl, A_.nm, by omega, ?_⟩
    exact q _ ⟨dx, upd_same⟩ ((Same.but s1).trans ((but_upd _ _ _).trans ((but_upd _ _ _).trans ((but_upd _ _ _).trans ((but_upd _ _ _).trans ((but_upd _ _ _).trans ((but_upd _ _ _).trans (but_upd _ _ _))))))))

theorem ok_power {f : Addr} {fd : FuncData} (F : C8.Def K mg "power" s_power f fd) (b : Binds K fd ["base", "k"] []) (T : Txt K mg) {n : Nat} (c_power : C8.Cal P w K mg base n "power" (spPow n) []) : C8.Cal P w K mg base (n + 1) "power" (spPow (n + 1)) [] := by
  refine C8.cal0 F b .nil sc_power (fun vs H Q E h => ?_) (fun cdv A outer s H vs Q E hr h => ?_)
  · obtain ⟨x, e, b', rfl, he, hen, hx, hb, hl, hk, q⟩ := h
    rfl
  · obtain ⟨x, e, b', rfl, he, hen, hx, hb, hl, hk, q⟩ := h
    refine ⟨_, pss_cons (ps_if (pt_cmpR op_eq (pv 1) pe_int (nomark _)) (pss_one (ps_ret pe_int)) (pss_nil))
      (pss_cons (ps_set (i := 2) sc_power.nd rfl (Or.inl rfl) (C8.pe_c c_power hr (Nat.le_refl _) rfl (pa_cons (pv 0) (pa_cons (pe_op op_fdiv (pv 1) pe_int) pa_nil))))
      (pss_one (ps_ret (pe_ifExp (pt_truth (pe_op op_odd (pv 1) pe_int) (fun _ => rfl)) (pe_op op_mulW (pe_op op_mulW (pv 2) (pv 2)) (pv 0)) (pe_op op_mulW (pv 2) (pv 2)))))), ?_⟩
    walk_at "rd"

    by_cases h0 : e = 0
    · subst h0
      have ht : decide (V.int 0 = V.int 0) = true := decide_eq_true rfl
      have q' : Q (.int 1) H := by
        have e : x ^ Int.toNat 0 = 1 := Int.pow_zero x
        rw [e] at q
        exact q
      rw [ht]
      exact q'
    · have hne : decide (V.int e = V.int 0) = false := decide_eq_false fun z => h0 (V.int.inj z)
      rw [hne]
      walk_at "rd"
      refine ⟨⟨by decide, by decide⟩, ?_⟩
      have hh : (e / 2).toNat = e.toNat / 2 := by omega
      have hp : (e.toNat / 2 + 1) * b' ≤ (e.toNat + 1) * b' := Nat.mul_le_mul_right _ (by omega)
      refine ⟨x, e / 2, b', rfl, by omega, by omega, hx, hb, by rw [hh]; omega, by omega, ?_⟩
      have s1 : Sz (x ^ (e / 2).toNat) (e.toNat / 2 * b' + 1) := by
        rw [hh]
        exact Sz.pow hx hb _
      have hm : 2 * (e.toNat / 2 * b') ≤ e.toNat * b' := by
        rw [← Nat.mul_assoc]
        exact Nat.mul_le_mul_right _ (by omega)
      rw [Nat.succ_mul] at hl
      have e1 : x ^ (e / 2).toNat * x ^ (e / 2).toNat = x ^ ((e / 2).toNat + (e / 2).toNat) := (Int.pow_add _ _ _).symm
      walk_at "rd"
      refine ⟨e.toNat, by rw [Int.toNat_of_nonneg he], rfl, ?_⟩
      rcases Nat.mod_two_eq_zero_or_one e.toNat with h2 | h2
      · rw [h2]
        walk_at "rd"
        refine ⟨s1.w s1 (by omega), ?_⟩
        show Q (.int (x ^ (e / 2).toNat * x ^ (e / 2).toNat)) H
        rw [e1, show (e / 2).toNat + (e / 2).toNat = e.toNat by omega]
        exact q
      · rw [h2]
        walk_at "rd"
        refine ⟨s1.w s1 (by omega), ?_⟩
        walk_at "rd"
        refine ⟨(Sz.mul s1 s1).w hx (by omega), ?_⟩
        show Q (.int (x ^ (e / 2).toNat * x ^ (e / 2).toNat * x)) H
        rw [e1, ← Int.pow_succ, show ((e / 2).toNat + (e / 2).toNat).succ = e.toNat by omega]
        exact q
theorem all_power {f : Addr} {fd : FuncData} (F : C8.Def K mg "power" s_power f fd) (b : Binds K fd ["base", "k"] []) (T : Txt K mg) : ∀ n : Nat, C8.Cal P w K mg base n "power" (spPow n) []
  | 0 => ⟨f, fd, ["base", "k"], [], ⟨fun vs H Q E h => by
      obtain ⟨x, e, b', rfl, _⟩ := h
      rfl, fun A outer s H args us vs Q E _ _ _ _ h => by
      obtain ⟨x, e, b', _, _, hen, _⟩ := h
      exact absurd hen (Nat.not_lt_zero _)⟩, F.mgf, F.kp, b, .nil⟩
  | n + 1 => ok_power F b T (all_power F b T n)

theorem ok_next_guess {f : Addr} {fd : FuncData} {C_Average : Addr} (F : C8.Def K mg "next_guess" s_next_guess f fd) (b : Binds K fd ["loop", "n", "x"] []) (T : Txt K mg) (A_ : AvgTxt K C_Average) (c_power : C8.Cal P w K mg base 5 "power" (spPow 5) []) : C8.Cal P w K mg base 6 "next_guess" (spNext C_Average) [] := by
  refine C8.cal0 F b .nil sc_next_guess (fun vs H Q E h => ?_) (fun cdv A outer s H vs Q E hr h => ?_)
  · obtain ⟨p, L, n, x, b', rfl, ⟨dx, hp⟩, ok, h0, h1, hx, hb, hb2, q⟩ := h
    rfl
  · obtain ⟨p, L, n, x, b', rfl, ⟨dx, hp⟩, ok, h0, h1, hx, hb, hb2, q⟩ := h
    refine ⟨_, pss_cons (ps_set (i := 3) sc_next_guess.nd rfl (Or.inl rfl) (pe_op op_fdivW (pv 1) (C8.pe_c c_power hr (by decide) rfl (pa_cons (pv 2) (pa_cons (pe_op op_sub (pe_fld (pv 0) rfl) pe_int) pa_nil)))))
      (pss_one (ps_ret (pe_op op_fdiv (pe_op op_add (pe_op op_add (pe_op op_mul (pe_fld (pv 0) rfl) (pv 2)) (pe_op op_mul (pe_fld (pv 0) rfl) (pv 3))) (pe_fld (pv 0) rfl)) (pe_op op_add (pe_fld (pv 0) rfl) (pe_fld (pv 0) rfl))))), ?_⟩
    have k2 := ok.k2
    have k4 := ok.k4
    have a1 := ok.a1
    have c1 := ok.c1
    have m6 := ok.m6
    have hk : (L.k - 1).toNat ≤ 3 := by omega
    have hm : ((L.k - 1).toNat + 1) * b' ≤ 4 * b' := Nat.mul_le_mul_right _ (by omega)
    have hm2 : (L.k - 1).toNat * b' ≤ 3 * b' := Nat.mul_le_mul_right _ hk
    walk_at "rd"
    refine ⟨p, _, dx, _, _, rfl, hp, A_.cl, A_.nk, avgF_k L, ?_⟩
    walk_at "rd"
    refine ⟨x, L.k - 1, b', rfl, by omega, by omega, hx, hb, by omega, by omega, ?_⟩
    walk_at "rd"
    have hpw : 0 < x ^ (L.k - 1).toNat := Int.pow_pos (by omega)
    refine ⟨Sz.d _ hpw (Sz.pow hx hb _) (by omega), ?_⟩
    walk_at "rd"
    refine ⟨p, _, dx, _, _, rfl, hp, A_.cl, A_.na, avgF_a L, ?_⟩
    walk_at "rd"
    refine ⟨.inl ⟨by omega, by omega⟩, ?_⟩
    walk_at "rd"
    refine ⟨p, _, dx, _, _, rfl, hp, A_.cl, A_.nc, avgF_c L, ?_⟩
    walk_at "rd"
    refine ⟨.inl ⟨by omega, by omega⟩, ?_⟩
    walk_at "rd"
    refine ⟨p, _, dx, _, _, rfl, hp, A_.cl, A_.nd, avgF_d L, ?_⟩
    walk_at "rd"
    refine ⟨p, _, dx, _, _, rfl, hp, A_.cl, A_.na, avgF_a L, ?_⟩
    walk_at "rd"
    refine ⟨p, _, dx, _, _, rfl, hp, A_.cl, A_.nc, avgF_c L, ?_⟩
    walk_at "rd"
    refine ⟨⟨by omega, by omega⟩, ?_⟩
    exact q
theorem ok_Average_step_ok {f : Addr} {fd : FuncData} {C_Average : Addr} (F : C8.Fun K "step" "Average.step" s_Average_step f fd) (b : Binds K fd ["self", "n", "x"] []) (cl : Cls K C_Average) (me : Meth K C_Average "step" f) (T : Txt K mg) (c_require_number : C8.Cal P w K mg base 3 "require_number" (spReqNum) []) (c_require_start : C8.Cal P w K mg base 3 "require_start" (spReqStart) []) (c_next_guess : C8.Cal P w K mg base 6 "next_guess" (spNext C_Average) []) : C8.Met P w K mg base 7 C_Average "step" (spNext C_Average) [] := by
  refine C8.met0 cl me F b sc_Average_step (fun vs H Q E h => ?_) (fun cdv A outer s H vs Q E hr h => ?_)
  · obtain ⟨p, L, n, x, b', rfl, hA, ok, h0, h1, hx, hb, hb2, q⟩ := h
    rfl
  · obtain ⟨p, L, n, x, b', rfl, hA, ok, h0, h1, hx, hb, hb2, q⟩ := h
    refine ⟨_, pss_cons (ps_expr (C8.pe_c c_require_number hr (by decide) rfl (pa_cons (pv 1) pa_nil)))
      (pss_cons (ps_expr (C8.pe_c c_require_start hr (by decide) rfl (pa_cons (pv 2) pa_nil)))
      (pss_one (ps_ret (C8.pe_c c_next_guess hr (by decide) rfl (pa_cons (pv 0) (pa_cons (pv 1) (pa_cons (pv 2) pa_nil))))))), ?_⟩
    walk_at "rd"
    refine ⟨h0, ?_⟩
    walk_at "rd"
    refine ⟨h1, ?_⟩
    walk_at "rd"
    exact ⟨p, L, n, x, b', rfl, hA, ok, h0, h1, hx, hb, hb2, q⟩


theorem ok_require_number_x {f : Addr} {fd : FuncData} {C_BadNumber : Addr} (F : C8.Def K mg "require_number" s_require_number f fd) (b : Binds K fd ["n"] []) (T : Txt K mg) {fE_BadNumber : Addr} (e_BadNumber : PySem.QErr.ErrTxt P K mg "BadNumber" "value" C_BadNumber fE_BadNumber) (c_is_from : C8.Cal P w K mg base 2 "is_from" (spIsFrom K) []) : QX.Cal P w K mg base 3 "require_number" (spReqX K C_BadNumber 0) := by
  refine QX.calx F b sc_require_number (fun vs H Q E h => ?_) (fun cdv A outer s H vs Q E hr h => ?_)
  · obtain ⟨x, rfl, h⟩ := h
    rfl
  · obtain ⟨x, rfl, h⟩ := h
    refine ⟨_, pss_one (ps_if (pt_not (pt_val (C8.pe_c c_is_from hr (by decide) rfl (pa_cons (pv 0) (pa_cons pe_int pa_nil))))) (pss_one (ps_raiseErr (k := 0) rfl e_BadNumber (Or.inl rfl) (hr.mono (by decide)) (takes_of rfl rfl rfl rfl) (pa_cons (pv 0) pa_nil))) (pss_nil)), ?_⟩
    walk_at "rd"
    rcases h with ⟨i, rfl, h0, q⟩ | ⟨h, q⟩
    · refine .inl ⟨i, rfl, ?_⟩
      rw [decide_eq_true h0]
      walk_at "rd"
      exact q
    · rcases h with h | ⟨i, rfl, hi⟩
      · refine .inr ⟨h, ?_⟩
        walk_at "rd"
        exact q
      · refine .inl ⟨i, rfl, ?_⟩
        walk_at "rd"
        rw [decide_eq_false (by omega)]
        walk_at "rd"
        exact q
theorem ok_require_start_x {f : Addr} {fd : FuncData} {C_BadStart : Addr} (F : C8.Def K mg "require_start" s_require_start f fd) (b : Binds K fd ["start"] []) (T : Txt K mg) {fE_BadStart : Addr} (e_BadStart : PySem.QErr.ErrTxt P K mg "BadStart" "value" C_BadStart fE_BadStart) (c_is_from : C8.Cal P w K mg base 2 "is_from" (spIsFrom K) []) : QX.Cal P w K mg base 3 "require_start" (spReqX K C_BadStart 1) := by
  refine QX.calx F b sc_require_start (fun vs H Q E h => ?_) (fun cdv A outer s H vs Q E hr h => ?_)
  · obtain ⟨x, rfl, h⟩ := h
    rfl
  · obtain ⟨x, rfl, h⟩ := h
    refine ⟨_, pss_one (ps_if (pt_not (pt_val (C8.pe_c c_is_from hr (by decide) rfl (pa_cons (pv 0) (pa_cons pe_int pa_nil))))) (pss_one (ps_raiseErr (k := 0) rfl e_BadStart (Or.inl rfl) (hr.mono (by decide)) (takes_of rfl rfl rfl rfl) (pa_cons (pv 0) pa_nil))) (pss_nil)), ?_⟩
    walk_at "rd"
    rcases h with ⟨i, rfl, h0, q⟩ | ⟨h, q⟩
    · refine .inl ⟨i, rfl, ?_⟩
      rw [decide_eq_true h0]
      walk_at "rd"
      exact q
    · rcases h with h | ⟨i, rfl, hi⟩
      · refine .inr ⟨h, ?_⟩
        walk_at "rd"
        exact q
      · refine .inl ⟨i, rfl, ?_⟩
        walk_at "rd"
        rw [decide_eq_false (by omega)]
        walk_at "rd"
        exact q
theorem ok_Average_step_x {f : Addr} {fd : FuncData} {C_Average : Addr} {C_BadNumber : Addr} {C_BadStart : Addr} (F : C8.Fun K "step" "Average.step" s_Average_step f fd) (b : Binds K fd ["self", "n", "x"] []) (cl : Cls K C_Average) (me : Meth K C_Average "step" f) (T : Txt K mg) (c_require_number : QX.Cal P w K mg base 3 "require_number" (spReqX K C_BadNumber 0)) (c_require_start : QX.Cal P w K mg base 3 "require_start" (spReqX K C_BadStart 1)) (c_next_guess : C8.Cal P w K mg base 6 "next_guess" (spNext C_Average) []) : QX.Met P w K mg base 7 C_Average "step" (spStepX K C_Average C_BadNumber C_BadStart) := by
  refine QX.metx cl me F b sc_Average_step (fun vs H Q E h => ?_) (fun cdv A outer s H vs Q E hr h => ?_)
  · obtain ⟨p, nv, xv, rfl, h⟩ := h
    rfl
  · obtain ⟨p, nv, xv, rfl, h⟩ := h
    refine ⟨_, pss_cons (ps_expr (QX.pe_cx c_require_number (takes_of rfl rfl rfl rfl) hr (by decide) rfl (pa_cons (pv 1) pa_nil)))
      (pss_cons (ps_expr (QX.pe_cx c_require_start (takes_of rfl rfl rfl rfl) hr (by decide) rfl (pa_cons (pv 2) pa_nil)))
      (pss_one (ps_ret (C8.pe_c c_next_guess hr (by decide) rfl (pa_cons (pv 0) (pa_cons (pv 1) (pa_cons (pv 2) pa_nil))))))), ?_⟩
    walk_at "rd"
    rcases h with ⟨bad, q⟩ | ⟨⟨i, rfl, h0⟩, bad, q⟩
    · exact .inr ⟨bad, q⟩
    · refine .inl ⟨i, rfl, h0, ?_⟩
      walk_at "rd"
      exact .inr ⟨bad, q⟩
theorem ok_Lrefused {f : Addr} {fd : FuncData} {C_Average : Addr} {C_BadNumber : Addr} {C_BadStart : Addr} (F : C8.Def K mg "_law_refused" s_Lrefused f fd) (b : Binds K fd ["_law_loop_here", "_law_n", "_law_x"] []) (T : Txt K mg) {fE_BadNumber fE_BadStart : Addr} (e_BadNumber : PySem.QErr.ErrTxt P K mg "BadNumber" "value" C_BadNumber fE_BadNumber) (e_BadStart : PySem.QErr.ErrTxt P K mg "BadStart" "value" C_BadStart fE_BadStart) (x_BadStart_BadNumber : PySem.W.exmOne K (.ref C_BadStart) (.ref C_BadNumber) = some false) (k_step : QX.Met P w K mg base 7 C_Average "step" (spStepX K C_Average C_BadNumber C_BadStart)) : C8.Cal P w K mg base 8 "_law_refused" (spRefused K C_Average C_BadNumber C_BadStart) [] := by
  refine C8.cal0 F b .nil sc_Lrefused (fun vs H Q E h => ?_) (fun cdv A outer s H vs Q E hr h => ?_)
  · obtain ⟨p, L, nv, xv, rfl, hA, h⟩ := h
    rfl
  · obtain ⟨p, L, nv, xv, rfl, hA, h⟩ := h
    refine ⟨_, pss_cons (ps_try_clauses rfl rfl sc_Lrefused.nd takes0 (fun W pn xe tk _ => pss_one (ps_expr (QX.pe_mx k_step tk hr (by decide) (pv 0) (pa_cons (pv 1) (pa_cons (pv 2) pa_nil))))) (Clauses.one (i := 3) rfl rfl ⟨rfl, by decide, Or.inl e_BadNumber.gC⟩ (fun a oe cls d pn hz hf => pss_one (ps_ret (pe_tup (pa_cons pe_str (pa_cons (pe_xf ⟨e_BadNumber.ga, e_BadNumber.gg, e_BadNumber.exC, e_BadNumber.hdC⟩ e_BadNumber.noN hz hf (pv 3)) pa_nil))))) (Clauses.one (i := 3) rfl rfl ⟨rfl, by decide, Or.inl e_BadStart.gC⟩ (fun a oe cls d pn hz hf => pss_one (ps_ret (pe_tup (pa_cons pe_str (pa_cons (pe_xf ⟨e_BadStart.ga, e_BadStart.gg, e_BadStart.exC, e_BadStart.hdC⟩ e_BadStart.noN hz hf (pv 3)) pa_nil))))) (Clauses.done))))
      (pss_one (ps_ret pe_non)), ?_⟩
    walk_at "rd"
    obtain ⟨dx, hp⟩ := id hA
    refine ⟨p, dx, _, rfl, hp, avgF_no L (by decide +kernel) (by decide +kernel) (by decide +kernel) (by decide +kernel) (by decide +kernel) (by decide +kernel) (by decide +kernel), ?_⟩
    walk_at "rd"
    rcases h with ⟨bad, q⟩ | ⟨hn, bad, q⟩
    · refine .inl ⟨bad, fun d hd => ⟨true, e_BadNumber.te, fun _ a na => ?_, fun z => by cases z⟩⟩
      walk_at "rd"
      refine ⟨d, _, _, rfl, upd_same, rfl, ?_⟩
      exact ⟨(by show 2 ≤ sizeLine; decide), fun t ht => q t _ ((same_new hd _).trans (same_new ht _)) upd_same⟩
    · refine .inr ⟨hn, bad, fun d hd => ⟨false, x_BadStart_BadNumber, fun z => (by cases z), fun _ => ⟨true, e_BadStart.te, fun _ a na => ?_, fun z => by cases z⟩⟩⟩
      walk_at "rd"
      refine ⟨d, _, _, rfl, upd_same, rfl, ?_⟩
      exact ⟨(by show 2 ≤ sizeLine; decide), fun t ht => q t _ ((same_new hd _).trans (same_new ht _)) upd_same⟩

theorem ok_Lloop {f : Addr} {fd : FuncData} {C_Average : Addr} (F : C8.Def K mg "_law_loop" s_Lloop f fd) (b : Binds K fd ["_law_parts_here"] []) (T : Txt K mg) (m_Average : C8.Mak P w K mg base 5 "Average" C_Average (spAvgInit C_Average) []) : C8.Cal P w K mg base 7 "_law_loop" (spLoop C_Average) [] := by
  refine C8.cal0 F b .nil sc_Lloop (fun vs H Q E h => ?_) (fun cdv A outer s H vs Q E hr h => ?_)
  · obtain ⟨p, L, rfl, hp, ok, q⟩ := h
    rfl
  · obtain ⟨p, L, rfl, hp, ok, q⟩ := h
    refine ⟨_, pss_one (ps_ret (C8.pe_mk m_Average hr (by decide) rfl (pa_cons (pe_ix ix_tup (pv 0) pe_int (fun _ _ => rfl)) (pa_cons (pe_ix ix_tup (pv 0) pe_int (fun _ _ => rfl)) (pa_cons (pe_ix ix_tup (pv 0) pe_int (fun _ _ => rfl)) (pa_cons (pe_ix ix_tup (pv 0) pe_int (fun _ _ => rfl)) (pa_cons (pe_ix ix_tup (pv 0) pe_int (fun _ _ => rfl)) (pa_cons (pe_ix ix_tup (pv 0) pe_int (fun _ _ => rfl)) (pa_cons (pe_ix ix_tup (pv 0) pe_int (fun _ _ => rfl)) pa_nil))))))))), ?_⟩
    have hS : SqT K H p L.vs := SqT.of hp
    walk_at "rd"
    refine ⟨p, _, _, _, rfl, rfl, hS, atI_nat (j := 0) rfl, ?_⟩
    walk_at "rd"
    refine ⟨p, _, _, _, rfl, rfl, hS, atI_nat (j := 1) rfl, ?_⟩
    walk_at "rd"
    refine ⟨p, _, _, _, rfl, rfl, hS, atI_nat (j := 2) rfl, ?_⟩
    walk_at "rd"
    refine ⟨p, _, _, _, rfl, rfl, hS, atI_nat (j := 3) rfl, ?_⟩
    walk_at "rd"
    refine ⟨p, _, _, _, rfl, rfl, hS, atI_nat (j := 4) rfl, ?_⟩
    walk_at "rd"
    refine ⟨p, _, _, _, rfl, rfl, hS, atI_nat (j := 5) rfl, ?_⟩
    walk_at "rd"
    refine ⟨p, _, _, _, rfl, rfl, hS, atI_nat (j := 6) rfl, ?_⟩
    walk_at "rd"
    intro lp dx nlp ndx _
    refine ⟨lp, dx, L, rfl, ok, upd_same, fun H3 av3 b3 => ⟨rfl, ?_⟩⟩
    exact q lp H3 nlp (made_same nlp ndx b3) av3
theorem ok_Lled {f : Addr} {fd : FuncData} (F : C8.Def K mg "_law_led" s_Lled f fd) (b : Binds K fd ["_law_parts_here", "_law_n", "_law_x"] []) (T : Txt K mg) (c_Lpower : C8.Cal P w K mg base 1 "_law_power" (spLPow) []) : C8.Cal P w K mg base 2 "_law_led" (spLed) [] := by
  refine C8.cal0 F b .nil sc_Lled (fun vs H Q E h => ?_) (fun cdv A outer s H vs Q E hr h => ?_)
  · obtain ⟨p, L, n, x, b', rfl, hp, ok, h0, h1, hx, hb, hb2, q⟩ := h
    rfl
  · obtain ⟨p, L, n, x, b', rfl, hp, ok, h0, h1, hx, hb, hb2, q⟩ := h
    refine ⟨_, pss_one (ps_ret (pe_op op_fdiv (pe_op op_add (pe_op op_add (pe_op op_mul (pe_ix ix_tup (pv 0) pe_int (fun _ _ => rfl)) (pv 2)) (pe_op op_mul (pe_ix ix_tup (pv 0) pe_int (fun _ _ => rfl)) (pe_op op_fdivW (pv 1) (C8.pe_c c_Lpower hr (by decide) rfl (pa_cons (pv 2) (pa_cons (pe_op op_sub (pe_ix ix_tup (pv 0) pe_int (fun _ _ => rfl)) pe_int) pa_nil)))))) (pe_ix ix_tup (pv 0) pe_int (fun _ _ => rfl))) (pe_op op_add (pe_ix ix_tup (pv 0) pe_int (fun _ _ => rfl)) (pe_ix ix_tup (pv 0) pe_int (fun _ _ => rfl))))), ?_⟩
    have hS : SqT K H p L.vs := SqT.of hp
    have k2 := ok.k2
    have k4 := ok.k4
    have a1 := ok.a1
    have c1 := ok.c1
    have m6 := ok.m6
    have hm : ((L.k - 1).toNat + 1) * b' ≤ 4 * b' := Nat.mul_le_mul_right _ (by omega)
    have hm2 : (L.k - 1).toNat * b' ≤ 3 * b' := Nat.mul_le_mul_right _ (by omega)
    walk_at "rd"
    refine ⟨p, _, _, _, rfl, rfl, hS, atI_nat (j := 1) rfl, ?_⟩
    walk_at "rd"
    refine ⟨.inl ⟨by omega, by omega⟩, ?_⟩
    walk_at "rd"
    refine ⟨p, _, _, _, rfl, rfl, hS, atI_nat (j := 2) rfl, ?_⟩
    walk_at "rd"
    refine ⟨p, _, _, _, rfl, rfl, hS, atI_nat (j := 0) rfl, ?_⟩
    walk_at "rd"
    refine ⟨x, L.k - 1, b', rfl, by omega, hx, hb, by omega, by omega, ?_⟩
    walk_at "rd"
    have hpw : 0 < x ^ (L.k - 1).toNat := Int.pow_pos (by omega)
    refine ⟨Sz.d _ hpw (Sz.pow hx hb _) (by omega), ?_⟩
    walk_at "rd"
    refine ⟨.inl ⟨by omega, by omega⟩, ?_⟩
    walk_at "rd"
    refine ⟨p, _, _, _, rfl, rfl, hS, atI_nat (j := 3) rfl, ?_⟩
    walk_at "rd"
    refine ⟨p, _, _, _, rfl, rfl, hS, atI_nat (j := 1) rfl, ?_⟩
    walk_at "rd"
    refine ⟨p, _, _, _, rfl, rfl, hS, atI_nat (j := 2) rfl, ?_⟩
    walk_at "rd"
    refine ⟨⟨by omega, by omega⟩, ?_⟩
    exact q
theorem ok_Lroot {f : Addr} {fd : FuncData} (F : C8.Def K mg "_law_root" s_Lroot f fd) (b : Binds K fd ["_law_n", "_law_k"] []) (T : Txt K mg) (c_Lpower : C8.Cal P w K mg base 1 "_law_power" (spLPow) []) : C8.Cal P w K mg base 2 "_law_root" (spRoot) [] := by
  refine C8.cal0 F b .nil sc_Lroot (fun vs H Q E h => ?_) (fun cdv A outer s H vs Q E hr h => ?_)
  · obtain ⟨n, k, rfl, h0, hn, k2, k4, q⟩ := h
    rfl
  · obtain ⟨n, k, rfl, h0, hn, k2, k4, q⟩ := h
    refine ⟨_, pss_cons (ps_asg (pe_tup (pa_cons pe_int (pa_cons pe_int pa_nil))) (pg_tup rfl (pgs_cons (pg_name (i := 2) sc_Lroot.nd rfl (Or.inl rfl)) (pgs_cons (pg_name (i := 3) sc_Lroot.nd rfl (Or.inl rfl)) pgs_nil))))
      (pss_cons (ps_while PassesOwn.never (pt_cmpR op_le (C8.pe_c c_Lpower hr (by decide) rfl (pa_cons (pv 3) (pa_cons (pv 1) pa_nil))) (pv 0) (nomark _)) (pss_one (ps_set (i := 3) sc_Lroot.nd rfl (Or.inl rfl) (pe_op op_mulW (pv 3) pe_int))))
      (pss_cons (ps_while PassesOwn.never (pt_cmpR op_gt (pe_op op_sub (pv 3) (pv 2)) pe_int (nomark _)) (pss_cons (ps_set (i := 4) sc_Lroot.nd rfl (Or.inl rfl) (pe_op op_fdiv (pe_op op_add (pv 2) (pv 3)) pe_int))
        (pss_one (ps_if (pt_cmpR op_le (C8.pe_c c_Lpower hr (by decide) rfl (pa_cons (pv 4) (pa_cons (pv 1) pa_nil))) (pv 0) (nomark _)) (pss_one (ps_set (i := 2) sc_Lroot.nd rfl (Or.inl rfl) (pv 4))) (pss_one (ps_set (i := 3) sc_Lroot.nd rfl (Or.inl rfl) (pv 4)))))))
      (pss_one (ps_ret (pv 2))))), ?_⟩
    walk_at "rd"
    have gw : ∀ h : Int, 1 ≤ h → h ≤ h ^ k.toNat := fun h h1 => by
      have e : k.toNat = (k.toNat - 1) + 1 := by omega
      rw [e, Int.pow_succ]
      have := Int.pow_pos (n := h) (m := k.toNat - 1) (by omega)
      have h2 : 1 * h ≤ h ^ (k.toNat - 1) * h := Int.mul_le_mul_of_nonneg_right (by omega) (by omega)
      omega
    have ub := hn.ub
    have szm : ∀ m : Int, 0 ≤ m → m ≤ 2 * n + 1 → Sz m 702 := fun m m0 m1 => Sz.mk (by omega) (by omega)
    refine ⟨(by show 2 ≤ sizeLine; decide), fun tp ntp => ?_⟩
    refine ⟨tp, _, rfl, SqT.of upd_same, rfl, ?_⟩
    walk_at "rd"
    refine ⟨fun m σ H' => ∃ most : Int, σ = [some (.int n), some (.int k), some (.int 0), some (.int most), none] ∧ 1 ≤ most ∧ most ≤ 2 * n + 1 ∧ m = (n + 2 - most).toNat ∧ H' = upd H tp (.tup [.int 0, .int 1]), ⟨_, 1, rfl, by omega, by omega, rfl, rfl⟩, ?_⟩
    rintro m σ H' ⟨most, rfl, m1, m2, rfl, rfl⟩
    walk_at "rd"
    refine ⟨most, k, 702, rfl, by omega, szm most (by omega) m2, by decide, by omega, by omega, ?_⟩
    walk_at "rd"
    refine ite2 (fun c => ?_) (fun c => ?_)
    · have c' := of_decide_eq_true c
      have g := gw most m1
      refine ⟨_, fun σ' H'' z => z, ?_⟩
      walk_at "rd"
      refine ⟨(szm most (by omega) m2).w (show Sz 2 2 by decide) (by decide), ?_⟩
      walk_at "rd"
      exact ⟨(n + 2 - most * 2).toNat, by omega, most * 2, rfl, by omega, by omega, rfl, rfl⟩
    · have c' := of_decide_eq_false (Bool.eq_false_iff.mpr c)
      walk_at "rd"
      refine ⟨fun m σ H'' => ∃ (lo hi : Int) (v : Option V), σ = [some (.int n), some (.int k), some (.int lo), some (.int hi), v] ∧ 0 ≤ lo ∧ lo < hi ∧ hi ≤ 2 * n + 1 ∧ lo ^ k.toNat ≤ n ∧ n < hi ^ k.toNat ∧ m = (hi - lo).toNat ∧ H'' = upd H tp (.tup [.int 0, .int 1]), ⟨_, 0, most, none, rfl, by omega, by omega, m2, ?_, by omega, rfl, rfl⟩, ?_⟩
      · rw [Int.zero_pow (by omega)]
        exact h0
      rintro m σ H'' ⟨lo, hi, v, rfl, l0, l1, l2, l3, l4, rfl, rfl⟩
      walk_at "rd"
      refine ite2 (fun d => ?_) (fun d => ?_)
      · have d' := of_decide_eq_true d
        refine ⟨_, fun σ' H'' z => z, ?_⟩
        walk_at "rd"
        refine ⟨⟨by decide, by decide⟩, ?_⟩
        walk_at "rd"
        refine ⟨(lo + hi) / 2, k, 702, rfl, by omega, szm _ (by omega) (by omega), by decide, by omega, by omega, ?_⟩
        walk_at "rd"
        refine ite2 (fun f => ?_) (fun f => ?_)
        · have f' := of_decide_eq_true f
          walk_at "rd"
          exact ⟨(hi - (lo + hi) / 2).toNat, by omega, (lo + hi) / 2, hi, _, rfl, by omega, by omega, by omega, f', l4, rfl, rfl⟩
        · have f' := of_decide_eq_false (Bool.eq_false_iff.mpr f)
          walk_at "rd"
          exact ⟨((lo + hi) / 2 - lo).toNat, by omega, lo, (lo + hi) / 2, _, rfl, by omega, by omega, by omega, l3, by omega, rfl, rfl⟩
      · have d' := of_decide_eq_false (Bool.eq_false_iff.mpr d)
        have e : hi = lo + 1 := by omega
        subst e
        walk_at "rd"
        refine q lo _ l0 ?_ l3 l4 (same_new ntp _)
        by_cases z : 1 ≤ lo
        · exact Int.le_trans (gw lo z) l3
        · omega
theorem ok_Lnumber {f : Addr} {fd : FuncData} (F : C8.Def K mg "_law_number" s_Lnumber f fd) (b : Binds K fd ["_law_stream_here", "_law_k"] []) (T : Txt K mg) (c_Ldraw : C8.Cal P w K mg base 1 "_law_draw" (spDraw) []) (c_Lpick : C8.Cal P w K mg base 2 "_law_pick" (spPick K) []) (c_Lpower : C8.Cal P w K mg base 1 "_law_power" (spLPow) []) : C8.Cal P w K mg base 3 "_law_number" (spNumber) [] := by
  refine C8.cal0 F b .nil sc_Lnumber (fun vs H Q E h => ?_) (fun cdv A outer s H vs Q E hr h => ?_)
  · obtain ⟨a, c, k, rfl, hA, hc, k2, k4, q⟩ := h
    rfl
  · obtain ⟨a, c, k, rfl, hA, hc, k2, k4, q⟩ := h
    refine ⟨_, pss_cons (ps_set (i := 2) sc_Lnumber.nd rfl (Or.inl rfl) (C8.pe_c c_Ldraw hr (by decide) rfl (pa_cons (pv 0) (pa_cons pe_int pa_nil))))
      (pss_cons (ps_if (pt_cmpR op_eq (pv 2) pe_int (nomark _)) (pss_one (ps_ret (pe_op op_add pe_int (C8.pe_c c_Ldraw hr (by decide) rfl (pa_cons (pv 0) (pa_cons pe_int pa_nil)))))) (pss_nil))
      (pss_cons (ps_set (i := 3) sc_Lnumber.nd rfl (Or.inl rfl) (pe_op op_add pe_int (C8.pe_c c_Ldraw hr (by decide) rfl (pa_cons (pv 0) (pa_cons pe_int pa_nil)))))
      (pss_cons (ps_if (pt_cmpR op_gt (pv 2) pe_int (nomark _)) (pss_one (ps_set (i := 3) sc_Lnumber.nd rfl (Or.inl rfl) (pe_op op_add (pv 3) (pe_op op_mulW (pe_callTy (call_int1) rfl T.b_int boot_int (pa_cons (C8.pe_c c_Ldraw hr (by decide) rfl (pa_cons (pv 0) (pa_cons (pe_op op_pow pe_int pe_int) pa_nil))) pa_nil)) (C8.pe_c c_Lpick hr (by decide) rfl (pa_cons (pv 0) (pa_cons (pe_lst (pa_cons pe_int (pa_cons (pe_op op_pow pe_int pe_int) (pa_cons (pe_op op_pow pe_int pe_int) pa_nil)))) pa_nil))))))) (pss_nil))
      (pss_cons (ps_set (i := 4) sc_Lnumber.nd rfl (Or.inl rfl) (pe_op op_sub (C8.pe_c c_Lpower hr (by decide) rfl (pa_cons (pe_op op_add (pv 3) pe_int) (pa_cons (pv 1) pa_nil))) (C8.pe_c c_Lpower hr (by decide) rfl (pa_cons (pv 3) (pa_cons (pv 1) pa_nil)))))
      (pss_cons (ps_set (i := 5) sc_Lnumber.nd rfl (Or.inl rfl) (pe_op op_sub (C8.pe_c c_Ldraw hr (by decide) rfl (pa_cons (pv 0) (pa_cons pe_int pa_nil))) pe_int))
      (pss_cons (ps_set (i := 6) sc_Lnumber.nd rfl (Or.inl rfl) (pe_op op_mulW (pe_op op_sub (pe_op op_add (pv 3) (pe_callTy (call_int1) rfl T.b_int boot_int (pa_cons (C8.pe_c c_Ldraw hr (by decide) rfl (pa_cons (pv 0) (pa_cons (pe_op op_add (pv 1) pe_int) pa_nil))) pa_nil))) (pe_op op_mul (pe_op op_sub (pv 1) pe_int) (pv 5))) (C8.pe_c c_Lpower hr (by decide) rfl (pa_cons (pe_op op_add (pv 3) (pv 5)) (pa_cons (pe_op op_sub (pv 1) pe_int) pa_nil)))))
      (pss_cons (ps_set (i := 6) sc_Lnumber.nd rfl (Or.inl rfl) (pe_op op_sub (pe_op op_add (pe_op op_sub (pv 6) (C8.pe_c c_Lpower hr (by decide) rfl (pa_cons (pv 3) (pa_cons (pv 1) pa_nil)))) (C8.pe_c c_Ldraw hr (by decide) rfl (pa_cons (pv 0) (pa_cons pe_int pa_nil)))) pe_int))
      (pss_cons (ps_set (i := 7) sc_Lnumber.nd rfl (Or.inl rfl) (C8.pe_c c_Lpick hr (by decide) rfl (pa_cons (pv 0) (pa_cons (pe_lst (pa_cons pe_int (pa_cons pe_int (pa_cons (pe_op op_sub (pv 4) pe_int) (pa_cons (pe_op op_sub (pv 4) pe_int) (pa_cons (C8.pe_c c_Ldraw hr (by decide) rfl (pa_cons (pv 0) (pa_cons (pv 4) pa_nil))) (pa_cons (pv 6) (pa_cons (pv 6) pa_nil)))))))) pa_nil))))
      (pss_one (ps_ret (pe_op op_add (C8.pe_c c_Lpower hr (by decide) rfl (pa_cons (pv 3) (pa_cons (pv 1) pa_nil))) (pe_callB (call_max2 rfl) rfl T.b_max boot_max (pa_cons pe_int (pa_cons (pe_callB (call_min2 rfl) rfl T.b_min boot_min (pa_cons (pv 7) (pa_cons (pe_op op_sub (pv 4) pe_int) pa_nil))) pa_nil)))))))))))))), ?_⟩
    walk_at "rd"
    refine ⟨a, c, 5, 5, rfl, hA, by omega, by decide, by decide, by decide, fun w1 H1 w10 w11 b1 s1 => ?_⟩
    walk_at "rd"
    refine ite2 (fun cw => ?_) (fun cw => ?_)
    · walk_at "rd"
      refine ⟨a, c + 1, 120, 10, rfl, s1, by omega, by decide, by decide, by decide, fun r2 H2 r20 r21 b2 s2 => ?_⟩
      walk_at "rd"
      exact q (1 + r2) H2 (by omega) (Sz.mk (by omega) (by omega)) (b1.trans b2) (s2.mono (by omega))
    walk_at "rd"
    refine ⟨a, c + 1, 60, 10, rfl, s1, by omega, by decide, by decide, by decide, fun r2 H2 r20 r21 b2 s2 => ?_⟩
    walk_at "rd"
    have b02 := b1.trans b2
    refine ite2 (fun cx => ?t) (fun cx => ?f)
    case' t =>
      walk_at "rd"
      refine ⟨⟨by decide, by decide, by decide⟩, ?_⟩
      walk_at "rd"
      refine ⟨a, c + 1 + 1, 10 ^ (12 : Int).toNat, 40, rfl, s2, by omega, by decide, by decide, by decide, fun r3 H3 r30 r31 b3 s3 => ?_⟩
      walk_at "rd"
      refine ⟨⟨by decide, by decide, by decide⟩, ?_⟩
      walk_at "rd"
      refine ⟨⟨by decide, by decide, by decide⟩, ?_⟩
      walk_at "rd"
      refine ⟨(by show 3 ≤ sizeLine; decide), fun p4 n4 => ?_⟩
      refine ⟨a, c + 1 + 1 + 1, p4, _, rfl, s3.same (same_new n4 _), by omega, s3.ne n4, SqL.of upd_same, List.cons_ne_nil _ _, (by show 3 ≤ 1000; decide), fun v5 H5 hv5 b5 s5 => ?_⟩
      obtain ⟨g, rfl, g0, g1⟩ : ∃ g : Int, v5 = .int g ∧ 1 ≤ g ∧ Sz g 67 := by
        simp only [List.mem_cons, List.not_mem_nil, or_false] at hv5
        rcases hv5 with rfl | rfl | rfl
        · exact ⟨_, rfl, by decide, by decide⟩
        · exact ⟨_, rfl, by decide, by decide⟩
        · exact ⟨_, rfl, by decide, by decide⟩
      have sr3 : Sz r3 40 := by
        have e : (10 : Int) ^ (12 : Int).toNat = 1000000000000 := by decide
        rw [e] at r31
        exact Sz.mk (by omega) (by omega)
      walk_at "rd"
      refine ⟨Sz.w sr3 g1 (by decide), ?_⟩
      walk_at "rd"
      have hp0 : 0 ≤ r3 * g := Int.mul_nonneg r30 (by omega)
      have sp0 : Sz (r3 * g) 107 := Sz.mul sr3 g1
      have hf1 : 1 ≤ 1 + r2 + r3 * g := by omega
      have hfs : Sz (1 + r2 + r3 * g) 108 := by
        have := sp0.ub
        exact Sz.mk (by omega) (by omega)
      have hB : SameBut a H H5 := b02.trans (b3.trans ((but_new n4 _).trans b5))
      have hT : StrAt H5 a (c + 6) := s5.mono (by omega)
      dsimp (config := { proj := false }) only
      generalize 1 + r2 + r3 * g = fl at *
      clear b5 s5 hv5
    case' f =>
      walk_at "rd"
      have hf1 : 1 ≤ 1 + r2 := by omega
      have hfs : Sz (1 + r2) 108 := Sz.mk (by omega) (by omega)
      have hB : SameBut a H H2 := b02
      have hT : StrAt H2 a (c + 6) := s2.mono (by omega)
      dsimp (config := { proj := false }) only
      generalize 1 + r2 = fl at *
      clear b2 b02 s2
      generalize H2 = H5 at *
    all_goals
      walk_at "rd"
      have k3 : (k - 1).toNat ≤ 3 := by omega
      have m5 : (k.toNat + 1) * 110 ≤ 5 * 110 := Nat.mul_le_mul_right _ (by omega)
      have m4 : ((k - 1).toNat + 1) * 110 ≤ 4 * 110 := Nat.mul_le_mul_right _ (by omega)
      have ubf := hfs.ub
      have sf0 : Sz fl 110 := hfs.mono (by decide)
      have sf1 : Sz (fl + 1) 110 := Sz.mk (by omega) (by omega)
      refine ⟨fl + 1, k, 110, rfl, by omega, sf1, by decide, by omega, by omega, ?_⟩
      walk_at "rd"
      refine ⟨fl, k, 110, rfl, by omega, sf0, by decide, by omega, by omega, ?_⟩
      walk_at "rd"
      have hend := pow_lt_succ (k := k.toNat) (r := fl) (by omega) (by omega)
      have sP1 : Sz ((fl + 1) ^ k.toNat) 600 := (Sz.pow sf1 (by decide) _).mono (by omega)
      have sP0 : Sz (fl ^ k.toNat) 600 := (Sz.pow sf0 (by decide) _).mono (by omega)
      have hpos : 0 < fl ^ k.toNat := Int.pow_pos (by omega)
      refine ⟨a, c + 6, 9, 5, rfl, hT, by omega, by decide, by decide, by decide, fun i' H6 i0 i1 b6 s6 => ?_⟩
      walk_at "rd"
      refine ⟨a, c + 6 + 1, k + 2, 5, rfl, s6, by omega, by omega, Sz.mk (by omega) (by omega), by decide, fun j' H7 j0 j1 b7 s7 => ?_⟩
      walk_at "rd"
      refine ⟨.inl ⟨by omega, by omega⟩, ?_⟩
      walk_at "rd"
      have sX : Sz (fl + (i' - 2)) 110 := Sz.mk (by omega) (by omega)
      have hm : -6 ≤ (k - 1) * (i' - 2) ∧ (k - 1) * (i' - 2) ≤ 18 := by
        have hk : k = 2 ∨ k = 3 ∨ k = 4 := by omega
        rcases hk with h | h | h <;> rw [h] <;> omega
      have sY : Sz (fl + j' - (k - 1) * (i' - 2)) 110 := Sz.mk (by omega) (by omega)
      refine ⟨fl + (i' - 2), k - 1, 110, rfl, by omega, sX, by decide, by omega, by omega, ?_⟩
      walk_at "rd"
      refine ⟨sY.w (Sz.pow sX (by decide) _) (by omega), ?_⟩
      walk_at "rd"
      refine ⟨fl, k, 110, rfl, by omega, sf0, by decide, by omega, by omega, ?_⟩
      walk_at "rd"
      refine ⟨a, c + 6 + 1 + 1, 3, 5, rfl, s7, by omega, by decide, by decide, by decide, fun r8 H8 r80 r81 b8 s8 => ?_⟩
      walk_at "rd"
      dsimp (config := { proj := false }) only
      generalize (fl + j' - (k - 1) * (i' - 2)) * (fl + (i' - 2)) ^ (k - 1).toNat - fl ^ k.toNat + r8 - 1 = tn
      generalize hE : (fl + 1) ^ k.toNat - fl ^ k.toNat = eN at *
      have sE : Sz eN 601 := by
        rw [← hE]
        exact Sz.sub sP1 sP0
      have hend1 : 1 ≤ eN := by omega
      refine ⟨a, c + 6 + 1 + 1 + 1, eN, 601, rfl, s8, by omega, by omega, sE, by decide, fun r9 H9 r90 r91 b9 s9 => ?_⟩
      walk_at "rd"
      refine ⟨(by show 7 ≤ sizeLine; decide), fun p10 n10 => ?_⟩
      refine ⟨a, c + 6 + 1 + 1 + 1 + 1, p10, _, rfl, s9.same (same_new n10 _), by omega, s9.ne n10, SqL.of upd_same, List.cons_ne_nil _ _, (by show 7 ≤ 1000; decide), fun v11 H11 hv11 b11 s11 => ?_⟩
      obtain ⟨z, rfl⟩ : ∃ g : Int, v11 = .int g := by
        simp only [List.mem_cons, List.not_mem_nil, or_false] at hv11
        rcases hv11 with rfl | rfl | rfl | rfl | rfl | rfl | rfl <;> exact ⟨_, rfl⟩
      walk_at "rd"
      refine ⟨fl, k, 110, rfl, by omega, sf0, by decide, by omega, by omega, ?_⟩
      walk_at "rd"
      have hs0 : ∀ m : Int, 0 ≤ (if m > 0 then m else 0) := fun m => by split <;> omega
      have hs1 : (if (if eN - 1 < z then eN - 1 else z) > 0 then (if eN - 1 < z then eN - 1 else z) else 0) ≤ eN - 1 := by split <;> split <;> omega
      have hs2 := hs0 (if eN - 1 < z then eN - 1 else z)
      show Q (.int _) _
      refine q _ _ (by omega) ?_ (hB.trans (b6.trans (b7.trans (b8.trans (b9.trans ((but_new n10 _).trans b11)))))) (s11.mono (by omega))
      refine Sz.le (sP1.mono (show 600 ≤ 700 by decide)) (by omega) (by omega)
theorem ok_law {f : Addr} {fd : FuncData} {C_Average : Addr} {C_BadNumber : Addr} {C_BadStart : Addr} (F : C8.Fun K "law" "law" s_law f fd) (T : Txt K mg) (c_Lstream : C8.Cal P w K mg base 1 "_law_stream" (spStream K) []) (c_Lparts : C8.Cal P w K mg base 3 "_law_parts" (spParts) []) (c_Lroot : C8.Cal P w K mg base 2 "_law_root" (spRoot) []) (c_Lpick : C8.Cal P w K mg base 2 "_law_pick" (spPick K) []) (c_Lloop : C8.Cal P w K mg base 7 "_law_loop" (spLoop C_Average) []) (c_Lnumber : C8.Cal P w K mg base 3 "_law_number" (spNumber) []) (c_Ldraw : C8.Cal P w K mg base 1 "_law_draw" (spDraw) []) (c_Lrefused : C8.Cal P w K mg base 8 "_law_refused" (spRefused K C_Average C_BadNumber C_BadStart) []) (c_Lled : C8.Cal P w K mg base 2 "_law_led" (spLed) []) (k_step : C8.Met P w K mg base 7 C_Average "step" (spNext C_Average) []) : FnOk P w K mg base C8.CX0 9 f fd ["_law_script"] (spLaw K) := by
  refine C8.fn0 F sc_law (fun vs H Q E h => ?_) (fun cdv A outer s H vs Q E hr h => ?_)
  · obtain ⟨a, ns, rfl, hS, h63, q⟩ := h
    rfl
  · obtain ⟨a, ns, rfl, hS, h63, q⟩ := h
    refine ⟨_, pss_cons (ps_for PassesOwn.never rfl (pi_range1 rfl T.b_range (pa_cons pe_int pa_nil)) (pg_name (i := 1) sc_law.nd rfl (Or.inl rfl)) (pss_cons (ps_set (i := 2) sc_law.nd rfl (Or.inl rfl) (C8.pe_c c_Lstream hr (by decide) rfl (pa_cons (pv 0) (pa_cons (pv 1) pa_nil))))
        (pss_cons (ps_set (i := 3) sc_law.nd rfl (Or.inl rfl) (C8.pe_c c_Lparts hr (by decide) rfl (pa_cons (pv 2) pa_nil)))
        (pss_cons (ps_par (i := 4) (j := 5) rfl sc_law.nd rfl rfl (by decide) rfl rfl (pa_cons (C8.pe_c c_Lloop hr (by decide) rfl (pa_cons (pv 3) pa_nil)) (pa_cons (C8.pe_c c_Lnumber hr (by decide) rfl (pa_cons (pv 2) (pa_cons (pe_ix ix_tup (pv 3) pe_int (fun _ _ => rfl)) pa_nil))) pa_nil)) (by rfl))
        (pss_cons (ps_set (i := 6) sc_law.nd rfl (Or.inl rfl) (C8.pe_c c_Lroot hr (by decide) rfl (pa_cons (pv 5) (pa_cons (pe_ix ix_tup (pv 3) pe_int (fun _ _ => rfl)) pa_nil))))
        (pss_cons (ps_for PassesOwn.never rfl (pi_list (pe_lst (pa_cons (pv 5) (pa_cons pe_int (pa_cons (C8.pe_c c_Ldraw hr (by decide) rfl (pa_cons (pv 2) (pa_cons pe_int pa_nil))) pa_nil))))) (pg_name (i := 7) sc_law.nd rfl (Or.inl rfl)) (pss_one (ps_for PassesOwn.never rfl (pi_list (pe_lst (pa_cons pe_int (pa_cons pe_int (pa_cons (pv 6) (pa_cons (pe_op op_add (pv 6) pe_int) (pa_cons (pe_op op_add (pv 6) pe_int) (pa_cons (pe_callB (call_max2 rfl) rfl T.b_max boot_max (pa_cons pe_int (pa_cons (pe_op op_sub (pv 6) pe_int) pa_nil))) (pa_cons (pe_op op_add (pe_op op_mulW pe_int (pv 6)) pe_int) (pa_cons (pe_op op_add (pv 5) pe_int) (pa_cons (pe_op op_pow pe_int pe_int) pa_nil))))))))))) (pg_name (i := 8) sc_law.nd rfl (Or.inl rfl)) (pss_one (ps_if (pt_cmpR op_ne (C8.pe_mt k_step hr (by decide) (pv 4) (pa_cons (pv 7) (pa_cons (pv 8) pa_nil))) (C8.pe_c c_Lled hr (by decide) rfl (pa_cons (pv 3) (pa_cons (pv 7) (pa_cons (pv 8) pa_nil)))) (nomark _)) (pss_one (ps_ret pe_bl)) (pss_nil))))))
        (pss_cons (ps_par (i := 8) (j := 9) rfl sc_law.nd rfl rfl (by decide) rfl rfl (pa_cons (pe_op op_add (pe_op op_add (pv 6) pe_int) (C8.pe_c c_Ldraw hr (by decide) rfl (pa_cons (pv 2) (pa_cons pe_int pa_nil)))) (pa_cons pe_int pa_nil)) (by rfl))
        (pss_cons (ps_for PassesOwn.never rfl (pi_range1 rfl T.b_range (pa_cons pe_int pa_nil)) (pg_name (i := 10) sc_law.nd rfl (Or.inl rfl)) (pss_cons (ps_set (i := 11) sc_law.nd rfl (Or.inl rfl) (C8.pe_mt k_step hr (by decide) (pv 4) (pa_cons (pv 5) (pa_cons (pv 8) pa_nil))))
          (pss_cons (ps_if (pt_cmpR op_lt (pv 11) (pv 9) (nomark _)) (pss_one (ps_ret pe_bl)) (pss_nil))
          (pss_one (ps_par (i := 8) (j := 9) rfl sc_law.nd rfl rfl (by decide) rfl rfl (pa_cons (pe_op op_add (pe_op op_add (pv 8) pe_int) (C8.pe_c c_Ldraw hr (by decide) rfl (pa_cons (pv 2) (pa_cons (pe_op op_add pe_int (pe_op op_fdiv (pv 8) pe_int)) pa_nil)))) (pa_cons (pv 11) pa_nil)) (by rfl))))))
        (pss_cons (ps_set (i := 12) sc_law.nd rfl (Or.inl rfl) (C8.pe_c c_Lpick hr (by decide) rfl (pa_cons (pv 2) (pa_cons (pe_lst (pa_cons (pe_un un_neg pe_int) (pa_cons pe_bl (pa_cons pe_non (pa_cons pe_str (pa_cons (pe_lst (pa_cons pe_int pa_nil)) (pa_cons (pe_un un_neg (pe_op op_pow pe_int pe_int)) pa_nil))))))) pa_nil))))
        (pss_cons (ps_set (i := 13) sc_law.nd rfl (Or.inl rfl) (C8.pe_c c_Lpick hr (by decide) rfl (pa_cons (pv 2) (pa_cons (pe_lst (pa_cons pe_int (pa_cons (pe_un un_neg pe_int) (pa_cons pe_bl (pa_cons pe_non (pa_cons pe_str (pa_cons (pe_tup (pa_cons pe_int pa_nil)) pa_nil))))))) pa_nil))))
        (pss_one (ps_for PassesOwn.never rfl (pi_list (pe_lst (pa_cons (pe_tup (pa_cons (pv 12) (pa_cons (pv 13) (pa_cons (pe_tup (pa_cons pe_str (pa_cons (pv 12) pa_nil))) pa_nil)))) (pa_cons (pe_tup (pa_cons (pv 5) (pa_cons (pv 13) (pa_cons (pe_tup (pa_cons pe_str (pa_cons (pv 13) pa_nil))) pa_nil)))) pa_nil)))) (pg_tup rfl (pgs_cons (pg_name (i := 7) sc_law.nd rfl (Or.inl rfl)) (pgs_cons (pg_name (i := 14) sc_law.nd rfl (Or.inl rfl)) (pgs_cons (pg_name (i := 15) sc_law.nd rfl (Or.inl rfl)) (pgs_nil))))) (pss_cons (ps_set (i := 16) sc_law.nd rfl (Or.inl rfl) (C8.pe_c c_Lrefused hr (by decide) rfl (pa_cons (pv 4) (pa_cons (pv 7) (pa_cons (pv 14) pa_nil)))))
          (pss_one (ps_if (PW.pt (pw_or (pt_cmpR (op_neD (room64 hr)) (pv 16) (pv 15) (nomark _)) (pw_or1 (pt_cmpR op_ne (pe_callB (call_isi) rfl T.b_isinstance boot_isinstance (pa_cons (pe_ix ix_tup (pv 16) pe_int (fun _ _ => rfl)) (pa_cons (pe_bltn (v := .ty "bool") rfl T.b_bool boot_bool rfl) pa_nil))) (pe_callB (call_isi) rfl T.b_isinstance boot_isinstance (pa_cons (pe_ix ix_tup (pv 15) pe_int (fun _ _ => rfl)) (pa_cons (pe_bltn (v := .ty "bool") rfl T.b_bool boot_bool rfl) pa_nil))) (nomark _))))) (pss_one (ps_ret pe_bl)) (pss_nil))))))))))))))))
      (pss_one (ps_ret pe_bl)), ?_⟩
    walk_at "rd"
    refine ⟨by decide, by decide, ?_⟩
    refine for_range (n := 8) (fun i σ H' => ∃ v1 v2 v3 v4 v5 v6 v7 v8 v9 v10 v11 v12 v13 v14 v15 v16 : Option V, σ = [some (.ref a), v1, v2, v3, v4, v5, v6, v7, v8, v9, v10, v11, v12, v13, v14, v15, v16] ∧ Same H H') ⟨none, none, none, none, none, none, none, none, none, none, none, none, none, none, none, none, rfl, Same.refl H⟩ ?_ (fun σ H' ⟨_, _, _, _, _, _, _, _, _, _, _, _, _, _, _, _, _⟩ => q H')
    rintro i0 σ H0 hi0 ⟨v1, v2, v3, v4, v5, v6, v7, v8, v9, v10, v11, v12, v13, v14, v15, v16, rfl, m0⟩
    walk_at "rd"
    refine ⟨a, ns, i0, by rw [Int.zero_add] <;> rfl, m0.seq hS, h63, by omega, fun st H1 n1 m1 s1 => ?_⟩
    have nst : H st = none := m0.free n1
    walk_at "rd"
    refine ⟨st, 0, rfl, s1, by omega, fun pp H2 L n2 b2 s2 e2 ok => ?_⟩
    have k2 := ok.k2
    have k4 := ok.k4
    walk_at "rd"
    refine ⟨pp, L, rfl, e2, ok, fun lp H3 n3 m3 av3 => ?_⟩
    have s3 := s2.same m3
    have e3 := m3 _ _ e2
    have nls : lp ≠ st := s2.ne n3
    have npp : pp ≠ st := fun z => by
      obtain ⟨_, _, _, h, _⟩ := s2
      rw [z, h] at e2
      cases e2
    walk_at "rd"
    refine ⟨pp, _, _, _, rfl, rfl, SqT.of e3, atI_nat (j := 0) rfl, ?_⟩
    walk_at "rd"
    refine ⟨st, 10, L.k, rfl, s3, by omega, k2, k4, fun n H4 hn1 hns b4 s4 => ?_⟩
    have e4 := b4 _ _ npp e3
    have av4 := av3.but b4 nls
    walk_at "rd"
    refine ⟨pp, _, _, _, rfl, rfl, SqT.of e4, atI_nat (j := 0) rfl, ?_⟩
    walk_at "rd"
    refine ⟨by omega, hns, k2, k4, fun r H5 r0 rn rk1 rk2 m5 => ?_⟩
    have r1 := root_pos hn1 r0 rk2
    have e5 := m5 _ _ e4
    have av5 := av4.same m5
    have s5 := s4.same m5
    have ubn := hns.ub
    walk_at "rd"
    refine ⟨st, 30, 50, 10, rfl, s5, by omega, by decide, by decide, by decide, fun r6 H6 r60 r61 b6 s6 => ?_⟩
    have e6 := b6 _ _ npp e5
    have av6 := av5.but b6 nls
    have m6 : Same H H6 := Same.keep (Same.trans (Same.keep (Same.trans (Same.keep (Same.trans m0 m1) nst b2) m3) nst b4) m5) nst b6
    refine ⟨(by show 3 ≤ sizeLine; decide), fun p7 n7 => ?_⟩
    refine ⟨p7, rfl, ⟨_, SqL.of upd_same⟩, ?_⟩
    have m7 := same_new n7 (.lst [.int n, .int 0, .int r6])
    have i7 : upd H6 p7 (.lst [.int n, .int 0, .int r6]) p7 = some (.lst [.int n, .int 0, .int r6]) := upd_same
    generalize upd H6 p7 (.lst [.int n, .int 0, .int r6]) = H7 at *
    have e7 := m7 _ _ e6
    have av7 := av6.same m7
    have s7 := s6.same m7
    have mH7 := m6.trans m7
    refine for_list (K := K) (a := p7) (xs := ([n, 0, r6] : List Int).map V.int)
      (fun _ σ G => ∃ w7 w8 w9 w10 w11 w12 w13 w14 w15 w16 : Option V, σ = [some (.ref a), some (.int (0 + i0)), some (.ref st), some (.ref pp), some (.ref lp), some (.int n), some (.int r), w7, w8, w9, w10, w11, w12, w13, w14, w15, w16] ∧ Same H7 G)
      ⟨v7, v8, v9, v10, v11, v12, v13, v14, v15, v16, rfl, Same.refl H7⟩ (fun _ σ G _ ⟨_, _, _, _, _, _, _, _, _, _, _, mG⟩ => mG.seq (SqL.of i7)) ?_ ?_
    · rintro t x σ G ht ⟨w7, w8, w9, w10, w11, w12, w13, w14, w15, w16, rfl, mG⟩
      obtain ⟨z, hz, rfl⟩ := int_at ht
      have z0 : 0 ≤ z := by
        have hm := List.mem_of_getElem? hz
        simp only [List.mem_cons, List.not_mem_nil, or_false] at hm
        omega
      walk_at "rd"
      have sr : Sz r 700 := hns.le r0 rn
      refine ⟨Sz.w (show Sz 7 3 by decide) sr (by decide), ?_⟩
      walk_at "rd"
      refine ⟨⟨by decide, by decide, by decide⟩, ?_⟩
      walk_at "rd"
      refine ⟨(by show 9 ≤ sizeLine; decide), fun p8 n8 => ?_⟩
      refine ⟨p8, rfl, ⟨_, SqL.of upd_same⟩, ?_⟩
      have m8 := same_new n8 (.lst [.int 1, .int 2, .int r, .int (r + 1), .int (r + 5), .int (if r - 3 > 1 then r - 3 else 1), .int (7 * r + 1), .int (n + 1), .int (10 ^ (40 : Int).toNat)])
      have i8 : upd G p8 (.lst [.int 1, .int 2, .int r, .int (r + 1), .int (r + 5), .int (if r - 3 > 1 then r - 3 else 1), .int (7 * r + 1), .int (n + 1), .int (10 ^ (40 : Int).toNat)]) p8 = some (.lst [.int 1, .int 2, .int r, .int (r + 1), .int (r + 5), .int (if r - 3 > 1 then r - 3 else 1), .int (7 * r + 1), .int (n + 1), .int (10 ^ (40 : Int).toNat)]) := upd_same
      generalize upd G p8 (.lst [.int 1, .int 2, .int r, .int (r + 1), .int (r + 5), .int (if r - 3 > 1 then r - 3 else 1), .int (7 * r + 1), .int (n + 1), .int (10 ^ (40 : Int).toNat)]) = G8 at *
      have e8 := m8 _ _ (mG _ _ e7)
      have av8 := (av7.same mG).same m8
      have mG8 := mG.trans m8
      refine for_list (K := K) (a := p8) (xs := ([1, 2, r, r + 1, r + 5, if r - 3 > 1 then r - 3 else 1, 7 * r + 1, n + 1, 10 ^ (40 : Int).toNat] : List Int).map V.int)
        (fun _ σ G' => ∃ w8 w9 w10 w11 w12 w13 w14 w15 w16 : Option V, σ = [some (.ref a), some (.int (0 + i0)), some (.ref st), some (.ref pp), some (.ref lp), some (.int n), some (.int r), some (.int z), w8, w9, w10, w11, w12, w13, w14, w15, w16] ∧ G' = G8)
        ⟨w8, w9, w10, w11, w12, w13, w14, w15, w16, rfl, rfl⟩ (fun _ σ G' _ ⟨_, _, _, _, _, _, _, _, _, _, e⟩ => by rw [e]; exact SqL.of i8) ?_ ?_
      · rintro t' x σ G' ht' ⟨w8, w9, w10, w11, w12, w13, w14, w15, w16, rfl, rfl⟩
        obtain ⟨y, hy, rfl⟩ := int_at ht'
        have hy2 : 1 ≤ y ∧ Sz y 710 := by
          have hm := List.mem_of_getElem? hy
          have e40 : (10 : Int) ^ (40 : Int).toNat = 10000000000000000000000000000000000000000 := by decide
          rw [e40] at hm
          simp only [List.mem_cons, List.not_mem_nil, or_false] at hm
          rcases hm with rfl | rfl | rfl | rfl | rfl | rfl | rfl | rfl | rfl
          · exact ⟨by omega, by decide⟩
          · exact ⟨by omega, by decide⟩
          · exact ⟨by omega, Sz.mk (by omega) (by omega)⟩
          · exact ⟨by omega, Sz.mk (by omega) (by omega)⟩
          · exact ⟨by omega, Sz.mk (by omega) (by omega)⟩
          · refine ⟨by split <;> omega, Sz.mk (by split <;> omega) (by split <;> omega)⟩
          · exact ⟨by omega, Sz.mk (by omega) (by omega)⟩
          · exact ⟨by omega, Sz.mk (by omega) (by omega)⟩
          · exact ⟨by decide, by decide⟩
        clear hy ht'
        obtain ⟨y1, ys⟩ := hy2
        walk_at "rd"
        obtain ⟨dx3, hlp⟩ := id av8
        refine ⟨lp, dx3, _, rfl, hlp, avgF_no L (by decide +kernel) (by decide +kernel) (by decide +kernel) (by decide +kernel) (by decide +kernel) (by decide +kernel) (by decide +kernel), ?_⟩
        walk_at "rd"
        refine ⟨lp, L, z, y, 710, rfl, av8, ok, z0, y1, ys, by decide, by decide, ?_⟩
        walk_at "rd"
        refine ⟨pp, L, z, y, 710, rfl, e8, ok, z0, y1, ys, by decide, by decide, ?_⟩
        walk_at "rd"
        refine iteNS rfl ?_
        exact ⟨_, _, _, _, _, _, _, _, _, rfl, rfl⟩
      · rintro σ G' ⟨w8, w9, w10, w11, w12, w13, w14, w15, w16, rfl, rfl⟩
        exact ⟨_, _, _, _, _, _, _, _, _, _, rfl, mG8⟩
    rintro σ G ⟨w7, w8, w9, w10, w11, w12, w13, w14, w15, w16, rfl, mG⟩
    walk_at "rd"
    have e8 := mG _ _ e7
    have av8 := av7.same mG
    have s8 := s7.same mG
    have mHG := mH7.trans mG
    refine ⟨st, 31, 30, 10, rfl, s8, by omega, by decide, by decide, by decide, fun r9 H9 r90 r91 b9 s9 => ?_⟩
    walk_at "rd"
    refine ⟨by decide, by decide, ?_⟩
    have hx0 := step_le ok (n := n) (x := r + 1) (z := r + 1 + r9) (by omega) (by omega) rk2 (by omega)
    refine for_range (n := 12) (fun j σ G' => ∃ (x l : Int) (w7 w10 w11 w12 w13 w14 w15 w16 : Option V), σ = [some (.ref a), some (.int (0 + i0)), some (.ref st), some (.ref pp), some (.ref lp), some (.int n), some (.int r), w7, some (.int x), some (.int l), w10, w11, w12, w13, w14, w15, w16] ∧ r + 1 ≤ x ∧ Sz x (800 + j) ∧ n < x ^ L.k.toNat ∧ l ≤ stepZ L n x ∧ Same H G' ∧ AvgAt C_Average G' lp L ∧ StrAt G' st (40 + j))
      ⟨r + 1 + r9, 0, w7, w10, w11, w12, w13, w14, w15, w16, rfl, by omega, Sz.mk (by omega) (by omega), hx0.1, step_nn ok (by omega) (by omega), Same.keep mHG nst b9, av8.but b9 nls, s9.mono (by omega)⟩ ?_ ?_
    · rintro j σ G' hj ⟨x, l, w7, w10, w11, w12, w13, w14, w15, w16, rfl, x1, xs, xn, lx, mG', avG, sG⟩
      walk_at "rd"
      obtain ⟨dx3, hlp⟩ := id avG
      refine ⟨lp, dx3, _, rfl, hlp, avgF_no L (by decide +kernel) (by decide +kernel) (by decide +kernel) (by decide +kernel) (by decide +kernel) (by decide +kernel) (by decide +kernel), ?_⟩
      walk_at "rd"
      refine ⟨lp, L, n, x, 900, rfl, avG, ok, by omega, by omega, xs.mono (by omega), by decide, by decide, ?_⟩
      walk_at "rd"
      rw [decide_eq_false (show ¬ stepZ L n x < l by omega)]
      walk_at "rd"
      refine ⟨⟨by decide, by decide⟩, ?_⟩
      walk_at "rd"
      refine ⟨st, 40 + j, 1 + x / 2, 900, rfl, sG, by omega, by omega, Sz.le (xs.mono (by omega)) (by omega) (show 1 + x / 2 ≤ x by omega), by decide, fun d G2 d0 d1 b2' s2' => ?_⟩
      walk_at "rd"
      have hx1 := step_le ok (n := n) (x := x) (z := x + 1 + d) (by omega) (by omega) xn (by omega)
      exact ⟨_, _, _, _, _, _, _, _, _, _, rfl, by omega, Sz.le (Sz.add xs xs) (by omega) (by omega), hx1.1, hx1.2, Same.keep mG' nst b2', avG.but b2' nls, s2'⟩
    rintro σ G' ⟨x, l, w7, w10, w11, w12, w13, w14, w15, w16, rfl, x1, xs, xn, lx, mG', avG, sG⟩
    walk_at "rd"
    refine ⟨(by show 1 ≤ sizeLine; decide), fun p10 n10 => ?_⟩
    walk_at "rd"
    refine ⟨⟨by decide, by decide, by decide⟩, ?_⟩
    walk_at "rd"
    refine ⟨(by show 6 ≤ sizeLine; decide), fun p11 n11 => ?_⟩
    have m10 := same_new n10 (.lst [.int 4])
    have i10 : upd G' p10 (.lst [.int 4]) p10 = some (.lst [.int 4]) := upd_same
    have n10s := sG.ne n10
    have s10 := sG.same m10
    refine ⟨st, 52, p11, _, rfl, s10.same (same_new n11 _), by omega, s10.ne n11, SqL.of upd_same, List.cons_ne_nil _ _, (by show 6 ≤ 1000; decide), fun v12 H12 hv12 b12 s12 => ?_⟩
    have m11 := same_new n11 (.lst [.int (-1), .bl true, .non, .str "9", .ref p10, .int (-10 ^ (30 : Int).toNat)])
    have i12 : H12 p10 = some (.lst [.int 4]) := b12 _ _ n10s (same_new n11 _ _ _ i10)
    obtain ⟨dO, oO⟩ : ∃ d, OddV H12 0 v12 d := by
      simp only [List.mem_cons, List.not_mem_nil, or_false] at hv12
      rcases hv12 with rfl | rfl | rfl | rfl | rfl | rfl
      · exact ⟨_, .inl ⟨_, rfl, rfl, by decide⟩⟩
      · exact ⟨_, .inr (.inl ⟨_, rfl, rfl⟩)⟩
      · exact ⟨_, .inr (.inr (.inl ⟨rfl, rfl⟩))⟩
      · exact ⟨_, .inr (.inr (.inr (.inl ⟨rfl, rfl⟩)))⟩
      · exact ⟨_, .inr (.inr (.inr (.inr (.inr (.inl ⟨p10, rfl, i12, rfl⟩)))))⟩
      · exact ⟨_, .inl ⟨_, rfl, rfl, by decide⟩⟩
    have nO : ∀ a' o, v12 = .ref a' → H12 a' = some o → a' ≠ st := by
      intro a' o e _ z
      simp only [List.mem_cons, List.not_mem_nil, or_false] at hv12
      rw [e, z] at hv12
      rcases hv12 with h | h | h | h | h | h
      · cases h
      · cases h
      · cases h
      · cases h
      · exact n10s (V.ref.inj h).symm
      · cases h
    have mH12 : Same H H12 := Same.keep (mG'.trans (m10.trans (same_new n11 _))) nst b12
    have av12 : AvgAt C_Average H12 lp L := ((avG.same m10).same (same_new n11 _)).but b12 nls
    clear hv12
    walk_at "rd"
    refine ⟨(by show 1 ≤ sizeLine; decide), fun p13 n13 => ?_⟩
    walk_at "rd"
    refine ⟨(by show 6 ≤ sizeLine; decide), fun p14 n14 => ?_⟩
    have m13 := same_new n13 (.tup [.int 3])
    have i13 : upd H12 p13 (.tup [.int 3]) p13 = some (.tup [.int 3]) := upd_same
    have n13s := s12.ne n13
    have s13 := s12.same m13
    refine ⟨st, 53, p14, _, rfl, s13.same (same_new n14 _), by omega, s13.ne n14, SqL.of upd_same, List.cons_ne_nil _ _, (by show 6 ≤ 1000; decide), fun v15 H15 hv15 b15 s15 => ?_⟩
    have m14 := same_new n14 (.lst [.int 0, .int (-1), .bl false, .non, .str "1", .ref p13])
    have i15 : H15 p13 = some (.tup [.int 3]) := b15 _ _ n13s (m14 _ _ i13)
    obtain ⟨dW, oW⟩ : ∃ d, OddV H15 1 v15 d := by
      simp only [List.mem_cons, List.not_mem_nil, or_false] at hv15
      rcases hv15 with rfl | rfl | rfl | rfl | rfl | rfl
      · exact ⟨_, .inl ⟨_, rfl, rfl, by decide⟩⟩
      · exact ⟨_, .inl ⟨_, rfl, rfl, by decide⟩⟩
      · exact ⟨_, .inr (.inl ⟨_, rfl, rfl⟩)⟩
      · exact ⟨_, .inr (.inr (.inl ⟨rfl, rfl⟩))⟩
      · exact ⟨_, .inr (.inr (.inr (.inr (.inl ⟨rfl, rfl⟩))))⟩
      · exact ⟨_, .inr (.inr (.inr (.inr (.inr (.inr ⟨p13, rfl, i15, rfl⟩)))))⟩
    have oO15 : OddV H15 0 v12 dO := oO.mono fun a' o e1 e2 => b15 _ _ (nO a' o e1 e2) (m14 _ _ (m13 _ _ e2))
    have mH15 : Same H H15 := Same.keep (mH12.trans (m13.trans m14)) nst b15
    have av15 : AvgAt C_Average H15 lp L := ((av12.same m13).same m14).but b15 nls
    clear hv15
    walk_at "rd"
    refine ⟨(by show 2 ≤ sizeLine; decide), fun q1 nq1 => ?_⟩
    walk_at "rd"
    refine ⟨(by show 3 ≤ sizeLine; decide), fun q2 nq2 => ?_⟩
    walk_at "rd"
    refine ⟨(by show 2 ≤ sizeLine; decide), fun q3 nq3 => ?_⟩
    walk_at "rd"
    refine ⟨(by show 3 ≤ sizeLine; decide), fun q4 nq4 => ?_⟩
    refine ⟨(by show 2 ≤ sizeLine; decide), fun p16 n16 => ?_⟩
    refine ⟨p16, rfl, ⟨_, SqL.of upd_same⟩, ?_⟩
    have g1 := same_new nq1 (.tup [.str "number", v12])
    have f1 : upd H15 q1 (.tup [.str "number", v12]) q1 = some (.tup [.str "number", v12]) := upd_same
    generalize upd H15 q1 (.tup [.str "number", v12]) = J1 at *
    have g2 := same_new nq2 (.tup [v12, v15, .ref q1])
    have f2 : upd J1 q2 (.tup [v12, v15, .ref q1]) q2 = some (.tup [v12, v15, .ref q1]) := upd_same
    generalize upd J1 q2 (.tup [v12, v15, .ref q1]) = J2 at *
    have g3 := same_new nq3 (.tup [.str "start", v15])
    have f3 : upd J2 q3 (.tup [.str "start", v15]) q3 = some (.tup [.str "start", v15]) := upd_same
    generalize upd J2 q3 (.tup [.str "start", v15]) = J3 at *
    have g4 := same_new nq4 (.tup [.int n, v15, .ref q3])
    have f4 : upd J3 q4 (.tup [.int n, v15, .ref q3]) q4 = some (.tup [.int n, v15, .ref q3]) := upd_same
    generalize upd J3 q4 (.tup [.int n, v15, .ref q3]) = J4 at *
    have g5 := same_new n16 (.lst [.ref q2, .ref q4])
    have f5 : upd J4 p16 (.lst [.ref q2, .ref q4]) p16 = some (.lst [.ref q2, .ref q4]) := upd_same
    generalize upd J4 p16 (.lst [.ref q2, .ref q4]) = HF at *
    have gF := g1.trans (g2.trans (g3.trans (g4.trans g5)))
    have oOF := oO15.same gF
    have oWF := oW.same gF
    have avF := av15.same gF
    have mHF := mH15.trans gF
    have a1 := g5 _ _ (g4 _ _ (g3 _ _ (g2 _ _ f1)))
    have a2 := g5 _ _ (g4 _ _ (g3 _ _ f2))
    have a3 := g5 _ _ (g4 _ _ f3)
    have a4 := g5 _ _ f4
    refine for_list (K := K) (a := p16) (xs := [.ref q2, .ref q4])
      (fun _ σ G => ∃ w7 w14 w15 w16 : Option V, σ = [some (.ref a), some (.int (0 + i0)), some (.ref st), some (.ref pp), some (.ref lp), some (.int n), some (.int r), w7, some (.int x), some (.int l), w10, w11, some v12, some v15, w14, w15, w16] ∧ Same HF G)
      ⟨w7, w14, w15, w16, rfl, Same.refl HF⟩ (fun _ σ G _ ⟨_, _, _, _, _, mG⟩ => mG.seq (SqL.of f5)) ?_ ?_
    · rintro t y σ G ht ⟨w7, w14, w15, w16, rfl, mG⟩
      obtain ⟨qq, qd, nv, s', ov, dv, lv, rfl, hq, hd, oV, hs, hcase⟩ : ∃ (qq qd : Addr) (nv : V) (s' : Str) (ov : V) (dv : PyData) (lv : Int), y = .ref qq ∧ HF qq = some (.tup [nv, v15, .ref qd]) ∧ HF qd = some (.tup [.str s', ov]) ∧ OddV HF lv ov dv ∧ PyData.canLay0 (.str s') = true ∧
          ((s' = "number" ∧ ov = nv ∧ OddV HF 0 nv dv) ∨ (s' = "start" ∧ ov = v15 ∧ nv = .int n)) := by
        have hm := List.mem_of_getElem? ht
        simp only [List.mem_cons, List.not_mem_nil, or_false] at hm
        rcases hm with rfl | rfl
        · exact ⟨q2, q1, v12, "number", v12, dO, 0, rfl, a2, a1, oOF, by decide +kernel, .inl ⟨rfl, rfl, oOF⟩⟩
        · exact ⟨q4, q3, .int n, "start", v15, dW, 1, rfl, a4, a3, oWF, by decide +kernel, .inr ⟨rfl, rfl, rfl⟩⟩
      refine ⟨qq, _, rfl, SqT.of (mG _ _ hq), rfl, ?_⟩
      walk_at "rd"
      refine ⟨lp, L, nv, v15, rfl, avF.same mG, ?_⟩
      rcases hcase with hcase | hcase
      case' inl =>
        obtain ⟨rfl, rfl, oN⟩ := hcase
        refine .inl ⟨(oN.same mG).bad, fun tt G2 mm et => ?_⟩
      case' inr =>
        obtain ⟨rfl, rfl, rfl⟩ := hcase
        refine .inr ⟨⟨n, rfl, by omega⟩, (oWF.same mG).bad, fun tt G2 mm et => ?_⟩
      all_goals
        have oE := (oV.same mG).same mm
        obtain ⟨la1, la2⟩ := oE.lay
        obtain ⟨ty, bb, tyx, kit⟩ := oE.ty (K := K)
        have sh := pair_shaped _ hs la1 la2
        have hd2 := mm _ _ (mG _ _ hd)
        walk_at "rd"
        refine ⟨_, _, .tup (SqT.of et) (.cons (.str _) (.cons oE.dp .nil)), .tup (SqT.of hd2) (.cons (.str _) (.cons oE.dp .nil)), sh, sh, ?_⟩
        rw [SeqAt.eqv_refl _ (SeqAt.canLay_of_shaped sh)]
        walk_at "rd"
        refine ⟨tt, _, _, _, rfl, rfl, SqT.of et, atI_nat (j := 1) rfl, ?_⟩
        walk_at "rd"
        refine ⟨_, .ty "bool", ty, _, bb, rfl, .ty "bool", tyx, kit, ?_⟩
        walk_at "rd"
        refine ⟨qd, _, _, _, rfl, rfl, SqT.of hd2, atI_nat (j := 1) rfl, ?_⟩
        walk_at "rd"
        refine ⟨_, .ty "bool", ty, _, bb, rfl, .ty "bool", tyx, kit, ?_⟩
        walk_at "rd"
        refine iteNS rfl ?_
        exact ⟨_, _, _, _, rfl, mG.trans mm⟩
    · rintro σ G ⟨w7, w14, w15, w16, rfl, mG⟩
      exact ⟨_, _, _, _, _, _, _, _, _, _, _, _, _, _, _, _, rfl, mHF.trans mG⟩

end
/-! ### what the top has written -/
theorem all_mk {l : PySem.W.OpenLaw} {w : World} {K : PySem.W.Frag} {h : Heap} {mg : Str → Option Value} {fa : Addr} (X : K.In h) (G : h.Ns mainGlobals mg) (hfa : mg "law" = some (.ref fa))
    {C_Average : Addr} {C_BadNumber fE_BadNumber eNBadNumber ecdBadNumber eccBadNumber eSBadNumber eNSBadNumber : Addr} {enmBadNumber eqBadNumber equBadNumber enSBadNumber eqSBadNumber emBadNumber efiBadNumber : Str} {ebsBadNumber ebsSBadNumber ebmBadNumber esuBadNumber esSBadNumber : List Value} {esnBadNumber esnSBadNumber : List Str} {eabBadNumber ehSBadNumber eaSBadNumber : Bool} {ecoBadNumber ecSBadNumber : Option Bool} {eddBadNumber edSBadNumber eodBadNumber eanBadNumber ecddBadNumber ecldBadNumber : Option Addr} {em0BadNumber em1BadNumber em2BadNumber em3BadNumber em5BadNumber ey0BadNumber ey1BadNumber ey2BadNumber ey3BadNumber ey5BadNumber : Option Value} {eocBadNumber edoBadNumber epmBadNumber ectBadNumber ecclBadNumber eclBadNumber : Value} {eosBadNumber ecsBadNumber ecslBadNumber : Array (Option Value)} {ejBadNumber : Nat} {ep1BadNumber ep2BadNumber eq1BadNumber eq2BadNumber eq3BadNumber eq4BadNumber eq5BadNumber eq6BadNumber eq7BadNumber eq8BadNumber eq9BadNumber eqxBadNumber : Pos} {evsBadNumber : Array Value} {etfBadNumber : Tok} {enwBadNumber : String} {C_BadStart fE_BadStart eNBadStart ecdBadStart eccBadStart eSBadStart eNSBadStart : Addr} {enmBadStart eqBadStart equBadStart enSBadStart eqSBadStart emBadStart efiBadStart : Str} {ebsBadStart ebsSBadStart ebmBadStart esuBadStart esSBadStart : List Value} {esnBadStart esnSBadStart : List Str} {eabBadStart ehSBadStart eaSBadStart : Bool} {ecoBadStart ecSBadStart : Option Bool} {eddBadStart edSBadStart eodBadStart eanBadStart ecddBadStart ecldBadStart : Option Addr} {em0BadStart em1BadStart em2BadStart em3BadStart em5BadStart ey0BadStart ey1BadStart ey2BadStart ey3BadStart ey5BadStart : Option Value} {eocBadStart edoBadStart epmBadStart ectBadStart ecclBadStart eclBadStart : Value} {eosBadStart ecsBadStart ecslBadStart : Array (Option Value)} {ejBadStart : Nat} {ep1BadStart ep2BadStart eq1BadStart eq2BadStart eq3BadStart eq4BadStart eq5BadStart eq6BadStart eq7BadStart eq8BadStart eq9BadStart eqxBadStart : Pos} {evsBadStart : Array Value} {etfBadStart : Tok} {enwBadStart : String} {f0 : Addr} {od0 an0 : Option Addr} {sl0 : Array (Option Value)} {oc0 kV0 dc0 pm0 cd0 ct0 : Value} {f1 : Addr} {od1 an1 : Option Addr} {sl1 : Array (Option Value)} {oc1 kV1 dc1 pm1 cd1 ct1 : Value} {f2 : Addr} {od2 an2 : Option Addr} {sl2 : Array (Option Value)} {oc2 kV2 dc2 pm2 cd2 ct2 : Value} {f3 : Addr} {od3 an3 : Option Addr} {sl3 : Array (Option Value)} {oc3 kV3 dc3 pm3 cd3 ct3 : Value} {f4 : Addr} {od4 an4 : Option Addr} {sl4 : Array (Option Value)} {oc4 kV4 dc4 pm4 cd4 ct4 : Value} {f5 : Addr} {od5 an5 : Option Addr} {sl5 : Array (Option Value)} {oc5 kV5 dc5 pm5 cd5 ct5 : Value} {f6 : Addr} {od6 an6 : Option Addr} {sl6 : Array (Option Value)} {oc6 kV6 dc6 pm6 cd6 ct6 : Value} {f7 : Addr} {od7 an7 : Option Addr} {sl7 : Array (Option Value)} {oc7 kV7 dc7 pm7 cd7 ct7 : Value} {f8 : Addr} {od8 an8 : Option Addr} {sl8 : Array (Option Value)} {oc8 kV8 dc8 pm8 cd8 ct8 : Value} {f9 : Addr} {od9 an9 : Option Addr} {sl9 : Array (Option Value)} {oc9 kV9 dc9 pm9 cd9 ct9 : Value} {f10 : Addr} {od10 an10 : Option Addr} {sl10 : Array (Option Value)} {oc10 kV10 dc10 pm10 cd10 ct10 : Value} {f11 : Addr} {od11 an11 : Option Addr} {sl11 : Array (Option Value)} {oc11 kV11 dc11 pm11 cd11 ct11 : Value} {f12 : Addr} {od12 an12 : Option Addr} {sl12 : Array (Option Value)} {oc12 kV12 dc12 pm12 cd12 ct12 : Value} {f13 : Addr} {od13 an13 : Option Addr} {sl13 : Array (Option Value)} {oc13 kV13 dc13 pm13 cd13 ct13 : Value} {f14 : Addr} {od14 an14 : Option Addr} {sl14 : Array (Option Value)} {oc14 kV14 dc14 pm14 cd14 ct14 : Value} {f15 : Addr} {od15 an15 : Option Addr} {sl15 : Array (Option Value)} {oc15 kV15 dc15 pm15 cd15 ct15 : Value} {f16 : Addr} {od16 an16 : Option Addr} {sl16 : Array (Option Value)} {oc16 kV16 dc16 pm16 cd16 ct16 : Value} {T16 : Addr} {dT16 : Option Addr} {nT16 : Nat} {sT16 : Array (Option Value)} {tT16_0 : Tok} {tT16_1 : Tok} {f17 : Addr} {od17 an17 : Option Addr} {sl17 : Array (Option Value)} {oc17 kV17 dc17 pm17 cd17 ct17 : Value} {f18 : Addr} {od18 an18 : Option Addr} {sl18 : Array (Option Value)} {oc18 kV18 dc18 pm18 cd18 ct18 : Value} {f19 : Addr} {od19 an19 : Option Addr} {sl19 : Array (Option Value)} {oc19 kV19 dc19 pm19 cd19 ct19 : Value} {f20 : Addr} {od20 an20 : Option Addr} {sl20 : Array (Option Value)} {oc20 kV20 dc20 pm20 cd20 ct20 : Value} {f21 : Addr} {od21 an21 : Option Addr} {sl21 : Array (Option Value)} {oc21 kV21 dc21 pm21 cd21 ct21 : Value} {f22 : Addr} {od22 an22 : Option Addr} {sl22 : Array (Option Value)} {oc22 kV22 dc22 pm22 cd22 ct22 : Value} {f23 : Addr} {od23 an23 : Option Addr} {sl23 : Array (Option Value)} {oc23 kV23 dc23 pm23 cd23 ct23 : Value} {f24 : Addr} {od24 an24 : Option Addr} {sl24 : Array (Option Value)} {oc24 kV24 dc24 pm24 cd24 ct24 : Value} {f25 : Addr} {od25 an25 : Option Addr} {sl25 : Array (Option Value)} {oc25 kV25 dc25 pm25 cd25 ct25 : Value} {A_LOOKS : Addr} {dC_LOOKS : Option Addr} {nC_LOOKS : Nat} {sC_LOOKS : Array (Option Value)} {tC_LOOKS_0 tC_LOOKS_1 : Tok} {A_MENDS : Addr} {dC_MENDS : Option Addr} {nC_MENDS : Nat} {sC_MENDS : Array (Option Value)} {tC_MENDS_0 tC_MENDS_1 tC_MENDS_2 tC_MENDS_3 : Tok} {tC_MOST_WEIGHT : Tok} {A_STOPS : Addr} {dC_STOPS : Option Addr} {nC_STOPS : Nat} {sC_STOPS : Array (Option Value)} {tC_STOPS_0 tC_STOPS_1 tC_STOPS_2 tC_STOPS_3 tC_STOPS_4 tC_STOPS_5 tC_STOPS_6 : Tok} {A_TELLINGS : Addr} {dC_TELLINGS : Option Addr} {nC_TELLINGS : Nat} {sC_TELLINGS : Array (Option Value)} {tC_TELLINGS_0 tC_TELLINGS_1 tC_TELLINGS_2 tC_TELLINGS_3 : Tok}
    (aAverage : PySem.W.nsIn K mainGlobals "Average" = some (some (.ref C_Average)))
    (pgAverage : PySem.W.plainGet K C_Average Str.empty = true)
    (hdAverage : PySem.W.hasDictIn K C_Average = true)
    (poAverage : PySem.W.plainOver K C_Average = true)
    (saAverage : PySem.W.findIn K (.ref C_Average) "__setattr__" = some (some (.builtin "object.__setattr__")))
    (mkAverage : PySem.W.makesIn K C_Average = true)
    (kcAverage : PySem.W.keepIn K (.ref C_Average) = true)
    (nAk : PySem.W.findIn K (.ref C_Average) "k" = some none)
    (nAa : PySem.W.findIn K (.ref C_Average) "a" = some none)
    (nAc : PySem.W.findIn K (.ref C_Average) "c" = some none)
    (nAd : PySem.W.findIn K (.ref C_Average) "d" = some none)
    (nAstop : PySem.W.findIn K (.ref C_Average) "stop" = some none)
    (nAtold : PySem.W.findIn K (.ref C_Average) "told" = some none)
    (nAmend : PySem.W.findIn K (.ref C_Average) "mend" = some none)
    (E_BadNumber_aC : PySem.W.nsIn K mainGlobals "BadNumber" = some (some (.ref C_BadNumber)))
    (E_BadNumber_xC : K.lookup C_BadNumber = some (PySem.excClassObj enmBadNumber eqBadNumber C_BadNumber eNBadNumber ebsBadNumber (.ref eSBadNumber :: ebmBadNumber) true esnBadNumber esuBadNumber eabBadNumber ecoBadNumber eddBadNumber em0BadNumber em1BadNumber em2BadNumber em3BadNumber em5BadNumber "ValueError.__new__"))
    (E_BadNumber_bC : PySem.HandSPX.refsVE ebmBadNumber = true)
    (E_BadNumber_xS : K.lookup eSBadNumber = some (PySem.excClassObj enSBadNumber eqSBadNumber eSBadNumber eNSBadNumber ebsSBadNumber ebmBadNumber ehSBadNumber esnSBadNumber esSBadNumber eaSBadNumber ecSBadNumber edSBadNumber ey0BadNumber ey1BadNumber ey2BadNumber ey3BadNumber ey5BadNumber enwBadNumber))
    (E_BadNumber_sa : PySem.W.findIn K (.ref C_BadNumber) "__setattr__" = some (some (.builtin "object.__setattr__")))
    (E_BadNumber_ga : PySem.W.findIn K (.ref C_BadNumber) "__getattribute__" = some (some (.builtin "BaseException.__getattribute__")))
    (E_BadNumber_gg : PySem.W.findIn K (.ref C_BadNumber) "__getattr__" = some none)
    (E_BadNumber_nb : PySem.W.findIn K (.ref C_BadNumber) "value" = some none)
    (E_BadNumber_iC : PySem.W.findIn K (.ref C_BadNumber) "__init__" = some (some (.ref fE_BadNumber)))
    (E_BadNumber_tI : PySem.W.typeIn K (.ref fE_BadNumber) = some (.type "function"))
    (E_BadNumber_kC : PySem.W.keepIn K (.ref C_BadNumber) = true)
    (E_BadNumber_eC : PySem.W.subIn K (.ref C_BadNumber) (.type "BaseException") = some true)
    (E_BadNumber_tC : PySem.W.typeIn K (.ref C_BadNumber) = some (.type "type"))
    (E_BadNumber_hC : PySem.W.hasDictIn K C_BadNumber = true)
    (E_BadNumber_cC : PySem.W.isClsIn K C_BadNumber = true)
    (E_BadNumber_sC : PySem.W.subIn K (.ref C_BadNumber) (.ref C_BadNumber) = some true)
    (E_BadNumber_mC : PySem.W.mroIn K C_BadNumber (.ref C_BadNumber) = some true)
    (E_BadNumber_vC : PySem.W.subIn K (.ref C_BadNumber) (.type "ValueError") = some true)
    (E_BadNumber_uC : PySem.W.findIn K (.ref eSBadNumber) "__init__" = some (some (.builtin "ValueError.__init__")))
    (E_BadNumber_anyC : PySem.W.nsIn K cStatics "thirdparty.any" = some none)
    (E_BadNumber_sup : PySem.W.nsIn K mainGlobals "super" = some none)
    (E_BadNumber_top : (l.prog.main.scope.names.lookup ("super" : Str)).isSome = false)
    (E_BadNumber_lI : K.lookup fE_BadNumber = some ⟨eocBadNumber, eodBadNumber, .func (PySem.W.ksFn "__init__" equBadNumber (PySem.QErr.eA "value" ep1BadNumber ep2BadNumber) (PySem.QErr.eB "value" emBadNumber ejBadNumber eq1BadNumber eq2BadNumber eq3BadNumber eq4BadNumber eq5BadNumber eq6BadNumber eq7BadNumber eq8BadNumber eq9BadNumber eqxBadNumber) (PySem.QErr.eS "value") .none .none edoBadNumber epmBadNumber eanBadNumber (.ref ecdBadNumber) ectBadNumber eccBadNumber), eosBadNumber⟩)
    (E_BadNumber_cI : PySem.W.codeIn K (.ref ecdBadNumber) equBadNumber = true)
    (E_BadNumber_lcd : K.lookup ecdBadNumber = some ⟨ecclBadNumber, ecddBadNumber, .fields evsBadNumber, ecsBadNumber⟩)
    (E_BadNumber_hvs : evsBadNumber[2]? = some (.str efiBadNumber etfBadNumber))
    (E_BadNumber_hfile : ((l.prog.main.file : Str) == efiBadNumber) = true)
    (E_BadNumber_lcc : K.lookup eccBadNumber = some ⟨eclBadNumber, ecldBadNumber, .cell (some (.ref C_BadNumber)), ecslBadNumber⟩)
    (E_BadNumber_same : (eq3BadNumber.endLine == eq5BadNumber.line) = true)
    (E_BadStart_aC : PySem.W.nsIn K mainGlobals "BadStart" = some (some (.ref C_BadStart)))
    (E_BadStart_xC : K.lookup C_BadStart = some (PySem.excClassObj enmBadStart eqBadStart C_BadStart eNBadStart ebsBadStart (.ref eSBadStart :: ebmBadStart) true esnBadStart esuBadStart eabBadStart ecoBadStart eddBadStart em0BadStart em1BadStart em2BadStart em3BadStart em5BadStart "ValueError.__new__"))
    (E_BadStart_bC : PySem.HandSPX.refsVE ebmBadStart = true)
    (E_BadStart_xS : K.lookup eSBadStart = some (PySem.excClassObj enSBadStart eqSBadStart eSBadStart eNSBadStart ebsSBadStart ebmBadStart ehSBadStart esnSBadStart esSBadStart eaSBadStart ecSBadStart edSBadStart ey0BadStart ey1BadStart ey2BadStart ey3BadStart ey5BadStart enwBadStart))
    (E_BadStart_sa : PySem.W.findIn K (.ref C_BadStart) "__setattr__" = some (some (.builtin "object.__setattr__")))
    (E_BadStart_ga : PySem.W.findIn K (.ref C_BadStart) "__getattribute__" = some (some (.builtin "BaseException.__getattribute__")))
    (E_BadStart_gg : PySem.W.findIn K (.ref C_BadStart) "__getattr__" = some none)
    (E_BadStart_nb : PySem.W.findIn K (.ref C_BadStart) "value" = some none)
    (E_BadStart_iC : PySem.W.findIn K (.ref C_BadStart) "__init__" = some (some (.ref fE_BadStart)))
    (E_BadStart_tI : PySem.W.typeIn K (.ref fE_BadStart) = some (.type "function"))
    (E_BadStart_kC : PySem.W.keepIn K (.ref C_BadStart) = true)
    (E_BadStart_eC : PySem.W.subIn K (.ref C_BadStart) (.type "BaseException") = some true)
    (E_BadStart_tC : PySem.W.typeIn K (.ref C_BadStart) = some (.type "type"))
    (E_BadStart_hC : PySem.W.hasDictIn K C_BadStart = true)
    (E_BadStart_cC : PySem.W.isClsIn K C_BadStart = true)
    (E_BadStart_sC : PySem.W.subIn K (.ref C_BadStart) (.ref C_BadStart) = some true)
    (E_BadStart_mC : PySem.W.mroIn K C_BadStart (.ref C_BadStart) = some true)
    (E_BadStart_vC : PySem.W.subIn K (.ref C_BadStart) (.type "ValueError") = some true)
    (E_BadStart_uC : PySem.W.findIn K (.ref eSBadStart) "__init__" = some (some (.builtin "ValueError.__init__")))
    (E_BadStart_anyC : PySem.W.nsIn K cStatics "thirdparty.any" = some none)
    (E_BadStart_sup : PySem.W.nsIn K mainGlobals "super" = some none)
    (E_BadStart_top : (l.prog.main.scope.names.lookup ("super" : Str)).isSome = false)
    (E_BadStart_lI : K.lookup fE_BadStart = some ⟨eocBadStart, eodBadStart, .func (PySem.W.ksFn "__init__" equBadStart (PySem.QErr.eA "value" ep1BadStart ep2BadStart) (PySem.QErr.eB "value" emBadStart ejBadStart eq1BadStart eq2BadStart eq3BadStart eq4BadStart eq5BadStart eq6BadStart eq7BadStart eq8BadStart eq9BadStart eqxBadStart) (PySem.QErr.eS "value") .none .none edoBadStart epmBadStart eanBadStart (.ref ecdBadStart) ectBadStart eccBadStart), eosBadStart⟩)
    (E_BadStart_cI : PySem.W.codeIn K (.ref ecdBadStart) equBadStart = true)
    (E_BadStart_lcd : K.lookup ecdBadStart = some ⟨ecclBadStart, ecddBadStart, .fields evsBadStart, ecsBadStart⟩)
    (E_BadStart_hvs : evsBadStart[2]? = some (.str efiBadStart etfBadStart))
    (E_BadStart_hfile : ((l.prog.main.file : Str) == efiBadStart) = true)
    (E_BadStart_lcc : K.lookup eccBadStart = some ⟨eclBadStart, ecldBadStart, .cell (some (.ref C_BadStart)), ecslBadStart⟩)
    (E_BadStart_same : (eq3BadStart.endLine == eq5BadStart.line) = true)
    (X_BadStart_BadNumber : PySem.W.subIn K (.ref C_BadStart) (.ref C_BadNumber) = some false)
    (a0 : PySem.W.nsIn K mainGlobals "_law_stream" = some (some (.ref f0)))
    (l0 : K.lookup f0 = some ⟨oc0, od0, .func (PySem.W.fnOf "_law_stream" "_law_stream" (C8.fnArgs s_Lstream) (C8.fnBody s_Lstream) (C8.fnScope s_Lstream) .none kV0 dc0 pm0 an0 cd0 ct0), sl0⟩)
    (c0 : PySem.W.codeIn K cd0 "_law_stream" = true)
    (k0 : PySem.W.keepIn K (.ref f0) = true)
    (a1 : PySem.W.nsIn K mainGlobals "_law_draw" = some (some (.ref f1)))
    (l1 : K.lookup f1 = some ⟨oc1, od1, .func (PySem.W.fnOf "_law_draw" "_law_draw" (C8.fnArgs s_Ldraw) (C8.fnBody s_Ldraw) (C8.fnScope s_Ldraw) .none kV1 dc1 pm1 an1 cd1 ct1), sl1⟩)
    (c1 : PySem.W.codeIn K cd1 "_law_draw" = true)
    (k1 : PySem.W.keepIn K (.ref f1) = true)
    (a2 : PySem.W.nsIn K mainGlobals "_law_pick" = some (some (.ref f2)))
    (l2 : K.lookup f2 = some ⟨oc2, od2, .func (PySem.W.fnOf "_law_pick" "_law_pick" (C8.fnArgs s_Lpick) (C8.fnBody s_Lpick) (C8.fnScope s_Lpick) .none kV2 dc2 pm2 an2 cd2 ct2), sl2⟩)
    (c2 : PySem.W.codeIn K cd2 "_law_pick" = true)
    (k2 : PySem.W.keepIn K (.ref f2) = true)
    (a3 : PySem.W.nsIn K mainGlobals "_law_power" = some (some (.ref f3)))
    (l3 : K.lookup f3 = some ⟨oc3, od3, .func (PySem.W.fnOf "_law_power" "_law_power" (C8.fnArgs s_Lpower) (C8.fnBody s_Lpower) (C8.fnScope s_Lpower) .none kV3 dc3 pm3 an3 cd3 ct3), sl3⟩)
    (c3 : PySem.W.codeIn K cd3 "_law_power" = true)
    (k3 : PySem.W.keepIn K (.ref f3) = true)
    (a4 : PySem.W.nsIn K mainGlobals "_law_weights" = some (some (.ref f4)))
    (l4 : K.lookup f4 = some ⟨oc4, od4, .func (PySem.W.fnOf "_law_weights" "_law_weights" (C8.fnArgs s_Lweights) (C8.fnBody s_Lweights) (C8.fnScope s_Lweights) .none kV4 dc4 pm4 an4 cd4 ct4), sl4⟩)
    (c4 : PySem.W.codeIn K cd4 "_law_weights" = true)
    (k4 : PySem.W.keepIn K (.ref f4) = true)
    (a5 : PySem.W.nsIn K mainGlobals "_law_parts" = some (some (.ref f5)))
    (l5 : K.lookup f5 = some ⟨oc5, od5, .func (PySem.W.fnOf "_law_parts" "_law_parts" (C8.fnArgs s_Lparts) (C8.fnBody s_Lparts) (C8.fnScope s_Lparts) .none kV5 dc5 pm5 an5 cd5 ct5), sl5⟩)
    (c5 : PySem.W.codeIn K cd5 "_law_parts" = true)
    (k5 : PySem.W.keepIn K (.ref f5) = true)
    (a6 : PySem.W.nsIn K mainGlobals "is_int" = some (some (.ref f6)))
    (l6 : K.lookup f6 = some ⟨oc6, od6, .func (PySem.W.fnOf "is_int" "is_int" (C8.fnArgs s_is_int) (C8.fnBody s_is_int) (C8.fnScope s_is_int) .none kV6 dc6 pm6 an6 cd6 ct6), sl6⟩)
    (c6 : PySem.W.codeIn K cd6 "is_int" = true)
    (k6 : PySem.W.keepIn K (.ref f6) = true)
    (a7 : PySem.W.nsIn K mainGlobals "is_from" = some (some (.ref f7)))
    (l7 : K.lookup f7 = some ⟨oc7, od7, .func (PySem.W.fnOf "is_from" "is_from" (C8.fnArgs s_is_from) (C8.fnBody s_is_from) (C8.fnScope s_is_from) .none kV7 dc7 pm7 an7 cd7 ct7), sl7⟩)
    (c7 : PySem.W.codeIn K cd7 "is_from" = true)
    (k7 : PySem.W.keepIn K (.ref f7) = true)
    (a8 : PySem.W.nsIn K mainGlobals "is_within" = some (some (.ref f8)))
    (l8 : K.lookup f8 = some ⟨oc8, od8, .func (PySem.W.fnOf "is_within" "is_within" (C8.fnArgs s_is_within) (C8.fnBody s_is_within) (C8.fnScope s_is_within) .none kV8 dc8 pm8 an8 cd8 ct8), sl8⟩)
    (c8 : PySem.W.codeIn K cd8 "is_within" = true)
    (k8 : PySem.W.keepIn K (.ref f8) = true)
    (a9 : PySem.W.nsIn K mainGlobals "require_number" = some (some (.ref f9)))
    (l9 : K.lookup f9 = some ⟨oc9, od9, .func (PySem.W.fnOf "require_number" "require_number" (C8.fnArgs s_require_number) (C8.fnBody s_require_number) (C8.fnScope s_require_number) .none kV9 dc9 pm9 an9 cd9 ct9), sl9⟩)
    (c9 : PySem.W.codeIn K cd9 "require_number" = true)
    (k9 : PySem.W.keepIn K (.ref f9) = true)
    (a10 : PySem.W.nsIn K mainGlobals "require_start" = some (some (.ref f10)))
    (l10 : K.lookup f10 = some ⟨oc10, od10, .func (PySem.W.fnOf "require_start" "require_start" (C8.fnArgs s_require_start) (C8.fnBody s_require_start) (C8.fnScope s_require_start) .none kV10 dc10 pm10 an10 cd10 ct10), sl10⟩)
    (c10 : PySem.W.codeIn K cd10 "require_start" = true)
    (k10 : PySem.W.keepIn K (.ref f10) = true)
    (a11 : PySem.W.nsIn K mainGlobals "is_word" = some (some (.ref f11)))
    (l11 : K.lookup f11 = some ⟨oc11, od11, .func (PySem.W.fnOf "is_word" "is_word" (C8.fnArgs s_is_word) (C8.fnBody s_is_word) (C8.fnScope s_is_word) .none kV11 dc11 pm11 an11 cd11 ct11), sl11⟩)
    (c11 : PySem.W.codeIn K cd11 "is_word" = true)
    (k11 : PySem.W.keepIn K (.ref f11) = true)
    (a12 : PySem.W.nsIn K mainGlobals "possible_tellings" = some (some (.ref f12)))
    (l12 : K.lookup f12 = some ⟨oc12, od12, .func (PySem.W.fnOf "possible_tellings" "possible_tellings" (C8.fnArgs s_possible_tellings) (C8.fnBody s_possible_tellings) (C8.fnScope s_possible_tellings) .none kV12 dc12 pm12 an12 cd12 ct12), sl12⟩)
    (c12 : PySem.W.codeIn K cd12 "possible_tellings" = true)
    (k12 : PySem.W.keepIn K (.ref f12) = true)
    (a13 : PySem.W.nsIn K mainGlobals "is_loop_power" = some (some (.ref f13)))
    (l13 : K.lookup f13 = some ⟨oc13, od13, .func (PySem.W.fnOf "is_loop_power" "is_loop_power" (C8.fnArgs s_is_loop_power) (C8.fnBody s_is_loop_power) (C8.fnScope s_is_loop_power) .none kV13 dc13 pm13 an13 cd13 ct13), sl13⟩)
    (c13 : PySem.W.codeIn K cd13 "is_loop_power" = true)
    (k13 : PySem.W.keepIn K (.ref f13) = true)
    (a14 : PySem.W.nsIn K mainGlobals "greatest_c" = some (some (.ref f14)))
    (l14 : K.lookup f14 = some ⟨oc14, od14, .func (PySem.W.fnOf "greatest_c" "greatest_c" (C8.fnArgs s_greatest_c) (C8.fnBody s_greatest_c) (C8.fnScope s_greatest_c) .none kV14 dc14 pm14 an14 cd14 ct14), sl14⟩)
    (c14 : PySem.W.codeIn K cd14 "greatest_c" = true)
    (k14 : PySem.W.keepIn K (.ref f14) = true)
    (a15 : PySem.W.nsIn K mainGlobals "wrong_part" = some (some (.ref f15)))
    (l15 : K.lookup f15 = some ⟨oc15, od15, .func (PySem.W.fnOf "wrong_part" "wrong_part" (C8.fnArgs s_wrong_part) (C8.fnBody s_wrong_part) (C8.fnScope s_wrong_part) .none kV15 dc15 pm15 an15 cd15 ct15), sl15⟩)
    (c15 : PySem.W.codeIn K cd15 "wrong_part" = true)
    (k15 : PySem.W.keepIn K (.ref f15) = true)
    (a16 : PySem.W.findIn K (.ref C_Average) "__init__" = some (some (.ref f16)))
    (i16 : PySem.W.isFn K (.ref f16) = true)
    (l16 : K.lookup f16 = some ⟨oc16, od16, .func (PySem.W.fnOf "__init__" "Average.__init__" (C8.fnArgs s_Average___init__) (C8.fnBody s_Average___init__) (C8.fnScope s_Average___init__) (.ref T16) kV16 dc16 pm16 an16 cd16 ct16), sl16⟩)
    (lT16 : K.lookup T16 = some ⟨.type "tuple", dT16, .seq #[.str "old" tT16_0, .str "none" tT16_1] nT16, sT16⟩)
    (c16 : PySem.W.codeIn K cd16 "Average.__init__" = true)
    (k16 : PySem.W.keepIn K (.ref f16) = true)
    (a17 : PySem.W.nsIn K mainGlobals "power" = some (some (.ref f17)))
    (l17 : K.lookup f17 = some ⟨oc17, od17, .func (PySem.W.fnOf "power" "power" (C8.fnArgs s_power) (C8.fnBody s_power) (C8.fnScope s_power) .none kV17 dc17 pm17 an17 cd17 ct17), sl17⟩)
    (c17 : PySem.W.codeIn K cd17 "power" = true)
    (k17 : PySem.W.keepIn K (.ref f17) = true)
    (a18 : PySem.W.nsIn K mainGlobals "next_guess" = some (some (.ref f18)))
    (l18 : K.lookup f18 = some ⟨oc18, od18, .func (PySem.W.fnOf "next_guess" "next_guess" (C8.fnArgs s_next_guess) (C8.fnBody s_next_guess) (C8.fnScope s_next_guess) .none kV18 dc18 pm18 an18 cd18 ct18), sl18⟩)
    (c18 : PySem.W.codeIn K cd18 "next_guess" = true)
    (k18 : PySem.W.keepIn K (.ref f18) = true)
    (a19 : PySem.W.findIn K (.ref C_Average) "step" = some (some (.ref f19)))
    (i19 : PySem.W.isFn K (.ref f19) = true)
    (l19 : K.lookup f19 = some ⟨oc19, od19, .func (PySem.W.fnOf "step" "Average.step" (C8.fnArgs s_Average_step) (C8.fnBody s_Average_step) (C8.fnScope s_Average_step) .none kV19 dc19 pm19 an19 cd19 ct19), sl19⟩)
    (c19 : PySem.W.codeIn K cd19 "Average.step" = true)
    (k19 : PySem.W.keepIn K (.ref f19) = true)
    (a20 : PySem.W.nsIn K mainGlobals "_law_refused" = some (some (.ref f20)))
    (l20 : K.lookup f20 = some ⟨oc20, od20, .func (PySem.W.fnOf "_law_refused" "_law_refused" (C8.fnArgs s_Lrefused) (C8.fnBody s_Lrefused) (C8.fnScope s_Lrefused) .none kV20 dc20 pm20 an20 cd20 ct20), sl20⟩)
    (c20 : PySem.W.codeIn K cd20 "_law_refused" = true)
    (k20 : PySem.W.keepIn K (.ref f20) = true)
    (a21 : PySem.W.nsIn K mainGlobals "_law_loop" = some (some (.ref f21)))
    (l21 : K.lookup f21 = some ⟨oc21, od21, .func (PySem.W.fnOf "_law_loop" "_law_loop" (C8.fnArgs s_Lloop) (C8.fnBody s_Lloop) (C8.fnScope s_Lloop) .none kV21 dc21 pm21 an21 cd21 ct21), sl21⟩)
    (c21 : PySem.W.codeIn K cd21 "_law_loop" = true)
    (k21 : PySem.W.keepIn K (.ref f21) = true)
    (a22 : PySem.W.nsIn K mainGlobals "_law_led" = some (some (.ref f22)))
    (l22 : K.lookup f22 = some ⟨oc22, od22, .func (PySem.W.fnOf "_law_led" "_law_led" (C8.fnArgs s_Lled) (C8.fnBody s_Lled) (C8.fnScope s_Lled) .none kV22 dc22 pm22 an22 cd22 ct22), sl22⟩)
    (c22 : PySem.W.codeIn K cd22 "_law_led" = true)
    (k22 : PySem.W.keepIn K (.ref f22) = true)
    (a23 : PySem.W.nsIn K mainGlobals "_law_root" = some (some (.ref f23)))
    (l23 : K.lookup f23 = some ⟨oc23, od23, .func (PySem.W.fnOf "_law_root" "_law_root" (C8.fnArgs s_Lroot) (C8.fnBody s_Lroot) (C8.fnScope s_Lroot) .none kV23 dc23 pm23 an23 cd23 ct23), sl23⟩)
    (c23 : PySem.W.codeIn K cd23 "_law_root" = true)
    (k23 : PySem.W.keepIn K (.ref f23) = true)
    (a24 : PySem.W.nsIn K mainGlobals "_law_number" = some (some (.ref f24)))
    (l24 : K.lookup f24 = some ⟨oc24, od24, .func (PySem.W.fnOf "_law_number" "_law_number" (C8.fnArgs s_Lnumber) (C8.fnBody s_Lnumber) (C8.fnScope s_Lnumber) .none kV24 dc24 pm24 an24 cd24 ct24), sl24⟩)
    (c24 : PySem.W.codeIn K cd24 "_law_number" = true)
    (k24 : PySem.W.keepIn K (.ref f24) = true)
    (a25 : PySem.W.nsIn K mainGlobals "law" = some (some (.ref f25)))
    (l25 : K.lookup f25 = some ⟨oc25, od25, .func (PySem.W.fnOf "law" "law" (C8.fnArgs s_law) (C8.fnBody s_law) (C8.fnScope s_law) .none kV25 dc25 pm25 an25 cd25 ct25), sl25⟩)
    (c25 : PySem.W.codeIn K cd25 "law" = true)
    (k25 : PySem.W.keepIn K (.ref f25) = true)
    (z_abs : PySem.W.nsIn K mainGlobals "abs" = some none)
    (z_bool : PySem.W.nsIn K mainGlobals "bool" = some none)
    (z_int : PySem.W.nsIn K mainGlobals "int" = some none)
    (z_isinstance : PySem.W.nsIn K mainGlobals "isinstance" = some none)
    (z_len : PySem.W.nsIn K mainGlobals "len" = some none)
    (z_max : PySem.W.nsIn K mainGlobals "max" = some none)
    (z_min : PySem.W.nsIn K mainGlobals "min" = some none)
    (z_range : PySem.W.nsIn K mainGlobals "range" = some none)
    (z_str : PySem.W.nsIn K mainGlobals "str" = some none)
    (g_LOOKS : PySem.W.nsIn K mainGlobals "LOOKS" = some (some (.ref A_LOOKS)))
    (l_LOOKS : K.lookup A_LOOKS = some ⟨.type "tuple", dC_LOOKS, .seq #[.str "under" tC_LOOKS_0, .str "held" tC_LOOKS_1] nC_LOOKS, sC_LOOKS⟩)
    (g_MENDS : PySem.W.nsIn K mainGlobals "MENDS" = some (some (.ref A_MENDS)))
    (l_MENDS : K.lookup A_MENDS = some ⟨.type "tuple", dC_MENDS, .seq #[.str "none" tC_MENDS_0, .str "down" tC_MENDS_1, .str "up" tC_MENDS_2, .str "both" tC_MENDS_3] nC_MENDS, sC_MENDS⟩)
    (g_MOST_WEIGHT : PySem.W.nsIn K mainGlobals "MOST_WEIGHT" = some (some (.int 6 tC_MOST_WEIGHT)))
    (g_STOPS : PySem.W.nsIn K mainGlobals "STOPS" = some (some (.ref A_STOPS)))
    (l_STOPS : K.lookup A_STOPS = some ⟨.type "tuple", dC_STOPS, .seq #[.str "notless" tC_STOPS_0, .str "equal" tC_STOPS_1, .str "near1" tC_STOPS_2, .str "near2" tC_STOPS_3, .str "back" tC_STOPS_4, .str "under" tC_STOPS_5, .str "held" tC_STOPS_6] nC_STOPS, sC_STOPS⟩)
    (g_TELLINGS : PySem.W.nsIn K mainGlobals "TELLINGS" = some (some (.ref A_TELLINGS)))
    (l_TELLINGS : K.lookup A_TELLINGS = some ⟨.type "tuple", dC_TELLINGS, .seq #[.str "old" tC_TELLINGS_0, .str "new" tC_TELLINGS_1, .str "less" tC_TELLINGS_2, .str "more" tC_TELLINGS_3] nC_TELLINGS, sC_TELLINGS⟩) :
    ∃ fd : FuncData, (∀ (s : Shared) (v : Value), BindsTo s fd ⟨[v], []⟩ [("_law_script", v)]) ∧ ∀ base : Heap, K.In base → base.Ns mainGlobals mg → FnOk l.prog w K mg base C8.CX0 9 fa fd ["_law_script"] (spLaw K) := by
  have e := hfa.symm.trans (PySem.W.mg_of X G a25)
  cases e
  have T : Txt K mg := { b_abs := PySem.W.mg_none_of X G z_abs, b_bool := PySem.W.mg_none_of X G z_bool, b_int := PySem.W.mg_none_of X G z_int, b_isinstance := PySem.W.mg_none_of X G z_isinstance, b_len := PySem.W.mg_none_of X G z_len, b_max := PySem.W.mg_none_of X G z_max, b_min := PySem.W.mg_none_of X G z_min, b_range := PySem.W.mg_none_of X G z_range, b_str := PySem.W.mg_none_of X G z_str, c_LOOKS := ⟨A_LOOKS, PySem.W.mg_of X G g_LOOKS, fun _ => .inr ⟨_, _, _, l_LOOKS, rfl, rfl, (by show 2 ≤ sizeLine; decide), .cons ⟨_, rfl⟩ (.cons ⟨_, rfl⟩ (.nil))⟩⟩, c_MENDS := ⟨A_MENDS, PySem.W.mg_of X G g_MENDS, fun _ => .inr ⟨_, _, _, l_MENDS, rfl, rfl, (by show 4 ≤ sizeLine; decide), .cons ⟨_, rfl⟩ (.cons ⟨_, rfl⟩ (.cons ⟨_, rfl⟩ (.cons ⟨_, rfl⟩ (.nil))))⟩⟩, c_MOST_WEIGHT := ⟨_, PySem.W.mg_of X G g_MOST_WEIGHT, ⟨_, rfl⟩⟩, c_STOPS := ⟨A_STOPS, PySem.W.mg_of X G g_STOPS, fun _ => .inr ⟨_, _, _, l_STOPS, rfl, rfl, (by show 7 ≤ sizeLine; decide), .cons ⟨_, rfl⟩ (.cons ⟨_, rfl⟩ (.cons ⟨_, rfl⟩ (.cons ⟨_, rfl⟩ (.cons ⟨_, rfl⟩ (.cons ⟨_, rfl⟩ (.cons ⟨_, rfl⟩ (.nil)))))))⟩⟩, c_TELLINGS := ⟨A_TELLINGS, PySem.W.mg_of X G g_TELLINGS, fun _ => .inr ⟨_, _, _, l_TELLINGS, rfl, rfl, (by show 4 ≤ sizeLine; decide), .cons ⟨_, rfl⟩ (.cons ⟨_, rfl⟩ (.cons ⟨_, rfl⟩ (.cons ⟨_, rfl⟩ (.nil))))⟩⟩ }
  have e_BadNumber : PySem.QErr.ErrTxt l.prog K mg "BadNumber" "value" C_BadNumber fE_BadNumber := QX.err_mk "BadNumber" "value" X G E_BadNumber_aC E_BadNumber_xC E_BadNumber_bC E_BadNumber_xS E_BadNumber_sa E_BadNumber_ga E_BadNumber_gg E_BadNumber_nb E_BadNumber_iC E_BadNumber_tI E_BadNumber_kC E_BadNumber_eC E_BadNumber_tC E_BadNumber_hC E_BadNumber_cC E_BadNumber_sC E_BadNumber_mC E_BadNumber_vC E_BadNumber_uC E_BadNumber_anyC E_BadNumber_sup E_BadNumber_top E_BadNumber_lI E_BadNumber_cI E_BadNumber_lcd E_BadNumber_hvs E_BadNumber_hfile E_BadNumber_lcc E_BadNumber_same
  have e_BadStart : PySem.QErr.ErrTxt l.prog K mg "BadStart" "value" C_BadStart fE_BadStart := QX.err_mk "BadStart" "value" X G E_BadStart_aC E_BadStart_xC E_BadStart_bC E_BadStart_xS E_BadStart_sa E_BadStart_ga E_BadStart_gg E_BadStart_nb E_BadStart_iC E_BadStart_tI E_BadStart_kC E_BadStart_eC E_BadStart_tC E_BadStart_hC E_BadStart_cC E_BadStart_sC E_BadStart_mC E_BadStart_vC E_BadStart_uC E_BadStart_anyC E_BadStart_sup E_BadStart_top E_BadStart_lI E_BadStart_cI E_BadStart_lcd E_BadStart_hvs E_BadStart_hfile E_BadStart_lcc E_BadStart_same
  have x_BadStart_BadNumber : PySem.W.exmOne K (.ref C_BadStart) (.ref C_BadNumber) = some false := QX.exm_of E_BadNumber_eC E_BadNumber_cC E_BadNumber_tC X_BadStart_BadNumber
  have cl_Average : Cls K C_Average := ⟨pgAverage, hdAverage, poAverage, saAverage⟩
  have A_ : AvgTxt K C_Average := ⟨cl_Average, nAk, nAa, nAc, nAd, nAstop, nAtold, nAmend⟩
  have F0 : C8.Def K mg "_law_stream" s_Lstream f0 _ := ⟨⟨⟨_, _, _, _, _, _, _, _, _, _, rfl, l0, c0⟩⟩, PySem.W.mg_of X G a0, k0⟩
  have b0 := C8.Fun.binds F0.fn rfl (ps := ["_law_script", "_law_k"]) fun _ _ _ _ _ _ us hl => match us, hl with | [_, _], _ => rfl
  have F1 : C8.Def K mg "_law_draw" s_Ldraw f1 _ := ⟨⟨⟨_, _, _, _, _, _, _, _, _, _, rfl, l1, c1⟩⟩, PySem.W.mg_of X G a1, k1⟩
  have b1 := C8.Fun.binds F1.fn rfl (ps := ["_law_stream_here", "_law_many"]) fun _ _ _ _ _ _ us hl => match us, hl with | [_, _], _ => rfl
  have F2 : C8.Def K mg "_law_pick" s_Lpick f2 _ := ⟨⟨⟨_, _, _, _, _, _, _, _, _, _, rfl, l2, c2⟩⟩, PySem.W.mg_of X G a2, k2⟩
  have b2 := C8.Fun.binds F2.fn rfl (ps := ["_law_stream_here", "_law_things"]) fun _ _ _ _ _ _ us hl => match us, hl with | [_, _], _ => rfl
  have F3 : C8.Def K mg "_law_power" s_Lpower f3 _ := ⟨⟨⟨_, _, _, _, _, _, _, _, _, _, rfl, l3, c3⟩⟩, PySem.W.mg_of X G a3, k3⟩
  have b3 := C8.Fun.binds F3.fn rfl (ps := ["_law_x", "_law_k"]) fun _ _ _ _ _ _ us hl => match us, hl with | [_, _], _ => rfl
  have F4 : C8.Def K mg "_law_weights" s_Lweights f4 _ := ⟨⟨⟨_, _, _, _, _, _, _, _, _, _, rfl, l4, c4⟩⟩, PySem.W.mg_of X G a4, k4⟩
  have b4 := C8.Fun.binds F4.fn rfl (ps := ["_law_k"]) fun _ _ _ _ _ _ us hl => match us, hl with | [_], _ => rfl
  have F5 : C8.Def K mg "_law_parts" s_Lparts f5 _ := ⟨⟨⟨_, _, _, _, _, _, _, _, _, _, rfl, l5, c5⟩⟩, PySem.W.mg_of X G a5, k5⟩
  have b5 := C8.Fun.binds F5.fn rfl (ps := ["_law_stream_here"]) fun _ _ _ _ _ _ us hl => match us, hl with | [_], _ => rfl
  have F6 : C8.Def K mg "is_int" s_is_int f6 _ := ⟨⟨⟨_, _, _, _, _, _, _, _, _, _, rfl, l6, c6⟩⟩, PySem.W.mg_of X G a6, k6⟩
  have b6 := C8.Fun.binds F6.fn rfl (ps := ["value"]) fun _ _ _ _ _ _ us hl => match us, hl with | [_], _ => rfl
  have F7 : C8.Def K mg "is_from" s_is_from f7 _ := ⟨⟨⟨_, _, _, _, _, _, _, _, _, _, rfl, l7, c7⟩⟩, PySem.W.mg_of X G a7, k7⟩
  have b7 := C8.Fun.binds F7.fn rfl (ps := ["value", "least"]) fun _ _ _ _ _ _ us hl => match us, hl with | [_, _], _ => rfl
  have F8 : C8.Def K mg "is_within" s_is_within f8 _ := ⟨⟨⟨_, _, _, _, _, _, _, _, _, _, rfl, l8, c8⟩⟩, PySem.W.mg_of X G a8, k8⟩
  have b8 := C8.Fun.binds F8.fn rfl (ps := ["value", "least", "greatest"]) fun _ _ _ _ _ _ us hl => match us, hl with | [_, _, _], _ => rfl
  have F9 : C8.Def K mg "require_number" s_require_number f9 _ := ⟨⟨⟨_, _, _, _, _, _, _, _, _, _, rfl, l9, c9⟩⟩, PySem.W.mg_of X G a9, k9⟩
  have b9 := C8.Fun.binds F9.fn rfl (ps := ["n"]) fun _ _ _ _ _ _ us hl => match us, hl with | [_], _ => rfl
  have F10 : C8.Def K mg "require_start" s_require_start f10 _ := ⟨⟨⟨_, _, _, _, _, _, _, _, _, _, rfl, l10, c10⟩⟩, PySem.W.mg_of X G a10, k10⟩
  have b10 := C8.Fun.binds F10.fn rfl (ps := ["start"]) fun _ _ _ _ _ _ us hl => match us, hl with | [_], _ => rfl
  have F11 : C8.Def K mg "is_word" s_is_word f11 _ := ⟨⟨⟨_, _, _, _, _, _, _, _, _, _, rfl, l11, c11⟩⟩, PySem.W.mg_of X G a11, k11⟩
  have b11 := C8.Fun.binds F11.fn rfl (ps := ["value", "words"]) fun _ _ _ _ _ _ us hl => match us, hl with | [_, _], _ => rfl
  have F12 : C8.Def K mg "possible_tellings" s_possible_tellings f12 _ := ⟨⟨⟨_, _, _, _, _, _, _, _, _, _, rfl, l12, c12⟩⟩, PySem.W.mg_of X G a12, k12⟩
  have b12 := C8.Fun.binds F12.fn rfl (ps := ["stop"]) fun _ _ _ _ _ _ us hl => match us, hl with | [_], _ => rfl
  have F13 : C8.Def K mg "is_loop_power" s_is_loop_power f13 _ := ⟨⟨⟨_, _, _, _, _, _, _, _, _, _, rfl, l13, c13⟩⟩, PySem.W.mg_of X G a13, k13⟩
  have b13 := C8.Fun.binds F13.fn rfl (ps := ["k"]) fun _ _ _ _ _ _ us hl => match us, hl with | [_], _ => rfl
  have F14 : C8.Def K mg "greatest_c" s_greatest_c f14 _ := ⟨⟨⟨_, _, _, _, _, _, _, _, _, _, rfl, l14, c14⟩⟩, PySem.W.mg_of X G a14, k14⟩
  have b14 := C8.Fun.binds F14.fn rfl (ps := ["k", "a"]) fun _ _ _ _ _ _ us hl => match us, hl with | [_, _], _ => rfl
  have F15 : C8.Def K mg "wrong_part" s_wrong_part f15 _ := ⟨⟨⟨_, _, _, _, _, _, _, _, _, _, rfl, l15, c15⟩⟩, PySem.W.mg_of X G a15, k15⟩
  have b15 := C8.Fun.binds F15.fn rfl (ps := ["k", "a", "c", "d", "stop", "told", "mend"]) fun _ _ _ _ _ _ us hl => match us, hl with | [_, _, _, _, _, _, _], _ => rfl
  have F16 : C8.Fun K "__init__" "Average.__init__" s_Average___init__ f16 _ := ⟨⟨_, _, _, _, _, _, _, _, _, _, rfl, l16, c16⟩⟩
  have b16 := binds_full (fd := PySem.W.fnOf "__init__" "Average.__init__" (C8.fnArgs s_Average___init__) (C8.fnBody s_Average___init__) (C8.fnScope s_Average___init__) (.ref T16) kV16 dc16 pm16 an16 cd16 ct16) (ps := ["self", "k", "a", "c", "d", "stop", "told", "mend"]) lT16 rfl fun us hl => match us, hl with | [_, _, _, _, _, _, _, _], _ => ⟨_, rfl, rfl⟩
  have F17 : C8.Def K mg "power" s_power f17 _ := ⟨⟨⟨_, _, _, _, _, _, _, _, _, _, rfl, l17, c17⟩⟩, PySem.W.mg_of X G a17, k17⟩
  have b17 := C8.Fun.binds F17.fn rfl (ps := ["base", "k"]) fun _ _ _ _ _ _ us hl => match us, hl with | [_, _], _ => rfl
  have F18 : C8.Def K mg "next_guess" s_next_guess f18 _ := ⟨⟨⟨_, _, _, _, _, _, _, _, _, _, rfl, l18, c18⟩⟩, PySem.W.mg_of X G a18, k18⟩
  have b18 := C8.Fun.binds F18.fn rfl (ps := ["loop", "n", "x"]) fun _ _ _ _ _ _ us hl => match us, hl with | [_, _, _], _ => rfl
  have F19 : C8.Fun K "step" "Average.step" s_Average_step f19 _ := ⟨⟨_, _, _, _, _, _, _, _, _, _, rfl, l19, c19⟩⟩
  have b19 := C8.Fun.binds F19 rfl (ps := ["self", "n", "x"]) fun _ _ _ _ _ _ us hl => match us, hl with | [_, _, _], _ => rfl
  have F20 : C8.Def K mg "_law_refused" s_Lrefused f20 _ := ⟨⟨⟨_, _, _, _, _, _, _, _, _, _, rfl, l20, c20⟩⟩, PySem.W.mg_of X G a20, k20⟩
  have b20 := C8.Fun.binds F20.fn rfl (ps := ["_law_loop_here", "_law_n", "_law_x"]) fun _ _ _ _ _ _ us hl => match us, hl with | [_, _, _], _ => rfl
  have F21 : C8.Def K mg "_law_loop" s_Lloop f21 _ := ⟨⟨⟨_, _, _, _, _, _, _, _, _, _, rfl, l21, c21⟩⟩, PySem.W.mg_of X G a21, k21⟩
  have b21 := C8.Fun.binds F21.fn rfl (ps := ["_law_parts_here"]) fun _ _ _ _ _ _ us hl => match us, hl with | [_], _ => rfl
  have F22 : C8.Def K mg "_law_led" s_Lled f22 _ := ⟨⟨⟨_, _, _, _, _, _, _, _, _, _, rfl, l22, c22⟩⟩, PySem.W.mg_of X G a22, k22⟩
  have b22 := C8.Fun.binds F22.fn rfl (ps := ["_law_parts_here", "_law_n", "_law_x"]) fun _ _ _ _ _ _ us hl => match us, hl with | [_, _, _], _ => rfl
  have F23 : C8.Def K mg "_law_root" s_Lroot f23 _ := ⟨⟨⟨_, _, _, _, _, _, _, _, _, _, rfl, l23, c23⟩⟩, PySem.W.mg_of X G a23, k23⟩
  have b23 := C8.Fun.binds F23.fn rfl (ps := ["_law_n", "_law_k"]) fun _ _ _ _ _ _ us hl => match us, hl with | [_, _], _ => rfl
  have F24 : C8.Def K mg "_law_number" s_Lnumber f24 _ := ⟨⟨⟨_, _, _, _, _, _, _, _, _, _, rfl, l24, c24⟩⟩, PySem.W.mg_of X G a24, k24⟩
  have b24 := C8.Fun.binds F24.fn rfl (ps := ["_law_stream_here", "_law_k"]) fun _ _ _ _ _ _ us hl => match us, hl with | [_, _], _ => rfl
  have F25 : C8.Fun K "law" "law" s_law fa _ := ⟨⟨_, _, _, _, _, _, _, _, _, _, rfl, l25, c25⟩⟩
  refine ⟨PySem.W.fnOf "law" "law" (C8.fnArgs s_law) (C8.fnBody s_law) (C8.fnScope s_law) .none kV25 dc25 pm25 an25 cd25 ct25, fun s v => .of_eq rfl, fun base _ _ => ?_⟩
  have c_Lstream : C8.Cal l.prog w K mg base 1 "_law_stream" (spStream K) [] := ok_Lstream F0 b0 T
  have c_Ldraw : C8.Cal l.prog w K mg base 1 "_law_draw" (spDraw) [] := ok_Ldraw F1 b1 T
  have c_Lpick : C8.Cal l.prog w K mg base 2 "_law_pick" (spPick K) [] := ok_Lpick F2 b2 T c_Ldraw
  have c_Lpower : C8.Cal l.prog w K mg base 1 "_law_power" (spLPow) [] := ok_Lpower F3 b3 T
  have c_Lweights : C8.Cal l.prog w K mg base 1 "_law_weights" (spWts) [] := ok_Lweights F4 b4 T
  have c_Lparts : C8.Cal l.prog w K mg base 3 "_law_parts" (spParts) [] := ok_Lparts F5 b5 T c_Lpick c_Ldraw c_Lweights
  have c_is_int : C8.Cal l.prog w K mg base 1 "is_int" (spIsInt K) [] := ok_is_int F6 b6 T
  have c_is_from : C8.Cal l.prog w K mg base 2 "is_from" (spIsFrom K) [] := ok_is_from F7 b7 T c_is_int
  have c_is_within : C8.Cal l.prog w K mg base 2 "is_within" (spIsWithin K) [] := ok_is_within F8 b8 T c_is_int
  have c_require_number : C8.Cal l.prog w K mg base 3 "require_number" (spReqNum) [] := ok_require_number F9 b9 T c_is_from
  have c_require_start : C8.Cal l.prog w K mg base 3 "require_start" (spReqStart) [] := ok_require_start F10 b10 T c_is_from
  have c_is_word : C8.Cal l.prog w K mg base 1 "is_word" (spIsWord K) [] := ok_is_word F11 b11 T
  have c_possible_tellings : C8.Cal l.prog w K mg base 1 "possible_tellings" (spTellings K) [] := ok_possible_tellings F12 b12 T
  have c_is_loop_power : C8.Cal l.prog w K mg base 3 "is_loop_power" (spIsLP K) [] := ok_is_loop_power F13 b13 T c_is_within
  have c_greatest_c : C8.Cal l.prog w K mg base 1 "greatest_c" (spGreatC) [] := ok_greatest_c F14 b14 T
  have c_wrong_part_ok : C8.Cal l.prog w K mg base 4 "wrong_part" (spWrongOk) [] := ok_wrong_part_ok F15 b15 T c_is_loop_power c_is_within c_is_word c_greatest_c c_possible_tellings
  have m_Average_ok : C8.Mak l.prog w K mg base 5 "Average" C_Average (spAvgInit C_Average) [] := ok_Average___init___ok F16 b16 ⟨mkAverage, a16, i16, kcAverage⟩ (PySem.W.mg_of X G aAverage) T A_ c_wrong_part_ok
  have c_power : C8.Cal l.prog w K mg base 5 "power" (spPow 5) [] := all_power F17 b17 T 5
  have c_next_guess : C8.Cal l.prog w K mg base 6 "next_guess" (spNext C_Average) [] := ok_next_guess F18 b18 T A_ c_power
  have k_step_ok : C8.Met l.prog w K mg base 7 C_Average "step" (spNext C_Average) [] := ok_Average_step_ok F19 b19 cl_Average ⟨a19, i19, k19⟩ T c_require_number c_require_start c_next_guess
  have c_require_number_x : QX.Cal l.prog w K mg base 3 "require_number" (spReqX K C_BadNumber 0) := ok_require_number_x F9 b9 T e_BadNumber c_is_from
  have c_require_start_x : QX.Cal l.prog w K mg base 3 "require_start" (spReqX K C_BadStart 1) := ok_require_start_x F10 b10 T e_BadStart c_is_from
  have k_step_x : QX.Met l.prog w K mg base 7 C_Average "step" (spStepX K C_Average C_BadNumber C_BadStart) := ok_Average_step_x F19 b19 cl_Average ⟨a19, i19, k19⟩ T c_require_number_x c_require_start_x c_next_guess
  have c_Lrefused : C8.Cal l.prog w K mg base 8 "_law_refused" (spRefused K C_Average C_BadNumber C_BadStart) [] := ok_Lrefused F20 b20 T e_BadNumber e_BadStart x_BadStart_BadNumber k_step_x
  have c_Lloop : C8.Cal l.prog w K mg base 7 "_law_loop" (spLoop C_Average) [] := ok_Lloop F21 b21 T m_Average_ok
  have c_Lled : C8.Cal l.prog w K mg base 2 "_law_led" (spLed) [] := ok_Lled F22 b22 T c_Lpower
  have c_Lroot : C8.Cal l.prog w K mg base 2 "_law_root" (spRoot) [] := ok_Lroot F23 b23 T c_Lpower
  have c_Lnumber : C8.Cal l.prog w K mg base 3 "_law_number" (spNumber) [] := ok_Lnumber F24 b24 T c_Ldraw c_Lpick c_Lpower
  exact ok_law F25 T c_Lstream c_Lparts c_Lroot c_Lpick c_Lloop c_Lnumber c_Ldraw c_Lrefused c_Lled k_step_ok
end Q
open PySem PySem.W PyProof.Rows
set_option maxRecDepth 100000 in
set_option maxHeartbeats 0 in
theorem PySem.Challenge.cw_floorward_k05_steps_holds : PySem.Challenge.rw_floorward_k05_steps.Holds := by
  w_on; o_law; k_head; (case hw => w_witness2)
  k_fill
  refine L2.walk_of (l := PySem.Challenge.rw_floorward_k05_steps) (n := 63) (k := 9) (x := "_law_script") (CX := fun _ => C8.CX0) (sp := fun w => Q.spLaw _) rfl (by decide) rfl ⟨rfl, by decide, by decide⟩ (fun w h Y => PySem.W.kIn_of Y) ?F (fun _ _ a ns hl _ hS => ⟨a, ns, rfl, hS, hl, fun _ => rfl⟩) fun _ _ _ _ _ z => z
  case F =>
    intro w mg fa h KX G hmg
    refine' Q.all_mk KX G hmg ?aAverage ?pgAverage ?hdAverage ?poAverage ?saAverage ?mkAverage ?kcAverage ?nAk ?nAa ?nAc ?nAd ?nAstop ?nAtold ?nAmend ?E_BadNumber_aC ?E_BadNumber_xC ?E_BadNumber_bC ?E_BadNumber_xS ?E_BadNumber_sa ?E_BadNumber_ga ?E_BadNumber_gg ?E_BadNumber_nb ?E_BadNumber_iC ?E_BadNumber_tI ?E_BadNumber_kC ?E_BadNumber_eC ?E_BadNumber_tC ?E_BadNumber_hC ?E_BadNumber_cC ?E_BadNumber_sC ?E_BadNumber_mC ?E_BadNumber_vC ?E_BadNumber_uC ?E_BadNumber_anyC ?E_BadNumber_sup ?E_BadNumber_top ?E_BadNumber_lI ?E_BadNumber_cI ?E_BadNumber_lcd ?E_BadNumber_hvs ?E_BadNumber_hfile ?E_BadNumber_lcc ?E_BadNumber_same ?E_BadStart_aC ?E_BadStart_xC ?E_BadStart_bC ?E_BadStart_xS ?E_BadStart_sa ?E_BadStart_ga ?E_BadStart_gg ?E_BadStart_nb ?E_BadStart_iC ?E_BadStart_tI ?E_BadStart_kC ?E_BadStart_eC ?E_BadStart_tC ?E_BadStart_hC ?E_BadStart_cC ?E_BadStart_sC ?E_BadStart_mC ?E_BadStart_vC ?E_BadStart_uC ?E_BadStart_anyC ?E_BadStart_sup ?E_BadStart_top ?E_BadStart_lI ?E_BadStart_cI ?E_BadStart_lcd ?E_BadStart_hvs ?E_BadStart_hfile ?E_BadStart_lcc ?E_BadStart_same ?X_BadStart_BadNumber ?a0 ?l0 ?c0 ?k0 ?a1 ?l1 ?c1 ?k1 ?a2 ?l2 ?c2 ?k2 ?a3 ?l3 ?c3 ?k3 ?a4 ?l4 ?c4 ?k4 ?a5 ?l5 ?c5 ?k5 ?a6 ?l6 ?c6 ?k6 ?a7 ?l7 ?c7 ?k7 ?a8 ?l8 ?c8 ?k8 ?a9 ?l9 ?c9 ?k9 ?a10 ?l10 ?c10 ?k10 ?a11 ?l11 ?c11 ?k11 ?a12 ?l12 ?c12 ?k12 ?a13 ?l13 ?c13 ?k13 ?a14 ?l14 ?c14 ?k14 ?a15 ?l15 ?c15 ?k15 ?a16 ?i16 ?l16 ?lT16 ?c16 ?k16 ?a17 ?l17 ?c17 ?k17 ?a18 ?l18 ?c18 ?k18 ?a19 ?i19 ?l19 ?c19 ?k19 ?a20 ?l20 ?c20 ?k20 ?a21 ?l21 ?c21 ?k21 ?a22 ?l22 ?c22 ?k22 ?a23 ?l23 ?c23 ?k23 ?a24 ?l24 ?c24 ?k24 ?a25 ?l25 ?c25 ?k25 ?z_abs ?z_bool ?z_int ?z_isinstance ?z_len ?z_max ?z_min ?z_range ?z_str ?g_LOOKS ?l_LOOKS ?g_MENDS ?l_MENDS ?g_MOST_WEIGHT ?g_STOPS ?l_STOPS ?g_TELLINGS ?l_TELLINGS
    (case aAverage => k_is)
    (case pgAverage => k_is)
    (case hdAverage => k_is)
    (case poAverage => k_is)
    (case saAverage => k_is)
    (case mkAverage => k_is)
    (case kcAverage => k_is)
    (case nAk => k_is)
    (case nAa => k_is)
    (case nAc => k_is)
    (case nAd => k_is)
    (case nAstop => k_is)
    (case nAtold => k_is)
    (case nAmend => k_is)
    (case E_BadNumber_aC => k_is)
    (case E_BadNumber_xC => k_is)
    (case E_BadNumber_bC => decide +kernel)
    (case E_BadNumber_xS => k_is)
    (case E_BadNumber_sa => k_is)
    (case E_BadNumber_ga => k_is)
    (case E_BadNumber_gg => k_is)
    (case E_BadNumber_nb => k_is)
    (case E_BadNumber_iC => k_is)
    (case E_BadNumber_tI => k_is)
    (case E_BadNumber_kC => k_is)
    (case E_BadNumber_eC => k_is)
    (case E_BadNumber_tC => k_is)
    (case E_BadNumber_hC => k_is)
    (case E_BadNumber_cC => k_is)
    (case E_BadNumber_sC => k_is)
    (case E_BadNumber_mC => k_is)
    (case E_BadNumber_vC => k_is)
    (case E_BadNumber_uC => k_is)
    (case E_BadNumber_anyC => k_is)
    (case E_BadNumber_sup => k_is)
    (case E_BadNumber_top => decide +kernel)
    (case E_BadNumber_lI => k_is)
    (case E_BadNumber_cI => k_is)
    (case E_BadNumber_lcd => k_is)
    (case E_BadNumber_hvs => rfl)
    (case E_BadNumber_hfile => rfl)
    (case E_BadNumber_lcc => k_is)
    (case E_BadNumber_same => decide)
    (case E_BadStart_aC => k_is)
    (case E_BadStart_xC => k_is)
    (case E_BadStart_bC => decide +kernel)
    (case E_BadStart_xS => k_is)
    (case E_BadStart_sa => k_is)
    (case E_BadStart_ga => k_is)
    (case E_BadStart_gg => k_is)
    (case E_BadStart_nb => k_is)
    (case E_BadStart_iC => k_is)
    (case E_BadStart_tI => k_is)
    (case E_BadStart_kC => k_is)
    (case E_BadStart_eC => k_is)
    (case E_BadStart_tC => k_is)
    (case E_BadStart_hC => k_is)
    (case E_BadStart_cC => k_is)
    (case E_BadStart_sC => k_is)
    (case E_BadStart_mC => k_is)
    (case E_BadStart_vC => k_is)
    (case E_BadStart_uC => k_is)
    (case E_BadStart_anyC => k_is)
    (case E_BadStart_sup => k_is)
    (case E_BadStart_top => decide +kernel)
    (case E_BadStart_lI => k_is)
    (case E_BadStart_cI => k_is)
    (case E_BadStart_lcd => k_is)
    (case E_BadStart_hvs => rfl)
    (case E_BadStart_hfile => rfl)
    (case E_BadStart_lcc => k_is)
    (case E_BadStart_same => decide)
    (case X_BadStart_BadNumber => k_is)
    (case a0 => k_is)
    (case l0 => k_is)
    (case c0 => k_is)
    (case k0 => k_is)
    (case a1 => k_is)
    (case l1 => k_is)
    (case c1 => k_is)
    (case k1 => k_is)
    (case a2 => k_is)
    (case l2 => k_is)
    (case c2 => k_is)
    (case k2 => k_is)
    (case a3 => k_is)
    (case l3 => k_is)
    (case c3 => k_is)
    (case k3 => k_is)
    (case a4 => k_is)
    (case l4 => k_is)
    (case c4 => k_is)
    (case k4 => k_is)
    (case a5 => k_is)
    (case l5 => k_is)
    (case c5 => k_is)
    (case k5 => k_is)
    (case a6 => k_is)
    (case l6 => k_is)
    (case c6 => k_is)
    (case k6 => k_is)
    (case a7 => k_is)
    (case l7 => k_is)
    (case c7 => k_is)
    (case k7 => k_is)
    (case a8 => k_is)
    (case l8 => k_is)
    (case c8 => k_is)
    (case k8 => k_is)
    (case a9 => k_is)
    (case l9 => k_is)
    (case c9 => k_is)
    (case k9 => k_is)
    (case a10 => k_is)
    (case l10 => k_is)
    (case c10 => k_is)
    (case k10 => k_is)
    (case a11 => k_is)
    (case l11 => k_is)
    (case c11 => k_is)
    (case k11 => k_is)
    (case a12 => k_is)
    (case l12 => k_is)
    (case c12 => k_is)
    (case k12 => k_is)
    (case a13 => k_is)
    (case l13 => k_is)
    (case c13 => k_is)
    (case k13 => k_is)
    (case a14 => k_is)
    (case l14 => k_is)
    (case c14 => k_is)
    (case k14 => k_is)
    (case a15 => k_is)
    (case l15 => k_is)
    (case c15 => k_is)
    (case k15 => k_is)
    (case a16 => k_is)
    (case i16 => k_is)
    (case l16 => k_is)
    (case lT16 => k_is)
    (case c16 => k_is)
    (case k16 => k_is)
    (case a17 => k_is)
    (case l17 => k_is)
    (case c17 => k_is)
    (case k17 => k_is)
    (case a18 => k_is)
    (case l18 => k_is)
    (case c18 => k_is)
    (case k18 => k_is)
    (case a19 => k_is)
    (case i19 => k_is)
    (case l19 => k_is)
    (case c19 => k_is)
    (case k19 => k_is)
    (case a20 => k_is)
    (case l20 => k_is)
    (case c20 => k_is)
    (case k20 => k_is)
    (case a21 => k_is)
    (case l21 => k_is)
    (case c21 => k_is)
    (case k21 => k_is)
    (case a22 => k_is)
    (case l22 => k_is)
    (case c22 => k_is)
    (case k22 => k_is)
    (case a23 => k_is)
    (case l23 => k_is)
    (case c23 => k_is)
    (case k23 => k_is)
    (case a24 => k_is)
    (case l24 => k_is)
    (case c24 => k_is)
    (case k24 => k_is)
    (case a25 => k_is)
    (case l25 => k_is)
    (case c25 => k_is)
    (case k25 => k_is)
    (case z_abs => k_is)
    (case z_bool => k_is)
    (case z_int => k_is)
    (case z_isinstance => k_is)
    (case z_len => k_is)
    (case z_max => k_is)
    (case z_min => k_is)
    (case z_range => k_is)
    (case z_str => k_is)
    (case g_LOOKS => k_is)
    (case l_LOOKS => k_is)
    (case g_MENDS => k_is)
    (case l_MENDS => k_is)
    (case g_MOST_WEIGHT => k_is)
    (case g_STOPS => k_is)
    (case l_STOPS => k_is)
    (case g_TELLINGS => k_is)
    (case l_TELLINGS => k_is)
#print axioms PySem.Challenge.cw_floorward_k05_steps_holds


