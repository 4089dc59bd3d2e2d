import PyProof.Rows.All
import Wide.All
import OpenK.AllK
import Wide.FinOn
import HandS.ForSpec
import HandS.Gcd
import HandS.IsInst
import HandS.Wide
import HandS.TupAny
import HandS.Deep
import HandS.NoneIn
import HandS.Walk
import HandS.Text
import HandS.Comp
import HandS.Steps
import HandS.HeadHook1
import HandS.RaiseMore
import HandS.SortInts
import HandS.More
import HandS.ExcInit
import HandS.ExcField
import HandS.ExcOwn
import HandS.WordsExc
import KE.GoesEnum
import HandS.Iter
import HandS.HotCalls
import KE.SortData
import KE.KTupSum
import HandS.DictEq
import HandS.Conv
import PySem.Challenge.RW_homingtrue_k11_flights
set_option Elab.async false
set_option linter.all false
set_option maxRecDepth 100000
set_option maxHeartbeats 1000000
namespace SM
open PySem PySem.Spec PyProof.Rows L2

/-! values of the reckoning, its heap -/
inductive PV where
  | non | bl (b : Bool) | int (i : Int) | str (s : List Nat) | tup (xs : List PV) | ref (n : Nat)
inductive MO where
  | lst (xs : List PV) | frz (xs : List PV) | dct (kvs : List (List Int × PV)) | dck (kvs : List (Int × PV))
abbrev MH := List MO
abbrev Loc := List (Option PV)
inductive R (α : Type) where
  | ok (a : α) (m : MH) | ex (c : String) (fs : List PV) (m : MH) | bad
inductive RS where
  | nx (l : Loc) (m : MH) | rt (x : PV) (m : MH) | bk (l : Loc) (m : MH) | ct (l : Loc) (m : MH) | ex (c : String) (fs : List PV) (l : Loc) (m : MH) | bad
def R.bind {α β : Type} (r : R α) (k : α → MH → R β) : R β := match r with
  | .ok a m => k a m
  | .ex c fs m => .ex c fs m
  | .bad => .bad
/-- the statement's end from an expression's -/
def R.then (l : Loc) (r : R α) (k : α → MH → RS) : RS := match r with
  | .ok a m => k a m
  | .ex c fs m => .ex c fs l m
  | .bad => .bad
def RS.seq (r : RS) (k : Loc → MH → RS) : RS := match r with
  | .nx l m => k l m
  | r => r
abbrev SE := Loc → MH → R PV
abbrev SB := Loc → MH → R Bool
abbrev SA := Loc → MH → R (List PV)
abbrev SS := Loc → MH → RS

/-! what stands for what -/
section
variable (K : PySem.W.Frag) (H : Hp) (φ : List Addr)
mutual
def RV : PV → V → Prop
  | .non, v => v = .non
  | .bl b, v => v = .bl b
  | .int i, v => v = .int i
  | .str s, v => v = .str ⟨s.toArray⟩
  | .tup xs, v => ∃ a vs, v = .ref a ∧ SqT K H a vs ∧ RVs xs vs
  | .ref n, v => ∃ a, φ[n]? = some a ∧ v = .ref a
def RVs : List PV → List V → Prop
  | [], vs => vs = []
  | x :: xs, vs => ∃ v r, vs = v :: r ∧ RV x v ∧ RVs xs r
end
def SqF (a : Addr) (xs : List V) : Prop := (∃ o, H a = some (.frz o (.lst xs))) ∨
  ∃ (o : Obj) (its : Array Value) (n : Nat), K.lookup a = some o ∧ o.cls = .type "list" ∧ o.dict = none ∧ o.data = .seq its n ∧ its.size ≤ sizeLine ∧ Vals xs its.toList
/-- entries of a dict -/
def RKs {κ κ' : Type} (enc : κ → κ') : List (κ × PV) → List (κ' × V) → Prop
  | [], ws => ws = []
  | p :: r, ws => ∃ v t, ws = (enc p.1, v) :: t ∧ RV K H φ p.2 v ∧ RKs enc r t
def encT (k : List Int) : List Key := k.map Sum.inl
def encK (k : Int) : Key := Sum.inl k
def RO : MO → Addr → Prop
  | .lst xs, a => ∃ vs, H a = some (.lst vs) ∧ RVs K H φ xs vs
  | .frz xs, a => ∃ vs, SqF K H a vs ∧ RVs K H φ xs vs
  | .dct kvs, a => ∃ ws, H a = some (.dT ws) ∧ RKs K H φ encT kvs ws
  | .dck kvs, a => ∃ ws, H a = some (.dK ws) ∧ RKs K H φ encK kvs ws
def MO.mut : MO → Bool
  | .frz _ => false
  | _ => true
structure RH (m : MH) : Prop where
  len : φ.length = m.length
  nd : ∀ (i j : Nat) (a : Addr) (o u : MO), φ[i]? = some a → φ[j]? = some a → m[i]? = some o → m[j]? = some u → o.mut = true → u.mut = true → i = j
  obj : ∀ (n : Nat) (a : Addr) (o : MO), φ[n]? = some a → m[n]? = some o → RO K H φ o a
def RL (l : Loc) (σ : L2.St) : Prop := l.length = σ.length ∧ ∀ (i : Nat) (x : PV), l[i]? = some (some x) → ∃ v, σ[i]? = some (some v) ∧ RV K H φ x v
end
structure Ext (K : PySem.W.Frag) (φ : List Addr) (H : Hp) (φ' : List Addr) (H' : Hp) : Prop where
  pre : ∃ e, φ' = φ ++ e
  tup : ∀ a vs, SqT K H a vs → SqT K H' a vs
section
variable {K : PySem.W.Frag} {H H' H'' : Hp} {φ φ' φ'' : List Addr}
theorem Ext.refl : Ext K φ H φ H := ⟨⟨[], by simp⟩, fun _ _ h => h⟩
theorem Ext.trans (a : Ext K φ H φ' H') (b : Ext K φ' H' φ'' H'') : Ext K φ H φ'' H'' := by
  obtain ⟨e1, h1⟩ := a.pre
  obtain ⟨e2, h2⟩ := b.pre
  exact ⟨⟨e1 ++ e2, by rw [h2, h1, List.append_assoc]⟩, fun x vs h => b.tup x vs (a.tup x vs h)⟩
theorem Ext.get (e : Ext K φ H φ' H') {n : Nat} {a : Addr} (h : φ[n]? = some a) : φ'[n]? = some a := by
  obtain ⟨w, rfl⟩ := e.pre
  have hl : n < φ.length := (List.getElem?_eq_some_iff.mp h).1
  rw [List.getElem?_append_left hl]; exact h
mutual
theorem RV.ext (e : Ext K φ H φ' H') : ∀ {x : PV} {v : V}, RV K H φ x v → RV K H' φ' x v
  | .non, _, h => h
  | .bl _, _, h => h
  | .int _, _, h => h
  | .str _, _, h => h
  | .tup xs, v, h => by
    obtain ⟨a, vs, h1, h2, h3⟩ := h
    exact ⟨a, vs, h1, e.tup _ _ h2, RVs.ext e h3⟩
  | .ref n, v, h => by
    obtain ⟨a, h1, h2⟩ := h
    exact ⟨a, e.get h1, h2⟩
theorem RVs.ext (e : Ext K φ H φ' H') : ∀ {xs : List PV} {vs : List V}, RVs K H φ xs vs → RVs K H' φ' xs vs
  | [], _, h => h
  | x :: xs, vs, h => by
    obtain ⟨v, r, h1, h2, h3⟩ := h
    exact ⟨v, r, h1, RV.ext e h2, RVs.ext e h3⟩
end
theorem RKs.ext {κ κ' : Type} {enc : κ → κ'} (e : Ext K φ H φ' H') : ∀ {kvs : List (κ × PV)} {ws : List (κ' × V)}, RKs K H φ enc kvs ws → RKs K H' φ' enc kvs ws
  | [], _, h => h
  | p :: r, _, h => by
    obtain ⟨v, t, h1, h2, h3⟩ := h
    exact ⟨v, t, h1, h2.ext e, RKs.ext e h3⟩
theorem RL.ext {l : Loc} {σ : L2.St} (e : Ext K φ H φ' H') (h : RL K H φ l σ) : RL K H' φ' l σ := ⟨h.1, fun i x hx => by
  obtain ⟨v, h1, h2⟩ := h.2 i x hx
  exact ⟨v, h1, h2.ext e⟩⟩
theorem RVs.length : ∀ {xs : List PV} {vs : List V}, RVs K H φ xs vs → vs.length = xs.length
  | [], _, h => by cases h; rfl
  | x :: xs, vs, h => by
    obtain ⟨v, r, rfl, h2, h3⟩ := h
    simp [RVs.length h3]
theorem RVs.get : ∀ {xs : List PV} {vs : List V} {i : Nat} {x : PV}, RVs K H φ xs vs → xs[i]? = some x → ∃ v, vs[i]? = some v ∧ RV K H φ x v
  | [], _, i, x, h, e => by simp at e
  | x :: xs, vs, 0, y, h, e => by
    obtain ⟨v, r, rfl, h2, h3⟩ := h
    simp at e; subst e
    exact ⟨v, by simp, h2⟩
  | x :: xs, vs, i + 1, y, h, e => by
    obtain ⟨v, r, rfl, h2, h3⟩ := h
    simp at e
    obtain ⟨w, h4, h5⟩ := RVs.get h3 e
    exact ⟨w, by simpa using h4, h5⟩
theorem RVs.append : ∀ {xs ys : List PV} {vs ws : List V}, RVs K H φ xs vs → RVs K H φ ys ws → RVs K H φ (xs ++ ys) (vs ++ ws)
  | [], _, _, _, h, g => by cases h; exact g
  | x :: xs, ys, vs, ws, h, g => by
    obtain ⟨v, r, rfl, h2, h3⟩ := h
    exact ⟨v, r ++ ws, rfl, h2, RVs.append h3 g⟩
theorem RVs.drop : ∀ {xs : List PV} {vs : List V} (n : Nat), RVs K H φ xs vs → RVs K H φ (xs.drop n) (vs.drop n)
  | _, _, 0, h => h
  | [], _, n + 1, h => by cases h; exact rfl
  | x :: xs, vs, n + 1, h => by
    obtain ⟨v, r, rfl, h2, h3⟩ := h
    exact RVs.drop n h3
theorem RVs.take : ∀ {xs : List PV} {vs : List V} (n : Nat), RVs K H φ xs vs → RVs K H φ (xs.take n) (vs.take n)
  | _, _, 0, h => by simp; exact rfl
  | [], _, n + 1, h => by cases h; exact rfl
  | x :: xs, vs, n + 1, h => by
    obtain ⟨v, r, rfl, h2, h3⟩ := h
    exact ⟨v, r.take n, rfl, h2, RVs.take n h3⟩
theorem RVs.set {y : PV} {w : V} (q : RV K H φ y w) : ∀ {xs : List PV} {vs : List V} (i : Nat), RVs K H φ xs vs → RVs K H φ (xs.set i y) (vs.set i w)
  | [], _, _, h => by cases h; exact rfl
  | x :: xs, vs, 0, h => by
    obtain ⟨v, r, rfl, h2, h3⟩ := h
    exact ⟨w, r, rfl, q, h3⟩
  | x :: xs, vs, i + 1, h => by
    obtain ⟨v, r, rfl, h2, h3⟩ := h
    exact ⟨v, r.set i w, rfl, h2, RVs.set q i h3⟩
/-- a value of the heap's kinds -/
theorem sqt_upd_new {K : PySem.W.Frag} {H : Hp} {p a : Addr} {o : HO} {vs : List V} (n : H p = none) (h : SqT K H a vs) : SqT K (upd H p o) a vs := by
  rcases h with (h | ⟨o, h⟩) | h
  · exact .inl (.inl (by rw [upd_ne (ne_of_none h n)]; exact h))
  · exact .inl (.inr ⟨o, by rw [upd_ne (ne_of_none h n)]; exact h⟩)
  · exact .inr h
theorem sql_upd_new {K : PySem.W.Frag} {H : Hp} {p a : Addr} {o : HO} {vs : List V} (n : H p = none) (h : SqL K H a vs) : SqL K (upd H p o) a vs := by
  rcases h with (h | ⟨o, h⟩) | h
  · exact .inl (.inl (by rw [upd_ne (ne_of_none h n)]; exact h))
  · exact .inl (.inr ⟨o, by rw [upd_ne (ne_of_none h n)]; exact h⟩)
  · exact .inr h
theorem sqt_upd_lst {K : PySem.W.Frag} {H : Hp} {p a : Addr} {xs ys vs : List V} (n : H p = some (.lst xs)) (h : SqT K H a vs) : SqT K (upd H p (.lst ys)) a vs := by
  rcases h with (h | ⟨o, h⟩) | h
  · exact .inl (.inl (by rw [upd_ne (ne_of h n (by intro z; cases z))]; exact h))
  · exact .inl (.inr ⟨o, by rw [upd_ne (ne_of h n (by intro z; cases z))]; exact h⟩)
  · exact .inr h
theorem sql_upd_ne {K : PySem.W.Frag} {H : Hp} {p a : Addr} {o : HO} {vs : List V} (n : a ≠ p) (h : SqL K H a vs) : SqL K (upd H p o) a vs := by
  rcases h with (h | ⟨o, h⟩) | h
  · exact .inl (.inl (by rw [upd_ne n]; exact h))
  · exact .inl (.inr ⟨o, by rw [upd_ne n]; exact h⟩)
  · exact .inr h
theorem SqF.l {K : PySem.W.Frag} {H : Hp} {a : Addr} {vs : List V} (h : SqF K H a vs) : SqL K H a vs := by
  rcases h with h | h
  · exact .inl (.inr h)
  · exact .inr h
theorem sqf_upd_new {K : PySem.W.Frag} {H : Hp} {p a : Addr} {o : HO} {vs : List V} (n : H p = none) (h : SqF K H a vs) : SqF K (upd H p o) a vs := by
  rcases h with ⟨o, h⟩ | h
  · exact .inl ⟨o, by rw [upd_ne (ne_of_none h n)]; exact h⟩
  · exact .inr h
theorem sqf_upd_mut {K : PySem.W.Frag} {H : Hp} {p a : Addr} {o u : HO} {vs : List V} (n : H p = some u) (hu : ∀ o x, u ≠ .frz o x) (h : SqF K H a vs) : SqF K (upd H p o) a vs := by
  rcases h with ⟨o, h⟩ | h
  · exact .inl ⟨o, by rw [upd_ne (ne_of h n (by intro z; exact hu _ _ z.symm))]; exact h⟩
  · exact .inr h
theorem RO.tracked {o : MO} {a : Addr} (h : RO K H φ o a) (hm : o.mut = true) : ∃ u, H a = some u ∧ ∀ o x, u ≠ .frz o x := by
  cases o with
  | lst xs => obtain ⟨vs, h1, _⟩ := h; exact ⟨_, h1, fun _ _ z => by cases z⟩
  | frz xs => cases hm
  | dct xs => obtain ⟨vs, h1, _⟩ := h; exact ⟨_, h1, fun _ _ z => by cases z⟩
  | dck xs => obtain ⟨vs, h1, _⟩ := h; exact ⟨_, h1, fun _ _ z => by cases z⟩
/-- the objects stay where a new thing is laid -/
theorem RO.new {o : MO} {a p : Addr} {u : HO} (h : RO K H φ o a) (n : H p = none) (e : Ext K φ H φ' (upd H p u)) : RO K (upd H p u) φ' o a := by
  cases o with
  | lst ys =>
    obtain ⟨ws, q1, q2⟩ := h
    exact ⟨ws, by rw [upd_ne (ne_of_none q1 n)]; exact q1, q2.ext e⟩
  | frz ys =>
    obtain ⟨ws, q1, q2⟩ := h
    exact ⟨ws, sqf_upd_new n q1, q2.ext e⟩
  | dct ys =>
    obtain ⟨ws, q1, q2⟩ := h
    exact ⟨ws, by rw [upd_ne (ne_of_none q1 n)]; exact q1, q2.ext e⟩
  | dck ys =>
    obtain ⟨ws, q1, q2⟩ := h
    exact ⟨ws, by rw [upd_ne (ne_of_none q1 n)]; exact q1, q2.ext e⟩
/-- a new object -/
theorem RH.newO {m : MH} {p : Addr} {u : HO} {x : MO} (h : RH K H φ m) (n : H p = none) (e : Ext K φ H (φ ++ [p]) (upd H p u)) (q : RO K (upd H p u) (φ ++ [p]) x p) :
    RH K (upd H p u) (φ ++ [p]) (m ++ [x]) := by
  have cut : ∀ (i : Nat) (a : Addr) (o : MO), (φ ++ [p])[i]? = some a → (m ++ [x])[i]? = some o → (i < φ.length ∧ φ[i]? = some a ∧ m[i]? = some o) ∨ (i = φ.length ∧ a = p ∧ o = x) := by
    intro i a o h1 h2
    by_cases hi : i < φ.length
    · rw [List.getElem?_append_left hi] at h1
      rw [List.getElem?_append_left (by rw [← h.len]; exact hi)] at h2
      exact .inl ⟨hi, h1, h2⟩
    · have hi' : i = φ.length := by
        have := (List.getElem?_eq_some_iff.mp h1).1
        simp at this; omega
      subst hi'
      simp at h1
      rw [h.len] at h2
      simp at h2
      exact .inr ⟨rfl, h1.symm, h2.symm⟩
  refine ⟨by simp [h.len], ?_, ?_⟩
  · intro i j a o w h1 h2 h3 h4 m1 m2
    rcases cut i a o h1 h3 with ⟨_, c1, c2⟩ | ⟨c1, c2, c3⟩ <;> rcases cut j a w h2 h4 with ⟨_, d1, d2⟩ | ⟨d1, d2, d3⟩
    · exact h.nd i j a o w c1 d1 c2 d2 m1 m2
    · obtain ⟨z, hz, _⟩ := (h.obj i a o c1 c2).tracked m1
      rw [d2, n] at hz; cases hz
    · obtain ⟨z, hz, _⟩ := (h.obj j a w d1 d2).tracked m2
      rw [c2, n] at hz; cases hz
    · omega
  · intro i a o h1 h2
    rcases cut i a o h1 h2 with ⟨_, c1, c2⟩ | ⟨c1, c2, c3⟩
    · exact (h.obj i a o c1 c2).new n e
    · rw [c2, c3]; exact q
/-- a new list -/
theorem RH.newL {m : MH} {p : Addr} {xs : List PV} {vs : List V} (h : RH K H φ m) (n : H p = none) (q : RVs K H φ xs vs) :
    Ext K φ H (φ ++ [p]) (upd H p (.lst vs)) ∧ RH K (upd H p (.lst vs)) (φ ++ [p]) (m ++ [.lst xs]) ∧ RV K (upd H p (.lst vs)) (φ ++ [p]) (.ref m.length) (.ref p) := by
  have e : Ext K φ H (φ ++ [p]) (upd H p (.lst vs)) := ⟨⟨[p], rfl⟩, fun a ws w => sqt_upd_new n w⟩
  exact ⟨e, h.newO n e ⟨vs, upd_same, q.ext e⟩, ⟨p, by simp [← h.len], rfl⟩⟩
/-- a new tuple -/
theorem RH.newT {m : MH} {p : Addr} {xs : List PV} {vs : List V} (h : RH K H φ m) (n : H p = none) (q : RVs K H φ xs vs) :
    Ext K φ H φ (upd H p (.tup vs)) ∧ RH K (upd H p (.tup vs)) φ m ∧ RV K (upd H p (.tup vs)) φ (.tup xs) (.ref p) := by
  have e : Ext K φ H φ (upd H p (.tup vs)) := ⟨⟨[], by simp⟩, fun a ws w => sqt_upd_new n w⟩
  exact ⟨e, ⟨h.len, h.nd, fun i a o h1 h2 => (h.obj i a o h1 h2).new n e⟩, ⟨p, vs, rfl, .inl (.inl upd_same), q.ext e⟩⟩
theorem sqt_upd_mut {K : PySem.W.Frag} {H : Hp} {p a : Addr} {u o : HO} {vs : List V} (n : H p = some u) (nt : ∀ xs, u ≠ .tup xs) (nf : ∀ o x, u ≠ .frz o x) (h : SqT K H a vs) : SqT K (upd H p o) a vs := by
  rcases h with (h | ⟨o, h⟩) | h
  · exact .inl (.inl (by rw [upd_ne (ne_of h n (by intro z; exact nt _ z.symm))]; exact h))
  · exact .inl (.inr ⟨o, by rw [upd_ne (ne_of h n (by intro z; exact nf _ _ z.symm))]; exact h⟩)
  · exact .inr h
/-- an object is changed -/
theorem RH.setM {m : MH} {k : Nat} {a : Addr} {o1 o2 : MO} {u1 u2 : HO} (h : RH K H φ m) (hk : φ[k]? = some a) (hm : m[k]? = some o1) (mu : o1.mut = true) (ha : H a = some u1) (nt : ∀ xs, u1 ≠ .tup xs) (nf : ∀ o x, u1 ≠ .frz o x) (mu2 : o2.mut = true)
    (q : Ext K φ H φ (upd H a u2) → RO K (upd H a u2) φ o2 a) : Ext K φ H φ (upd H a u2) ∧ RH K (upd H a u2) φ (m.set k o2) := by
  have e : Ext K φ H φ (upd H a u2) := ⟨⟨[], by simp⟩, fun b us w => sqt_upd_mut ha nt nf w⟩
  have hkm : k < m.length := (List.getElem?_eq_some_iff.mp hm).1
  refine ⟨e, ⟨by simp [h.len], ?_, ?_⟩⟩
  · intro i j b o w h1 h2 h3 h4 m1 m2
    have back : ∀ (i : Nat) (o : MO), (m.set k o2)[i]? = some o → o.mut = true → ∃ o', m[i]? = some o' ∧ o'.mut = true := by
      intro i o h3 m1
      by_cases hi : i = k
      · subst hi; exact ⟨_, hm, mu⟩
      · rw [List.getElem?_set_ne (Ne.symm hi)] at h3; exact ⟨o, h3, m1⟩
    obtain ⟨o', e1, e2⟩ := back i o h3 m1
    obtain ⟨w', e3, e4⟩ := back j w h4 m2
    exact h.nd i j b o' w' h1 h2 e1 e3 e2 e4
  · intro i b o h1 h2
    by_cases hi : i = k
    · subst hi
      rw [List.getElem?_set_self hkm] at h2
      cases h2
      rw [hk] at h1; cases h1
      exact q e
    · rw [List.getElem?_set_ne (Ne.symm hi)] at h2
      have r := h.obj i b o h1 h2
      have nb : o.mut = true → b ≠ a := fun om z => hi (h.nd i k a _ _ (z ▸ h1) hk h2 hm om mu)
      cases o with
      | lst zs =>
        obtain ⟨us, q1, q2⟩ := r
        exact ⟨us, by rw [upd_ne (nb rfl)]; exact q1, q2.ext e⟩
      | frz zs =>
        obtain ⟨us, q1, q2⟩ := r
        exact ⟨us, sqf_upd_mut ha nf q1, q2.ext e⟩
      | dct zs =>
        obtain ⟨us, q1, q2⟩ := r
        exact ⟨us, by rw [upd_ne (nb rfl)]; exact q1, q2.ext e⟩
      | dck zs =>
        obtain ⟨us, q1, q2⟩ := r
        exact ⟨us, by rw [upd_ne (nb rfl)]; exact q1, q2.ext e⟩
/-- a list is changed -/
theorem RH.setL {m : MH} {k : Nat} {a : Addr} {xs ys : List PV} {ws : List V} (h : RH K H φ m) (hk : φ[k]? = some a) (hm : m[k]? = some (.lst xs)) (q : RVs K H φ ys ws) :
    Ext K φ H φ (upd H a (.lst ws)) ∧ RH K (upd H a (.lst ws)) φ (m.set k (.lst ys)) := by
  obtain ⟨vs, ha, _⟩ := h.obj k a _ hk hm
  exact h.setM hk hm rfl ha (fun _ z => by cases z) (fun _ _ z => by cases z) rfl fun e => ⟨ws, upd_same, q.ext e⟩
end
end SM

set_option Elab.async false
set_option linter.all false
set_option maxRecDepth 100000
set_option maxHeartbeats 1000000
namespace SM
open PySem PySem.Spec PyProof.Rows L2

/-- what is wanted of an exception: its class, its fields, the addresses, the heap of the reckoning, the slots, the heap -/
abbrev XM := String → List PV → List Addr → Loc → MH → L2.St → Hp → Prop
def W0 : XM := fun _ _ _ _ _ _ _ => False
abbrev Rel (α β : Type) := Hp → List Addr → α → β → Prop
def rV (K : PySem.W.Frag) : Rel PV V := fun H φ x v => RV K H φ x v
def rA (K : PySem.W.Frag) : Rel (List PV) (List V) := fun H φ x v => RVs K H φ x v
def rB : Rel Bool Bool := fun _ _ b c => c = b
class Stays {α β : Type} (K : PySem.W.Frag) (rel : Rel α β) : Prop where
  st : ∀ {φ φ' : List Addr} {H H' : Hp} {x : α} {v : β}, Ext K φ H φ' H' → rel H φ x v → rel H' φ' x v
instance {K} : Stays K (rV K) := ⟨fun e h => RV.ext e h⟩
instance {K} : Stays K (rA K) := ⟨fun e h => RVs.ext e h⟩
instance {K} : Stays K rB := ⟨fun _ h => h⟩

def Post {α β : Type} (K : PySem.W.Frag) (rel : Rel α β) (W : XM) (φ : List Addr) (l : Loc) (σ : L2.St) (H : Hp) (r : R α) (Q : β → Hp → Prop) : Prop := match r with
  | .ok x m => ∀ φ' H' v, Ext K φ H φ' H' → RH K H' φ' m → rel H' φ' x v → Q v H'
  | .ex c fs m => ∀ φ' H', Ext K φ H φ' H' → RH K H' φ' m → W c fs φ' l m σ H'
  | .bad => False
def Rdg {α β : Type} (K : PySem.W.Frag) (rel : Rel α β) (W : XM) (s : Loc → MH → R α) : L2.St → Hp → (β → Hp → Prop) → Prop := fun σ H Q =>
  ∃ φ l m, RH K H φ m ∧ RL K H φ l σ ∧ Post K rel W φ l σ H (s l m) Q
section
variable {K : PySem.W.Frag} {α β α' β' : Type} {rel : Rel α β} {rel' : Rel α' β'} {W : XM} {φ φ' : List Addr} {σ : L2.St} {H H' : Hp} {r : R α} {Q Q' : β → Hp → Prop} {s : Loc → MH → R α} {l : Loc} {m : MH}
theorem Post.ext (e : Ext K φ H φ' H') (h : Post K rel W φ l σ H r Q) : Post K rel W φ' l σ H' r Q := by
  cases r with
  | ok x m => exact fun φ2 H2 v e2 => h φ2 H2 v (e.trans e2)
  | ex c fs m => exact fun φ2 H2 e2 => h φ2 H2 (e.trans e2)
  | bad => exact h
theorem Post.mono (h : Post K rel W φ l σ H r Q) (q : ∀ v H, Q v H → Q' v H) : Post K rel W φ l σ H r Q' := by
  cases r with
  | ok x m => exact fun φ2 H2 v e2 a b => q _ _ (h φ2 H2 v e2 a b)
  | ex c fs m => exact h
  | bad => exact h
theorem Rdg.mono (h : Rdg K rel W s σ H Q) (q : ∀ v H, Q v H → Q' v H) : Rdg K rel W s σ H Q' := by
  obtain ⟨φ, l, m, h1, h2, h3⟩ := h
  exact ⟨φ, l, m, h1, h2, h3.mono q⟩
theorem Rdg.at (h1 : RH K H φ m) (h2 : RL K H φ l σ) (h3 : Post K rel W φ l σ H (s l m) Q) : Rdg K rel W s σ H Q := ⟨φ, l, m, h1, h2, h3⟩
/-- behind the first part -/
theorem Post.bind {k : α → MH → R α'} {Q : β' → Hp → Prop} (hl : RL K H φ l σ) (h : Post K rel' W φ l σ H (r.bind k) Q) :
    Post K rel W φ l σ H r (fun v H1 => ∃ φ1 x m1, Ext K φ H φ1 H1 ∧ RH K H1 φ1 m1 ∧ RL K H1 φ1 l σ ∧ rel H1 φ1 x v ∧ Post K rel' W φ1 l σ H1 (k x m1) Q) := by
  cases r with
  | ok x m => exact fun φ2 H2 v e a b => ⟨φ2, x, m, e, a, hl.ext e, b, Post.ext e h⟩
  | ex c fs m => exact h
  | bad => exact h
end
structure QE (X : Cx) (W : XM) (e : Expr) (s : SE) : Prop where
  pe : PE X e (Rdg X.K (rV X.K) W s)
structure QA (X : Cx) (W : XM) (es : List Expr) (s : SA) : Prop where
  pa : PA X es (Rdg X.K (rA X.K) W s)
structure QT (X : Cx) (W : XM) (e : Expr) (s : SB) : Prop where
  pt : PT X e (Rdg X.K rB W s)
structure QW (X : Cx) (W : XM) (e : Expr) (s : SB) : Prop where
  pw : PW X e (Rdg X.K rB W s)
theorem pe_imp {X : Cx} {e : Expr} {t t' : TE} (h : PE X e t) (i : ∀ σ H Q, t' σ H Q → t σ H Q) : PE X e t' := ⟨fun pins s σ H Q I q => h.run pins s σ H Q I (i σ H Q q)⟩
theorem pt_imp {X : Cx} {e : Expr} {t t' : TT} (h : PT X e t) (i : ∀ σ H Q, t' σ H Q → t σ H Q) : PT X e t' := ⟨fun pins s σ H Q I q => h.run pins s σ H Q I (i σ H Q q)⟩
theorem pw_imp {X : Cx} {e : Expr} {t t' : TT} (h : PW X e t) (i : ∀ σ H Q, t' σ H Q → t σ H Q) : PW X e t' := ⟨fun wh pins s σ H Q I q => h.run wh pins s σ H Q I (i σ H Q q)⟩
theorem pa_imp {X : Cx} {e : List Expr} {t t' : TA} (h : PA X e t) (i : ∀ σ H Q, t' σ H Q → t σ H Q) : PA X e t' := ⟨fun pos pins s σ H Q I q => h.run pos pins s σ H Q I (i σ H Q q)⟩

/-! ## names, constants -/
section
variable {X : Cx} {W : XM}
def sVar (i : Nat) : SE := fun l m => match l[i]? with
  | some (some v) => .ok v m
  | _ => .bad
def sC (v : PV) : SE := fun _ m => .ok v m
theorem q_var (i : Nat) {x : Str} {pos : Pos} (hN : X.N[i]? = some x := by rfl) (hv : Vis X.env.scope x := by first | exact Or.inl rfl | exact Or.inr (Or.inl rfl) | exact Or.inr (Or.inr rfl)) (hd : (x == ("__debug__" : Str)) = false := by decide)
    (hcd : (x == ("__classdict__" : Str)) = false := by decide) : QE X W (.Name x pos) (sVar i) := ⟨pe_imp (pe_var hN hv hd hcd) fun σ H Q h => by
  obtain ⟨φ, l, m, h1, h2, h3⟩ := h
  unfold sVar at h3
  cases hl : l[i]? with
  | none => rw [hl] at h3; exact h3.elim
  | some o =>
    cases o with
    | none => rw [hl] at h3; exact h3.elim
    | some x =>
      rw [hl] at h3
      obtain ⟨v, e1, e2⟩ := h2.2 i x hl
      exact ⟨v, e1, h3 φ H v Ext.refl h1 e2⟩⟩
theorem q_int {i j pos} : QE X W (.Constant (.int i) j pos) (sC (.int i)) := ⟨pe_imp pe_int fun σ H Q h => by
  obtain ⟨φ, l, m, h1, h2, h3⟩ := h
  exact h3 φ H _ Ext.refl h1 rfl⟩
theorem q_bl {i j pos} : QE X W (.Constant (.bool i) j pos) (sC (.bl i)) := ⟨pe_imp pe_bl fun σ H Q h => by
  obtain ⟨φ, l, m, h1, h2, h3⟩ := h
  exact h3 φ H _ Ext.refl h1 rfl⟩
theorem q_non {j pos} : QE X W (.Constant .none j pos) (sC .non) := ⟨pe_imp pe_non fun σ H Q h => by
  obtain ⟨φ, l, m, h1, h2, h3⟩ := h
  exact h3 φ H _ Ext.refl h1 rfl⟩
theorem q_str {x : Str} {j pos} : QE X W (.Constant (.str x) j pos) (sC (.str x.cps.toList)) := ⟨pe_imp pe_str fun σ H Q h => by
  obtain ⟨φ, l, m, h1, h2, h3⟩ := h
  exact h3 φ H _ Ext.refl h1 rfl⟩
end

/-! ## heaps of the reckoning -/
def lst? (m : MH) (n : Nat) : Option (List PV) := match m[n]? with
  | some (.lst xs) => some xs
  | _ => none
def seq? (m : MH) (n : Nat) : Option (List PV) := match m[n]? with
  | some (.lst xs) => some xs
  | some (.frz xs) => some xs
  | _ => none
theorem lst_some {m : MH} {n : Nat} {xs : List PV} (h : lst? m n = some xs) : m[n]? = some (.lst xs) := by
  unfold lst? at h
  split at h
  · rename_i e; cases h; exact e
  · cases h
theorem seq_some {m : MH} {n : Nat} {xs : List PV} (h : seq? m n = some xs) : m[n]? = some (.lst xs) ∨ m[n]? = some (.frz xs) := by
  unfold seq? at h
  split at h
  · rename_i e; cases h; exact .inl e
  · rename_i e; cases h; exact .inr e
  · cases h
section
variable {K : PySem.W.Frag} {H : Hp} {φ : List Addr} {m : MH} {n : Nat} {xs : List PV} {v : V}
theorem RH.lst (h : RH K H φ m) (r : RV K H φ (.ref n) v) (e : lst? m n = some xs) : ∃ a vs, φ[n]? = some a ∧ v = .ref a ∧ H a = some (.lst vs) ∧ RVs K H φ xs vs := by
  obtain ⟨a, h1, h2⟩ := r
  obtain ⟨vs, q1, q2⟩ := h.obj n a _ h1 (lst_some e)
  exact ⟨a, vs, h1, h2, q1, q2⟩
theorem RH.seq (h : RH K H φ m) (r : RV K H φ (.ref n) v) (e : seq? m n = some xs) : ∃ a vs, v = .ref a ∧ SqL K H a vs ∧ RVs K H φ xs vs := by
  obtain ⟨a, h1, h2⟩ := r
  rcases seq_some e with e | e
  · obtain ⟨vs, q1, q2⟩ := h.obj n a _ h1 e
    exact ⟨a, vs, h2, .inl (.inl q1), q2⟩
  · obtain ⟨vs, q1, q2⟩ := h.obj n a _ h1 e
    exact ⟨a, vs, h2, q1.l, q2⟩
end

/-! ## operators -/
abbrev OR := Option (PV × MH)
def lift {α : Type} (o : Option (α × MH)) : R α := match o with
  | some (x, m) => .ok x m
  | none => .bad
def PostO (K : PySem.W.Frag) (φ : List Addr) (H : Hp) (o : OR) (Q : VK) : Prop := ∃ x m, o = some (x, m) ∧ ∀ φ' H' v, Ext K φ H φ' H' → RH K H' φ' m → RV K H' φ' x v → Q v H'
theorem PostO.of {K : PySem.W.Frag} {W : XM} {φ : List Addr} {l : Loc} {σ : L2.St} {H : Hp} {o : OR} {Q : VK} (h : Post K (rV K) W φ l σ H (lift o) Q) : PostO K φ H o Q := by
  cases o with
  | none => exact h.elim
  | some p => obtain ⟨x, m⟩ := p; exact ⟨x, m, rfl, h⟩
/-- an operation on two values -/
def OpQ (X : Cx) (f : Value → Value → Sem Value) (op : PV → PV → MH → OR) : Prop :=
  OpR X f (fun v w H Q => ∃ φ m x y, RH X.K H φ m ∧ RV X.K H φ x v ∧ RV X.K H φ y w ∧ PostO X.K φ H (op x y m) Q)
def UnQ (X : Cx) (f : Value → Sem Value) (op : PV → MH → OR) : Prop :=
  UnR X f (fun v H Q => ∃ φ m x, RH X.K H φ m ∧ RV X.K H φ x v ∧ PostO X.K φ H (op x m) Q)
def sOp (op : PV → PV → MH → OR) (a b : SE) : SE := fun l m => (a l m).bind fun x m1 => (b l m1).bind fun y m2 => lift (op x y m2)
def sUn (op : PV → MH → OR) (a : SE) : SE := fun l m => (a l m).bind fun x m1 => lift (op x m1)
/-- two readings in a row -/
theorem two {K : PySem.W.Frag} {W : XM} {a b : SE} {σ : L2.St} {H : Hp} {α β : Type} {rel : Rel α β} {k : PV → PV → MH → R α} {Q : β → Hp → Prop} (h : Rdg K rel W (fun l m => (a l m).bind fun x m1 => (b l m1).bind fun y m2 => k x y m2) σ H Q) :
    Rdg K (rV K) W a σ H fun v H1 => Rdg K (rV K) W b σ H1 fun w H2 => ∃ φ m x y l, RH K H2 φ m ∧ RV K H2 φ x v ∧ RV K H2 φ y w ∧ Post K rel W φ l σ H2 (k x y m) Q := by
  obtain ⟨φ, l, m, h1, h2, h3⟩ := h
  refine ⟨φ, l, m, h1, h2, (Post.bind (rel := rV K) h2 h3).mono ?_⟩
  rintro v H1 ⟨φ1, x, m1, e1, a1, b1, c1, d1⟩
  refine ⟨φ1, l, m1, a1, b1, (Post.bind (rel := rV K) b1 d1).mono ?_⟩
  rintro w H2 ⟨φ2, y, m2, e2, a2, b2, c2, d2⟩
  exact ⟨φ2, m2, x, y, l, a2, RV.ext e2 c1, c2, d2⟩
theorem one {K : PySem.W.Frag} {W : XM} {a : SE} {σ : L2.St} {H : Hp} {α β : Type} {rel : Rel α β} {k : PV → MH → R α} {Q : β → Hp → Prop} (h : Rdg K rel W (fun l m => (a l m).bind fun x m1 => k x m1) σ H Q) :
    Rdg K (rV K) W a σ H fun v H1 => ∃ φ m x l, RH K H1 φ m ∧ RV K H1 φ x v ∧ Post K rel W φ l σ H1 (k x m) Q := by
  obtain ⟨φ, l, m, h1, h2, h3⟩ := h
  refine ⟨φ, l, m, h1, h2, (Post.bind (rel := rV K) h2 h3).mono ?_⟩
  rintro v H1 ⟨φ1, x, m1, e1, a1, b1, c1, d1⟩
  exact ⟨φ1, m1, x, l, a1, c1, d1⟩
section
variable {X : Cx} {W : XM} {a b : Expr} {sa sb : SE} {pos : Pos}
theorem q_bin {op : Operator} {f : PV → PV → MH → OR} (ho : OpQ X (binaryOp op) f) (ha : QE X W a sa) (hb : QE X W b sb) : QE X W (.BinOp a op b pos) (sOp f sa sb) :=
  ⟨pe_imp (pe_op ho ha.pe hb.pe) fun σ H Q h => (two h).mono fun v H1 h1 => Rdg.mono h1 fun w H2 ⟨φ, m, x, y, _, c1, c2, c3, c4⟩ => ⟨φ, m, x, y, c1, c2, c3, .of c4⟩⟩
theorem q_un {op : UnaryOp} {f : PV → MH → OR} (ho : UnQ X (unaryOp op) f) (ha : QE X W a sa) : QE X W (.UnaryOp op a pos) (sUn f sa) :=
  ⟨pe_imp (pe_un ho ha.pe) fun σ H Q h => (one h).mono fun v H1 ⟨φ, m, x, _, c1, c2, c4⟩ => ⟨φ, m, x, c1, c2, .of c4⟩⟩
theorem q_cmp {op : CmpOp} {f : PV → PV → MH → OR} (ho : OpQ X (compareOp op) f) (ha : QE X W a sa) (hb : QE X W b sb) (hm : behindInMarks op b = false) : QE X W (.Compare a [op] [b] pos) (sOp f sa sb) :=
  ⟨pe_imp (pe_cmpR ho ha.pe hb.pe hm) fun σ H Q h => (two h).mono fun v H1 h1 => Rdg.mono h1 fun w H2 ⟨φ, m, x, y, _, c1, c2, c3, c4⟩ => ⟨φ, m, x, y, c1, c2, c3, .of c4⟩⟩
end

/-! ### ints -/
set_option exponentiation.threshold 5000
@[irreducible] def big : Nat := 2 ^ 4096
theorem big_eq : big = 2 ^ 4096 := by unfold big; rfl
theorem log2_big {n : Nat} (h : n < big) : n.log2 < 4096 := PySem.Flt.log2_lt_of (by decide) (by rw [← big_eq]; exact h)
section
variable {K : PySem.W.Frag} {H : Hp} {φ : List Addr} {x : PV} {v : V}
theorem RV.int {i : Int} (h : RV K H φ (.int i) v) : v = .int i := h
end
def addv : PV → PV → MH → OR
  | .int a, .int b, m => some (.int (a + b), m)
  | .str a, .str b, m => if a.length + b.length ≤ 16777216 then some (.str (a ++ b), m) else none
  | .tup a, .tup b, m => if a.length + b.length ≤ 16777216 then some (.tup (a ++ b), m) else none
  | .ref i, .ref j, m => match lst? m i, lst? m j with
    | some xs, some ys => if xs.length + ys.length ≤ 16777216 then some (.ref m.length, m ++ [.lst (xs ++ ys)]) else none
    | _, _ => none
  | _, _, _ => none
def subv : PV → PV → MH → OR
  | .int a, .int b, m => some (.int (a - b), m)
  | _, _, _ => none
def mulv : PV → PV → MH → OR
  | .int a, .int b, m => if (a.natAbs < 18446744073709551616 ∨ b.natAbs < 18446744073709551616) ∨ (a.natAbs < big ∧ b.natAbs < big) then some (.int (a * b), m) else none
  | _, _, _ => none
def fdivv : PV → PV → MH → OR
  | .int a, .int b, m => if b ≠ 0 ∧ b.natAbs < big then some (.int (a.fdiv b), m) else none
  | _, _, _ => none
def modv : PV → PV → MH → OR
  | .int a, .int b, m => if b ≠ 0 then some (.int (a.fmod b), m) else none
  | _, _, _ => none
def powv : PV → PV → MH → OR
  | .int a, .int b, m => if 0 ≤ b ∧ b ≤ 1000 ∧ a.natAbs < 18446744073709551616 then some (.int (a ^ b.toNat), m) else none
  | _, _, _ => none
def negv : PV → MH → OR
  | .int a, m => some (.int (-a), m)
  | _, _ => none
theorem str_app (a b : List Nat) : (⟨a.toArray⟩ : Str) ++ (⟨b.toArray⟩ : Str) = ⟨(a ++ b).toArray⟩ := by
  show Str.mk _ = _
  simp
theorem str_len (a : List Nat) : (⟨a.toArray⟩ : Str).length = a.length := by simp [Str.length]
theorem sl_eq : sizeLine = 16777216 := sizeLine_eq
section
variable {X : Cx}
theorem OpQ.of_eq {f : Value → Value → Sem Value} {op : PV → PV → MH → OR} (h : ∀ (v w : V) (H : Hp) (Q : VK) φ m x y, RH X.K H φ m → RV X.K H φ x v → RV X.K H φ y w → PostO X.K φ H (op x y m) Q → ∃ r : R2, OpR X f r ∧ r v w H Q) : OpQ X f op := by
  intro pins s σ H v w vv ww Q I rv rw' ⟨φ, m, x, y, h1, h2, h3, h4⟩
  obtain ⟨r, hr, q⟩ := h v w H Q φ m x y h1 h2 h3 h4
  exact hr pins s σ H v w vv ww Q I rv rw' q
theorem PostO.same {K : PySem.W.Frag} {φ : List Addr} {H : Hp} {m : MH} {x : PV} {v : V} {Q : VK} (h : PostO K φ H (some (x, m)) Q) (h1 : RH K H φ m) (r : RV K H φ x v) : Q v H := by
  obtain ⟨y, m', e, q⟩ := h
  cases e
  exact q φ H v Ext.refl h1 r
theorem PostO.not {K : PySem.W.Frag} {φ : List Addr} {H : Hp} {Q : VK} (h : PostO K φ H none Q) : False := by
  obtain ⟨y, m', e, q⟩ := h
  cases e
theorem PostO.newT {K : PySem.W.Frag} {φ : List Addr} {H : Hp} {m : MH} {xs : List PV} {vs : List V} {Q : VK} (h : PostO K φ H (some (.tup xs, m)) Q) (h1 : RH K H φ m) (r : RVs K H φ xs vs) : ∀ p, H p = none → Q (.ref p) (upd H p (.tup vs)) := by
  obtain ⟨y, m', e, q⟩ := h
  cases e
  intro p np
  obtain ⟨e, a, b⟩ := h1.newT np r
  exact q _ _ _ e a b
theorem PostO.newL {K : PySem.W.Frag} {φ : List Addr} {H : Hp} {m : MH} {xs : List PV} {vs : List V} {Q : VK} (h : PostO K φ H (some (.ref m.length, m ++ [.lst xs])) Q) (h1 : RH K H φ m) (r : RVs K H φ xs vs) : ∀ p, H p = none → Q (.ref p) (upd H p (.lst vs)) := by
  obtain ⟨y, m', e, q⟩ := h
  cases e
  intro p np
  obtain ⟨e, a, b⟩ := h1.newL np r
  exact q _ _ _ e a b
theorem o_sub : OpQ X (binaryOp .Sub) subv := .of_eq fun v w H Q φ m x y h1 h2 h3 h4 => by
  unfold subv at h4
  split at h4
  · cases h2; cases h3
    exact ⟨_, op_sub, _, _, rfl, rfl, h4.same h1 rfl⟩
  · exact h4.not.elim
theorem o_add : OpQ X (binaryOp .Add) addv := .of_eq fun v w H Q φ m x y h1 h2 h3 h4 => by
  unfold addv at h4
  split at h4
  · cases h2; cases h3
    exact ⟨_, op_add, _, _, rfl, rfl, h4.same h1 rfl⟩
  · cases h2; cases h3
    split at h4
    · rename_i hz
      exact ⟨_, op_add_str, _, _, rfl, rfl, by rw [str_len, str_len, sl_eq]; exact hz, by rw [str_app]; exact h4.same h1 rfl⟩
    · exact h4.not.elim
  · obtain ⟨p, vs, rfl, a1, a2⟩ := h2
    obtain ⟨q, ws, rfl, b1, b2⟩ := h3
    split at h4
    · rename_i hz
      refine ⟨_, op_catA, p, q, vs, ws, rfl, rfl, a1, b1, by rw [a2.length, b2.length, sl_eq]; exact hz, fun z => ?_, fun z1 z2 => ?_, fun _ _ => ?_⟩
      · subst z
        have e := List.eq_nil_of_length_eq_zero a2.length.symm; subst e
        exact h4.same h1 ⟨q, ws, rfl, b1, b2⟩
      · subst z2
        have e := List.eq_nil_of_length_eq_zero b2.length.symm; subst e
        simp only [List.append_nil] at h4
        exact h4.same h1 ⟨p, vs, rfl, a1, a2⟩
      · exact h4.newT h1 (a2.append b2)
    · exact h4.not.elim
  · split at h4
    · rename_i e1 e2
      obtain ⟨p, vs, _, rfl, a1, a2⟩ := h1.lst h2 e1
      obtain ⟨q, ws, _, rfl, b1, b2⟩ := h1.lst h3 e2
      split at h4
      · rename_i hz
        exact ⟨_, op_cat, p, q, vs, ws, rfl, rfl, a1, b1, by rw [a2.length, b2.length, sl_eq]; exact hz, h4.newL h1 (a2.append b2)⟩
      · exact h4.not.elim
    · exact h4.not.elim
  · exact h4.not.elim
theorem o_mul : OpQ X (binaryOp .Mult) mulv := .of_eq fun v w H Q φ m x y h1 h2 h3 h4 => by
  unfold mulv at h4
  split at h4
  · cases h2; cases h3
    split at h4
    · rename_i hz
      rcases hz with hz | hz
      · exact ⟨_, op_mul, _, _, rfl, rfl, (by rcases hz with z | z; exact .inl (by omega); exact .inr (by omega)), h4.same h1 rfl⟩
      exact ⟨_, op_mulW, _, _, rfl, rfl, wide_mul (a := 4096) (b := 4096) (by rw [← big_eq]; exact hz.1) (by rw [← big_eq]; exact hz.2) (by decide) (by decide) (by decide), h4.same h1 rfl⟩
    · exact h4.not.elim
  · exact h4.not.elim
theorem op_fdivB : OpR X (binaryOp .FloorDiv) (rI (fun _ j => j ≠ 0 ∧ j.natAbs < big) fun i j => .int (i.fdiv j)) := opI fun i j _ _ _ _ _ hc q =>
  floordiv_int hc.1 q (.inl (PyProof.noPylong_of_log2 (Nat.lt_trans (log2_big hc.2) (by decide))))
theorem o_fdiv : OpQ X (binaryOp .FloorDiv) fdivv := .of_eq fun v w H Q φ m x y h1 h2 h3 h4 => by
  unfold fdivv at h4
  split at h4
  · cases h2; cases h3
    split at h4
    · rename_i hz
      exact ⟨_, op_fdivB, _, _, rfl, rfl, hz, h4.same h1 rfl⟩
    · exact h4.not.elim
  · exact h4.not.elim
theorem o_mod : OpQ X (binaryOp .Mod) modv := .of_eq fun v w H Q φ m x y h1 h2 h3 h4 => by
  unfold modv at h4
  split at h4
  · cases h2; cases h3
    split at h4
    · rename_i hz
      exact ⟨_, op_modN, _, _, rfl, rfl, hz, h4.same h1 rfl⟩
    · exact h4.not.elim
  · exact h4.not.elim
theorem o_pow : OpQ X (binaryOp .Pow) powv := .of_eq fun v w H Q φ m x y h1 h2 h3 h4 => by
  unfold powv at h4
  split at h4
  · cases h2; cases h3
    split at h4
    · rename_i hz
      exact ⟨_, op_pow, _, _, rfl, rfl, ⟨hz.1, by omega, hz.2.2⟩, h4.same h1 rfl⟩
    · exact h4.not.elim
  · exact h4.not.elim
theorem o_neg : UnQ X (unaryOp .USub) negv := by
  intro pins s σ H v vv Q I rv ⟨φ, m, x, h1, h2, h4⟩
  unfold negv at h4
  split at h4
  · cases h2
    exact un_neg pins s σ H _ vv Q I rv ⟨_, rfl, h4.same h1 rfl⟩
  · exact h4.not.elim
end

/-! ### comparisons -/
def eqF : PV → PV → Option Bool
  | .non, .non => some true | .int a, .int b => some (decide (a = b)) | .bl a, .bl b => some (decide (a = b)) | .str a, .str b => some (decide (a = b))
  | .non, .int _ => some false | .int _, .non => some false | .non, .bl _ => some false | .bl _, .non => some false | .non, .str _ => some false | .str _, .non => some false
  | .int _, .str _ => some false | .str _, .int _ => some false | .bl _, .str _ => some false | .str _, .bl _ => some false
  | _, _ => none
def cmpI (f : Int → Int → Bool) : PV → PV → MH → OR
  | .int a, .int b, m => some (.bl (f a b), m)
  | _, _, _ => none
def isNon : PV → Bool
  | .non => true
  | _ => false
def isNv : PV → PV → MH → OR
  | x, .non, m => some (.bl (isNon x), m)
  | _, _, _ => none
def notNv : PV → PV → MH → OR
  | x, .non, m => some (.bl (!isNon x), m)
  | _, _, _ => none
theorem rv_non {K : PySem.W.Frag} {H : Hp} {φ : List Addr} : ∀ {x : PV} {v : V}, RV K H φ x v → decide (v = V.non) = isNon x
  | .non, _, h => by cases h; rfl
  | .bl _, _, h => by cases h; rfl
  | .int _, _, h => by cases h; rfl
  | .str _, _, h => by cases h; rfl
  | .tup _, _, h => by obtain ⟨p, vs, rfl, _⟩ := h; rfl
  | .ref _, _, h => by obtain ⟨p, _, rfl⟩ := h; rfl
section
variable {X : Cx}
theorem str_inj {a b : List Nat} : (V.str ⟨a.toArray⟩ = V.str ⟨b.toArray⟩) ↔ a = b := by simp
theorem eqF_scal {K : PySem.W.Frag} {H : Hp} {φ : List Addr} {x y : PV} {v w : V} {b : Bool} (h : eqF x y = some b) (r1 : RV K H φ x v) (r2 : RV K H φ y w) : scal v w = true ∧ decide (v = w) = b := by
  unfold eqF at h
  split at h <;> first
    | (cases h; cases r1; cases r2; refine ⟨rfl, ?_⟩; simp)
    | cases h
theorem o_ltI : OpQ X (compareOp .Lt) (cmpI fun a b => decide (a < b)) := .of_eq fun v w H Q φ m x y h1 h2 h3 h4 => by
  unfold cmpI at h4
  split at h4
  · cases h2; cases h3
    exact ⟨_, op_lt, _, _, rfl, rfl, h4.same h1 rfl⟩
  · exact h4.not.elim
theorem o_leI : OpQ X (compareOp .LtE) (cmpI fun a b => decide (a ≤ b)) := .of_eq fun v w H Q φ m x y h1 h2 h3 h4 => by
  unfold cmpI at h4
  split at h4
  · cases h2; cases h3
    exact ⟨_, op_le, _, _, rfl, rfl, h4.same h1 rfl⟩
  · exact h4.not.elim
theorem o_gtI : OpQ X (compareOp .Gt) (cmpI fun a b => decide (b < a)) := .of_eq fun v w H Q φ m x y h1 h2 h3 h4 => by
  unfold cmpI at h4
  split at h4
  · cases h2; cases h3
    exact ⟨_, op_gt, _, _, rfl, rfl, h4.same h1 rfl⟩
  · exact h4.not.elim
theorem o_geI : OpQ X (compareOp .GtE) (cmpI fun a b => decide (b ≤ a)) := .of_eq fun v w H Q φ m x y h1 h2 h3 h4 => by
  unfold cmpI at h4
  split at h4
  · cases h2; cases h3
    exact ⟨_, op_ge, _, _, rfl, rfl, h4.same h1 rfl⟩
  · exact h4.not.elim
theorem o_is : OpQ X (compareOp .Is) isNv := .of_eq fun v w H Q φ m x y h1 h2 h3 h4 => by
  unfold isNv at h4
  split at h4
  · cases h3
    exact ⟨_, op_isN, rfl, by rw [rv_non h2]; exact h4.same h1 rfl⟩
  · exact h4.not.elim
theorem o_isnot : OpQ X (compareOp .IsNot) notNv := .of_eq fun v w H Q φ m x y h1 h2 h3 h4 => by
  unfold notNv at h4
  split at h4
  · cases h3
    exact ⟨_, op_notN, rfl, by rw [rv_non h2]; exact h4.same h1 rfl⟩
  · exact h4.not.elim
end
end SM

set_option Elab.async false
set_option linter.all false
set_option maxRecDepth 100000
set_option maxHeartbeats 1000000
namespace SM
open PySem PySem.Spec PyProof.Rows L2

/-! ## data at any depth -/
@[simp] def allO {α : Type} : List (Option α) → Option (List α)
  | [] => some []
  | some x :: r => (allO r).map (x :: ·)
  | none :: _ => none
def toD (m : MH) : Nat → PV → Option PyData
  | 0, .non => some .none
  | 0, .bl b => some (.bool b)
  | 0, .int i => some (.int i)
  | 0, .str s => some (.str ⟨s.toArray⟩)
  | 0, _ => none
  | n + 1, .non => some .none
  | n + 1, .bl b => some (.bool b)
  | n + 1, .int i => some (.int i)
  | n + 1, .str s => some (.str ⟨s.toArray⟩)
  | n + 1, .tup xs => (allO (xs.map (toD m n))).map .tuple
  | n + 1, .ref i => match seq? m i with
    | some xs => (allO (xs.map (toD m n))).map .list
    | none => none
section
variable {K : PySem.W.Frag} {H : Hp} {φ : List Addr} {m : MH}
theorem dpAll {f : PV → Option PyData} (hf : ∀ x v d, RV K H φ x v → f x = some d → Dp K H v d) : ∀ (xs : List PV) (vs : List V) (ds : List PyData), RVs K H φ xs vs → allO (xs.map f) = some ds → DpAll K H vs ds
  | [], vs, ds, h, e => by cases h; cases e; exact .nil
  | x :: xs, vs, ds, h, e => by
    obtain ⟨v, r, rfl, h1, h2⟩ := h
    simp only [List.map_cons] at e
    cases hx : f x with
    | none => rw [hx] at e; simp at e
    | some d =>
      rw [hx] at e
      cases hr : allO (xs.map f) with
      | none => simp [hr] at e
      | some dr =>
        simp [hr] at e
        subst e
        exact .cons (hf _ _ _ h1 hx) (dpAll hf xs r dr h2 hr)
theorem dp_of (h : RH K H φ m) : ∀ (n : Nat) (x : PV) (v : V) (d : PyData), RV K H φ x v → toD m n x = some d → Dp K H v d
  | 0, .non, v, d, r, e => by cases r; cases e; exact .non
  | 0, .bl _, v, d, r, e => by cases r; cases e; exact .bl _
  | 0, .int _, v, d, r, e => by cases r; cases e; exact .int _
  | 0, .str _, v, d, r, e => by cases r; cases e; exact .str _
  | 0, .tup _, v, d, r, e => by cases e
  | 0, .ref _, v, d, r, e => by cases e
  | n + 1, .non, v, d, r, e => by cases r; cases e; exact .non
  | n + 1, .bl _, v, d, r, e => by cases r; cases e; exact .bl _
  | n + 1, .int _, v, d, r, e => by cases r; cases e; exact .int _
  | n + 1, .str _, v, d, r, e => by cases r; cases e; exact .str _
  | n + 1, .tup xs, v, d, r, e => by
    obtain ⟨a, vs, rfl, h1, h2⟩ := r
    simp only [toD] at e
    cases hr : allO (xs.map (toD m n)) with
    | none => simp [hr] at e
    | some ds =>
      simp [hr] at e
      subst e
      exact .tup h1 (dpAll (fun x v d r e => dp_of h n x v d r e) xs vs ds h2 hr)
  | n + 1, .ref i, v, d, r, e => by
    simp only [toD] at e
    cases hs : seq? m i with
    | none => rw [hs] at e; cases e
    | some xs =>
      rw [hs] at e
      obtain ⟨a, vs, rfl, h1, h2⟩ := h.seq r hs
      cases hr : allO (xs.map (toD m n)) with
      | none => simp [hr] at e
      | some ds =>
        simp [hr] at e
        subst e
        exact .lst h1 (dpAll (fun x v d r e => dp_of h n x v d r e) xs vs ds h2 hr)
end
/-- two values as data: equal or not -/
def eqD (m : MH) (x y : PV) : Option Bool := match toD m 8 x, toD m 8 y with
  | some d, some e => if SeqAt.shaped d = true ∧ SeqAt.shaped e = true then some (PyData.eqv d e) else none
  | _, _ => none
def eqV (m : MH) (x y : PV) : Option Bool := match eqF x y with
  | some b => some b
  | none => eqD m x y
def eqv : PV → PV → MH → OR := fun x y m => (eqV m x y).map fun b => (.bl b, m)
def nev : PV → PV → MH → OR := fun x y m => (eqV m x y).map fun b => (.bl (!b), m)
theorem eqV_flat {m : MH} {x y : PV} {b : Bool} (h : eqF x y = some b) : eqV m x y = some b := by unfold eqV; rw [h]
/-- x in a list, as data -/
def inD (m : MH) (x y : PV) : Option Bool := match toD m 8 x, y with
  | some d, .ref i => match toD m 8 (.ref i) with
    | some (.list ds) => if SeqAt.shaped d = true ∧ SeqAt.shaped (.list ds) = true then some (ds.any fun z => PyData.eqv z d) else none
    | _ => none
  | _, _ => none
def inv : PV → PV → MH → OR := fun x y m => (inD m x y).map fun b => (.bl b, m)
def ninv : PV → PV → MH → OR := fun x y m => (inD m x y).map fun b => (.bl (!b), m)
section
variable {X : Cx} {k : Nat}
theorem o_eq (hr : Room k X.A) : OpQ X (compareOp .Eq) eqv := .of_eq fun v w H Q φ m x y h1 h2 h3 h4 => by
  unfold eqv eqV at h4
  cases hf : eqF x y with
  | some b =>
    rw [hf] at h4
    obtain ⟨s1, s2⟩ := eqF_scal hf h2 h3
    exact ⟨_, op_eq, s1, by rw [s2]; exact h4.same h1 rfl⟩
  | none =>
    rw [hf] at h4
    unfold eqD at h4
    cases hx : toD m 8 x with
    | none => rw [hx] at h4; exact h4.not.elim
    | some d =>
      cases hy : toD m 8 y with
      | none => rw [hx, hy] at h4; exact h4.not.elim
      | some e =>
        rw [hx, hy] at h4
        simp only at h4
        split at h4
        · rename_i hz
          exact ⟨_, op_eqD hr.units, d, e, dp_of h1 8 x v d h2 hx, dp_of h1 8 y w e h3 hy, hz.1, hz.2, h4.same h1 rfl⟩
        · exact h4.not.elim
theorem o_ne (hr : Room k X.A) : OpQ X (compareOp .NotEq) nev := .of_eq fun v w H Q φ m x y h1 h2 h3 h4 => by
  unfold nev eqV at h4
  cases hf : eqF x y with
  | some b =>
    rw [hf] at h4
    obtain ⟨s1, s2⟩ := eqF_scal hf h2 h3
    exact ⟨_, op_ne, s1, by rw [s2]; exact h4.same h1 rfl⟩
  | none =>
    rw [hf] at h4
    unfold eqD at h4
    cases hx : toD m 8 x with
    | none => rw [hx] at h4; exact h4.not.elim
    | some d =>
      cases hy : toD m 8 y with
      | none => rw [hx, hy] at h4; exact h4.not.elim
      | some e =>
        rw [hx, hy] at h4
        simp only at h4
        split at h4
        · rename_i hz
          exact ⟨_, op_neD hr.units, d, e, dp_of h1 8 x v d h2 hx, dp_of h1 8 y w e h3 hy, hz.1, hz.2, h4.same h1 rfl⟩
        · exact h4.not.elim
theorem o_in (hr : Room k X.A) : OpQ X (compareOp .In) inv := .of_eq fun v w H Q φ m x y h1 h2 h3 h4 => by
  unfold inv inD at h4
  split at h4
  · rename_i d i hx
    split at h4
    · rename_i ds hy
      split at h4
      · rename_i hz
        exact ⟨_, op_inD (by have := hr.un; omega), d, ds, dp_of h1 8 x v d h2 hx, dp_of h1 8 _ w _ h3 hy, hz.1, hz.2, h4.same h1 rfl⟩
      · exact h4.not.elim
    · exact h4.not.elim
  · exact h4.not.elim
theorem o_nin (hr : Room k X.A) : OpQ X (compareOp .NotIn) ninv := .of_eq fun v w H Q φ m x y h1 h2 h3 h4 => by
  unfold ninv inD at h4
  split at h4
  · rename_i d i hx
    split at h4
    · rename_i ds hy
      split at h4
      · rename_i hz
        exact ⟨_, op_notInD (by have := hr.un; omega), d, ds, dp_of h1 8 x v d h2 hx, dp_of h1 8 _ w _ h3 hy, hz.1, hz.2, h4.same h1 rfl⟩
      · exact h4.not.elim
    · exact h4.not.elim
  · exact h4.not.elim
end

/-! ## subscripts, stores -/
def ixv : PV → PV → MH → OR
  | .ref n, .int i, m => match seq? m n with
    | some xs => (atI xs i).map fun x => (x, m)
    | none => none
  | .tup xs, .int i, m => (atI xs i).map fun x => (x, m)
  | .str s, .int i, m => if s.length ≤ 16777216 then (atI s i).map fun c => (.str [c], m) else none
  | _, _, _ => none
def setv : PV → PV → PV → MH → Option MH
  | .ref n, .int i, v, m => match lst? m n with
    | some xs => (ixN xs.length i).map fun j => m.set n (.lst (xs.set j v))
    | none => none
  | _, _, _, _ => none
section
variable {X : Cx} {W : XM} {a b : Expr} {sa sb : SE} {pos : Pos}
theorem RVs.atI {K : PySem.W.Frag} {H : Hp} {φ : List Addr} {xs : List PV} {vs : List V} {i : Int} {x : PV} (h : RVs K H φ xs vs) (e : L2.atI xs i = some x) : ∃ v, L2.atI vs i = some v ∧ RV K H φ x v := by
  unfold L2.atI at e ⊢
  rw [h.length]
  cases hx : ixN xs.length i with
  | none => rw [hx] at e; cases e
  | some j =>
    rw [hx] at e
    obtain ⟨v, h1, h2⟩ := h.get (i := j) (x := x) e
    exact ⟨v, h1, h2⟩
theorem IxR.ofQ {op : PV → PV → MH → OR} (h : ∀ (v w : V) (H : Hp) (Q : VK) φ m x y, RH X.K H φ m → RV X.K H φ x v → RV X.K H φ y w → PostO X.K φ H (op x y m) Q → ∃ r : R2, IxR X r ∧ r v w H Q) :
    IxR X (fun v w H Q => ∃ φ m x y, RH X.K H φ m ∧ RV X.K H φ x v ∧ RV X.K H φ y w ∧ PostO X.K φ H (op x y m) Q) := by
  intro value slice pins s σ H x y v u Q I rx ry ⟨φ, m, px, py, h1, h2, h3, h4⟩ hs
  obtain ⟨r, hr, q⟩ := h x y H Q φ m px py h1 h2 h3 h4
  exact hr value slice pins s σ H x y v u Q I rx ry q hs
theorem o_ix : IxR X (fun v w H Q => ∃ φ m x y, RH X.K H φ m ∧ RV X.K H φ x v ∧ RV X.K H φ y w ∧ PostO X.K φ H (ixv x y m) Q) := IxR.ofQ fun v w H Q φ m x y h1 h2 h3 h4 => by
  unfold ixv at h4
  split at h4
  · rename_i n i
    cases h3
    split at h4
    · rename_i xs hs
      obtain ⟨p, vs, rfl, q1, q2⟩ := h1.seq h2 hs
      cases hx : L2.atI xs i with
      | none => rw [hx] at h4; exact h4.not.elim
      | some x =>
        rw [hx] at h4
        obtain ⟨v, e1, e2⟩ := q2.atI hx
        exact ⟨_, ix_list, p, vs, i, v, rfl, rfl, q1, e1, h4.same h1 e2⟩
    · exact h4.not.elim
  · rename_i xs i
    cases h3
    obtain ⟨p, vs, rfl, q1, q2⟩ := h2
    cases hx : L2.atI xs i with
    | none => rw [hx] at h4; exact h4.not.elim
    | some x =>
      rw [hx] at h4
      obtain ⟨v, e1, e2⟩ := q2.atI hx
      exact ⟨_, ix_tup, p, vs, i, v, rfl, rfl, q1, e1, h4.same h1 e2⟩
  · rename_i s i
    cases h2; cases h3
    split at h4
    · rename_i hz
      cases hx : L2.atI s i with
      | none => rw [hx] at h4; exact h4.not.elim
      | some x =>
        rw [hx] at h4
        exact ⟨_, ix_str, _, i, x, rfl, rfl, by rw [str_len, sl_eq]; exact hz, by simpa using hx, h4.same h1 rfl⟩
    · exact h4.not.elim
  · exact h4.not.elim
theorem q_ix (ha : QE X W a sa) (hb : QE X W b sb) (hs : PlainIx b) : QE X W (.Subscript a b pos) (sOp ixv sa sb) :=
  ⟨pe_imp (pe_ix o_ix ha.pe hb.pe hs) fun σ H Q h => (two h).mono fun v H1 h1 => Rdg.mono h1 fun w H2 ⟨φ, m, x, y, _, c1, c2, c3, c4⟩ => ⟨φ, m, x, y, c1, c2, c3, .of c4⟩⟩

/-! ## argument lists, displays -/
variable {e : Expr} {es : List Expr} {se : SE} {ses : SA}
def aNil : SA := fun _ m => .ok [] m
def aCons (a : SE) (r : SA) : SA := fun l m => (a l m).bind fun x m1 => (r l m1).bind fun xs m2 => .ok (x :: xs) m2
theorem a_nil : QA X W [] aNil := ⟨pa_imp pa_nil fun σ H Q ⟨φ, l, m, h1, h2, h3⟩ => h3 φ H [] Ext.refl h1 rfl⟩
theorem a_cons (he : QE X W e se) (hr : QA X W es ses) (hs : starEach (e :: es) X.env = (false, eval e X.env) :: starEach es X.env := by rfl) : QA X W (e :: es) (aCons se ses) :=
  ⟨pa_imp (pa_cons he.pe hr.pa hs) fun σ H Q ⟨φ, l, m, h1, h2, h3⟩ => ⟨φ, l, m, h1, h2, (Post.bind (rel := rV X.K) h2 h3).mono fun v H1 ⟨φ1, x, m1, e1, a1, b1, c1, d1⟩ =>
    ⟨φ1, l, m1, a1, b1, (Post.bind (rel := rA X.K) b1 d1).mono fun vs H2 ⟨φ2, xs, m2, e2, a2, b2, c2, d2⟩ => d2 φ2 H2 (v :: vs) Ext.refl a2 ⟨v, vs, rfl, RV.ext e2 c1, c2⟩⟩⟩⟩
theorem oneA {K : PySem.W.Frag} {a : SA} {σ : L2.St} {H : Hp} {α β : Type} {rel : SM.Rel α β} {k : List PV → MH → R α} {Q : β → Hp → Prop} (h : Rdg K rel W (fun l m => (a l m).bind fun x m1 => k x m1) σ H Q) :
    Rdg K (rA K) W a σ H fun v H1 => ∃ φ m x l, RH K H1 φ m ∧ RVs K H1 φ x v ∧ Post K rel W φ l σ H1 (k x m) Q := by
  obtain ⟨φ, l, m, h1, h2, h3⟩ := h
  refine ⟨φ, l, m, h1, h2, (Post.bind (rel := rA K) h2 h3).mono ?_⟩
  rintro v H1 ⟨φ1, x, m1, e1, a1, b1, c1, d1⟩
  exact ⟨φ1, m1, x, l, a1, c1, d1⟩
def sTup (s : SA) : SE := fun l m => (s l m).bind fun xs m1 => if xs.length ≤ 16777216 then .ok (.tup xs) m1 else .bad
def sLst (s : SA) : SE := fun l m => (s l m).bind fun xs m1 => if xs.length ≤ 16777216 then .ok (.ref m1.length) (m1 ++ [.lst xs]) else .bad
theorem q_tup {x1} (h : QA X W es ses) : QE X W (.Tuple es x1 pos) (sTup ses) := ⟨pe_imp (pe_tup h.pa) fun σ H Q q => (oneA q).mono fun vs H1 ⟨φ, m, xs, _, c1, c2, c3⟩ => by
  by_cases hz : xs.length ≤ 16777216
  · rw [if_pos hz] at c3
    exact ⟨by rw [c2.length, sl_eq]; exact hz, fun p np => by
      obtain ⟨e, a, b⟩ := c1.newT np c2
      exact c3 _ _ _ e a b⟩
  · rw [if_neg hz] at c3
    exact c3.elim⟩
theorem q_lst (h : QA X W es ses) : QE X W (.List es pos) (sLst ses) := ⟨pe_imp (pe_lst h.pa) fun σ H Q q => (oneA q).mono fun vs H1 ⟨φ, m, xs, _, c1, c2, c3⟩ => by
  by_cases hz : xs.length ≤ 16777216
  · rw [if_pos hz] at c3
    exact ⟨by rw [c2.length, sl_eq]; exact hz, fun p np => by
      obtain ⟨e, a, b⟩ := c1.newL np c2
      exact c3 _ _ _ e a b⟩
  · rw [if_neg hz] at c3
    exact c3.elim⟩

/-! ## calls of builtins -/
def CrQ (X : Cx) (f : Value) (op : List PV → MH → OR) : Prop := CallR X f fun vs H Q => ∃ φ m xs, RH X.K H φ m ∧ RVs X.K H φ xs vs ∧ PostO X.K φ H (op xs m) Q
def MtQ (X : Cx) (id : String) (op : PV → List PV → MH → OR) : Prop := MtR X id fun v vs H Q => ∃ φ m x xs, RH X.K H φ m ∧ RV X.K H φ x v ∧ RVs X.K H φ xs vs ∧ PostO X.K φ H (op x xs m) Q
def sCall (op : List PV → MH → OR) (a : SA) : SE := fun l m => (a l m).bind fun xs m1 => lift (op xs m1)
variable {x : Str} {p : Pos} {id T : String} {op : List PV → MH → OR}
theorem q_callB (hc : CrQ X (.builtin id) op) (hg : Gl X x) (hm : X.mg x = none) (hv : bootBuiltins x = some (.builtin id)) (ha : QA X W (e :: es) ses) (hn : x ≠ "__name__" := by decide) (hdb : (x == ("__debug__" : Str)) = false := by decide)
    (he : starEach (e :: es) X.env = (false, eval e X.env) :: starEach es X.env := by rfl) (hpl : (backTo pos (starEach es X.env)).any (·.1) = false := by rfl) : QE X W (.Call (.Name x p) (e :: es) [] pos) (sCall op ses) :=
  ⟨pe_imp (pe_callB hc hg hm hv ha.pa hn hdb he hpl) fun σ H Q q => (oneA q).mono fun vs H1 ⟨φ, m, xs, _, c1, c2, c3⟩ => ⟨φ, m, xs, c1, c2, .of c3⟩⟩
theorem q_callTy (hc : CrQ X (.type T) op) (hg : Gl X x) (hm : X.mg x = none) (hv : bootBuiltins x = some (.type T)) (ha : QA X W (e :: es) ses) (hn : x ≠ "__name__" := by decide) (hdb : (x == ("__debug__" : Str)) = false := by decide)
    (he : starEach (e :: es) X.env = (false, eval e X.env) :: starEach es X.env := by rfl) (hpl : (backTo pos (starEach es X.env)).any (·.1) = false := by rfl) : QE X W (.Call (.Name x p) (e :: es) [] pos) (sCall op ses) :=
  ⟨pe_imp (pe_callTy hc hg hm hv ha.pa hn hdb he hpl) fun σ H Q q => (oneA q).mono fun vs H1 ⟨φ, m, xs, _, c1, c2, c3⟩ => ⟨φ, m, xs, c1, c2, .of c3⟩⟩
theorem q_callF (hc : CrQ X (.builtin id) op) (hg : Gl X x) (hm : X.mg x = some (.builtin id)) (ha : QA X W (e :: es) ses) (hdb : (x == ("__debug__" : Str)) = false := by decide)
    (he : starEach (e :: es) X.env = (false, eval e X.env) :: starEach es X.env := by rfl) (hpl : (backTo pos (starEach es X.env)).any (·.1) = false := by rfl) : QE X W (.Call (.Name x p) (e :: es) [] pos) (sCall op ses) :=
  ⟨pe_imp (pe_callBfun hc hg hm ha.pa hdb he hpl) fun σ H Q q => (oneA q).mono fun vs H1 ⟨φ, m, xs, _, c1, c2, c3⟩ => ⟨φ, m, xs, c1, c2, .of c3⟩⟩
theorem CrQ.of {f : Value} {op : List PV → MH → OR} (h : ∀ (vs : List V) (H : Hp) (Q : VK) φ m xs, RH X.K H φ m → RVs X.K H φ xs vs → PostO X.K φ H (op xs m) Q → ∃ r, CallR X f r ∧ r vs H Q) : CrQ X f op := by
  intro pins s σ H xs us Q I rs ⟨φ, m, ps, h1, h2, h3⟩
  obtain ⟨r, hr, q⟩ := h xs H Q φ m ps h1 h2 h3
  exact hr pins s σ H xs us Q I rs q
theorem MtQ.of {op : PV → List PV → MH → OR} (h : ∀ (v : V) (vs : List V) (H : Hp) (Q : VK) φ m x xs, RH X.K H φ m → RV X.K H φ x v → RVs X.K H φ xs vs → PostO X.K φ H (op x xs m) Q → ∃ r, MtR X id r ∧ r v vs H Q) : MtQ X id op := by
  intro pins s σ H x xs v us Q I rx rs ⟨φ, m, px, ps, h1, h2, h3, h4⟩
  obtain ⟨r, hr, q⟩ := h x xs H Q φ m px ps h1 h2 h3 h4
  exact hr pins s σ H x xs v us Q I rx rs q
theorem RVs.one {K : PySem.W.Frag} {H : Hp} {φ : List Addr} {x : PV} {vs : List V} (h : RVs K H φ [x] vs) : ∃ v, vs = [v] ∧ RV K H φ x v := by
  obtain ⟨v, r, rfl, h1, h2⟩ := h
  cases h2
  exact ⟨v, rfl, h1⟩
theorem RVs.two {K : PySem.W.Frag} {H : Hp} {φ : List Addr} {x y : PV} {vs : List V} (h : RVs K H φ [x, y] vs) : ∃ v w, vs = [v, w] ∧ RV K H φ x v ∧ RV K H φ y w := by
  obtain ⟨v, r, rfl, h1, h2⟩ := h
  obtain ⟨w, rfl, h3⟩ := RVs.one h2
  exact ⟨v, w, rfl, h1, h3⟩
def lenv : List PV → MH → OR
  | [.ref n], m => (seq? m n).map fun xs => (.int xs.length, m)
  | [.tup xs], m => some (.int xs.length, m)
  | [.str s], m => if s.length ≤ 16777216 then some (.int s.length, m) else none
  | _, _ => none
theorem c_len : CrQ X (.builtin "len") lenv := .of fun vs H Q φ m xs h1 h2 h4 => by
  unfold lenv at h4
  split at h4
  · rename_i n
    obtain ⟨v, rfl, r⟩ := h2.one
    cases hs : seq? m n with
    | none => rw [hs] at h4; exact h4.not.elim
    | some xs =>
      rw [hs] at h4
      obtain ⟨p, vs, rfl, q1, q2⟩ := h1.seq r hs
      exact ⟨_, call_len_seq, p, vs, rfl, .inl q1, by rw [q2.length]; exact h4.same h1 rfl⟩
  · obtain ⟨v, rfl, p, vs, rfl, q1, q2⟩ := h2.one
    exact ⟨_, call_len_seq, p, vs, rfl, .inr q1, by rw [q2.length]; exact h4.same h1 rfl⟩
  · obtain ⟨v, rfl, r⟩ := h2.one
    cases r
    split at h4
    · rename_i hz
      exact ⟨_, call_len_str, _, rfl, by rw [str_len, sl_eq]; exact hz, by rw [str_len]; exact h4.same h1 rfl⟩
    · exact h4.not.elim
  · exact h4.not.elim
def absv : List PV → MH → OR
  | [.int i], m => some (.int (if i < 0 then -i else i), m)
  | _, _ => none
theorem c_abs : CrQ X (.builtin "abs") absv := .of fun vs H Q φ m xs h1 h2 h4 => by
  unfold absv at h4
  split at h4
  · obtain ⟨v, rfl, r⟩ := h2.one
    cases r
    exact ⟨_, call_abs, _, rfl, h4.same h1 rfl⟩
  · exact h4.not.elim
def max2v : List PV → MH → OR
  | [.int i, .int j], m => some (.int (if j > i then j else i), m)
  | _, _ => none
def min2v : List PV → MH → OR
  | [.int i, .int j], m => some (.int (if j < i then j else i), m)
  | _, _ => none
theorem c_max2 (hc : X.calm = true) : CrQ X (.builtin "max") max2v := .of fun vs H Q φ m xs h1 h2 h4 => by
  unfold max2v at h4
  split at h4
  · obtain ⟨v, w, rfl, r, r'⟩ := h2.two
    cases r; cases r'
    exact ⟨_, call_max2 hc, _, _, rfl, h4.same h1 rfl⟩
  · exact h4.not.elim
theorem c_min2 (hc : X.calm = true) : CrQ X (.builtin "min") min2v := .of fun vs H Q φ m xs h1 h2 h4 => by
  unfold min2v at h4
  split at h4
  · obtain ⟨v, w, rfl, r, r'⟩ := h2.two
    cases r; cases r'
    exact ⟨_, call_min2 hc, _, _, rfl, h4.same h1 rfl⟩
  · exact h4.not.elim
def intv : List PV → MH → OR
  | [.int i], m => some (.int i, m)
  | [.bl b], m => some (.int (if b then 1 else 0), m)
  | _, _ => none
theorem c_int : CrQ X (.type "int") intv := .of fun vs H Q φ m xs h1 h2 h4 => by
  unfold intv at h4
  split at h4
  · obtain ⟨v, rfl, r⟩ := h2.one
    cases r
    exact ⟨_, call_int1, .inl ⟨_, rfl, h4.same h1 rfl⟩⟩
  · obtain ⟨v, rfl, r⟩ := h2.one
    cases r
    exact ⟨_, call_int1, .inr ⟨_, rfl, h4.same h1 rfl⟩⟩
  · exact h4.not.elim
def gcdv : List PV → MH → OR
  | [.int i, .int j], m => some (.int (Nat.gcd i.natAbs j.natAbs : Nat), m)
  | _, _ => none
theorem c_gcd : CrQ X (.builtin "math.gcd") gcdv := .of fun vs H Q φ m xs h1 h2 h4 => by
  unfold gcdv at h4
  split at h4
  · obtain ⟨v, w, rfl, r, r'⟩ := h2.two
    cases r; cases r'
    exact ⟨_, cr_gcd, _, _, rfl, h4.same h1 rfl⟩
  · exact h4.not.elim

/-! ## isinstance -/
def tyName : PV → String
  | .non => "NoneType" | .bl _ => "bool" | .int _ => "int" | .str _ => "str" | .tup _ => "tuple" | .ref _ => "list"
def okTy (m : MH) : PV → Bool
  | .ref n => (seq? m n).isSome
  | _ => true
def isTab : String → String → Bool
  | "bool", "int" => true
  | a, b => a == b
theorem tyx_of {K : PySem.W.Frag} {H : Hp} {φ : List Addr} {m : MH} (h : RH K H φ m) : ∀ {x : PV} {v : V}, RV K H φ x v → okTy m x = true → TyX K H v (.type (tyName x))
  | .non, _, r, _ => by cases r; exact .base .non
  | .bl _, _, r, _ => by cases r; exact .base (.bl _)
  | .int _, _, r, _ => by cases r; exact .base (.int _)
  | .str _, _, r, _ => by cases r; exact .base (.str _)
  | .tup xs, v, r, _ => by
    obtain ⟨p, vs, rfl, q1, q2⟩ := r
    rcases q1 with (q | ⟨o, q⟩) | ⟨o, its, n, q, c, _⟩
    · exact .base (.tup q)
    · exact .fTuple q
    · exact .kTuple q c
  | .ref n, v, r, hk => by
    simp only [okTy] at hk
    cases hs : seq? m n with
    | none => rw [hs] at hk; cases hk
    | some xs =>
      obtain ⟨p, vs, rfl, q1, q2⟩ := h.seq r hs
      rcases q1 with (q | ⟨o, q⟩) | ⟨o, its, n, q, c, _⟩
      · exact .base (.lst q)
      · exact .base (.frz q)
      · exact .kList q c
theorem kit_tab : ∀ a ∈ ["NoneType", "bool", "int", "str", "tuple", "list"], ∀ T ∈ ["list", "tuple", "bool", "str", "int"], kitB a T = some (isTab a T) := by decide +kernel
theorem kit_all {K : PySem.W.Frag} {T : String} (hT : T = "list" ∨ T = "tuple" ∨ T = "bool" ∨ T = "str" ∨ T = "int") (x : PV) : PySem.W.kitOne K (.type (tyName x)) (.type T) = some (isTab (tyName x) T) := by
  refine kit_ty (kit_tab _ ?_ _ ?_)
  · cases x <;> simp [tyName]
  · simpa using hT
def sIsi (T : String) (a : SE) : SE := fun l m => (a l m).bind fun x m1 => if okTy m1 x = true then .ok (.bl (isTab (tyName x) T)) m1 else .bad
theorem q_isi {Tn : Str} {pT : Pos} (hT : T = "list" ∨ T = "tuple" ∨ T = "bool" ∨ T = "str" ∨ T = "int") (hg : Gl X "isinstance") (hm : X.mg "isinstance" = none) (hgT : Gl X Tn) (hmT : X.mg Tn = none) (hvT : bootBuiltins Tn = some (.type T)) (ha : QE X W a sa)
    (hn : Tn ≠ "__name__" := by decide) (hd : (Tn == ("__debug__" : Str)) = false := by decide)
    (he : starEach [a, .Name Tn pT] X.env = [(false, eval a X.env), (false, eval (.Name Tn pT) X.env)] := by rfl)
    (he2 : starEach [.Name Tn pT] X.env = [(false, eval (.Name Tn pT) X.env)] := by rfl) :
    QE X W (.Call (.Name "isinstance" p) [a, .Name Tn pT] [] pos) (sIsi T sa) :=
  ⟨pe_imp (pe_callB call_isi hg hm (by decide +kernel) (pa_cons ha.pe (pa_cons (pe_bltn (v := .ty T) hgT hmT hvT rfl hn hd) pa_nil (by rw [he2] <;> rfl)) (by rw [he, he2])) (by decide) (by decide) (by rw [he, he2]) (by rw [he2] <;> rfl)) fun σ H Q h => (one h).mono fun v H1 ⟨φ, m, x, _, c1, c2, c4⟩ => by
    by_cases hk : okTy m x = true
    · rw [if_pos hk] at c4
      exact ⟨v, .ty T, _, _, _, rfl, .ty T, tyx_of c1 c2 hk, kit_all hT x, c4 φ H1 _ Ext.refl c1 rfl⟩
    · rw [if_neg hk] at c4
      exact c4.elim⟩

/-! ## methods of built-in types -/
def isLst (m : MH) : PV → Bool
  | .ref n => (seq? m n).isSome
  | _ => false
def isStr : PV → Bool
  | .str _ => true
  | _ => false
def sMeth (ty : MH → PV → Bool) (op : PV → List PV → MH → OR) (o : SE) (a : SA) : SE := fun l m => (o l m).bind fun x m1 => if ty m1 x = true then (a l m1).bind fun xs m2 => lift (op x xs m2) else .bad
def TyQ (X : Cx) (T : String) (ty : MH → PV → Bool) : Prop := ∀ H φ m x v, RH X.K H φ m → RV X.K H φ x v → ty m x = true → tyV X.K T v H
theorem ty_list : TyQ X "list" isLst := fun H φ m x v h r e => by
  cases x with
  | ref n =>
    simp only [isLst] at e
    cases hs : seq? m n with
    | none => rw [hs] at e; cases e
    | some xs =>
      obtain ⟨p, vs, rfl, q1, q2⟩ := h.seq r hs
      exact .inl ⟨rfl, vs, q1⟩
  | _ => cases e
theorem ty_str : TyQ X "str" (fun _ => isStr) := fun H φ m x v h r e => by
  cases x with
  | str s => cases r; rfl
  | _ => cases e
variable {o : Expr} {name : Str} {apos cpos : Pos} {ty : MH → PV → Bool} {mop : PV → List PV → MH → OR} {so : SE}
theorem q_m (hty : TyQ X T ty) (pa : PlainAttrs T) (slot : Slot T name id) (hty' : typeOf (.builtin id) = pure (.type "method_descriptor")) (hm : MtQ X id mop) (ho : QE X W o so) (ha : QA X W (e :: es) ses)
    (hbase : attributeBase o name X.env (eval o X.env) = eval o X.env := by rfl)
    (hfew : ((backTo cpos (starEach (e :: es) X.env)).all (fun x => !x.1) && (backToKw cpos (keywordEach [] X.env)).all (fun x => x.1.isSome)
      && decide ((e :: es).length + ([] : List Keyword).length + (if ([] : List Keyword).isEmpty then 0 else 1) < 30)) = true := by rfl)
    (hline : (apos.endLine == cpos.line) = true := by rfl) (hs : starEach (e :: es) X.env = (false, eval e X.env) :: starEach es X.env := by rfl) (hplain : (backTo cpos (starEach es X.env)).any (·.1) = false := by rfl) :
    QE X W (.Call (.Attribute o name apos) (e :: es) [] cpos) (sMeth ty mop so ses) :=
  ⟨pe_imp (pe_bm pa slot hty' hm ho.pe ha.pa hbase hfew hline hs hplain) fun σ H Q ⟨φ, l, m, h1, h2, h3⟩ => ⟨φ, l, m, h1, h2, (Post.bind (rel := rV X.K) h2 h3).mono fun v H1 ⟨φ1, x, m1, e1, a1, b1, c1, d1⟩ => by
    by_cases hk : ty m1 x = true
    · rw [if_pos hk] at d1
      exact ⟨hty _ _ _ _ _ a1 c1 hk, φ1, l, m1, a1, b1, (Post.bind (rel := rA X.K) b1 d1).mono fun vs H2 ⟨φ2, xs, m2, e2, a2, b2, c2, d2⟩ => ⟨φ2, m2, x, xs, a2, RV.ext e2 c1, c2, .of d2⟩⟩
    · rw [if_neg hk] at d1
      exact d1.elim⟩⟩
theorem q_m0 (hty : TyQ X T ty) (pa : PlainAttrs T) (slot : Slot T name id) (hty' : typeOf (.builtin id) = pure (.type "method_descriptor")) (hm : MtQ X id mop) (ho : QE X W o so)
    (hbase : attributeBase o name X.env (eval o X.env) = eval o X.env := by rfl) (hline : (apos.endLine == cpos.line) = true := by rfl) : QE X W (.Call (.Attribute o name apos) [] [] cpos) (sMeth ty mop so aNil) :=
  ⟨pe_imp (pe_bm0 pa slot hty' hm ho.pe hbase hline) fun σ H Q ⟨φ, l, m, h1, h2, h3⟩ => ⟨φ, l, m, h1, h2, (Post.bind (rel := rV X.K) h2 h3).mono fun v H1 ⟨φ1, x, m1, e1, a1, b1, c1, d1⟩ => by
    by_cases hk : ty m1 x = true
    · rw [if_pos hk] at d1
      exact ⟨hty _ _ _ _ _ a1 c1 hk, φ1, m1, x, [], a1, c1, rfl, .of d1⟩
    · rw [if_neg hk] at d1
      exact d1.elim⟩⟩
def appendv : PV → List PV → MH → OR
  | .ref n, [y], m => match lst? m n with
    | some xs => if xs.length < 16777216 then some (.non, m.set n (.lst (xs ++ [y]))) else none
    | none => none
  | _, _, _ => none
theorem m_append : MtQ X "list.append" appendv := .of fun v vs H Q φ m x xs h1 h2 h3 h4 => by
  unfold appendv at h4
  split at h4
  · rename_i n y
    split at h4
    · rename_i ys hs
      split at h4
      · rename_i hz
        obtain ⟨w, rfl, r⟩ := h3.one
        obtain ⟨p, ws, e1, rfl, q1, q2⟩ := h1.lst h2 hs
        obtain ⟨z, m', e, q⟩ := h4
        cases e
        refine ⟨_, mt_append, p, ws, w, rfl, rfl, q1, by rw [q2.length, sl_eq]; exact hz, ?_⟩
        obtain ⟨e2, e3⟩ := h1.setL e1 (lst_some hs) (q2.append (show RVs X.K H φ [y] [w] from ⟨w, [], rfl, r, rfl⟩))
        exact q _ _ _ e2 e3 rfl
      · exact h4.not.elim
    · exact h4.not.elim
  · exact h4.not.elim
end
end SM

set_option Elab.async false
set_option linter.all false
set_option maxRecDepth 100000
set_option maxHeartbeats 1000000
namespace SM
open PySem PySem.Spec PyProof.Rows L2

/-! ## tests -/
def asB : PV → MH → R Bool
  | .bl b, m => .ok b m
  | _, _ => .bad
def truv (m : MH) : PV → Option Bool
  | .non => some false
  | .bl b => some b
  | .int i => some (i != 0)
  | .str s => if s.length ≤ 16777216 then some (!s.isEmpty) else none
  | .tup xs => some (!xs.isEmpty)
  | .ref n => (seq? m n).map fun xs => !xs.isEmpty
def tTru (s : SE) : SB := fun l m => (s l m).bind fun x m1 => match truv m1 x with
  | some b => .ok b m1
  | none => .bad
def tBool (s : SE) : SB := fun l m => (s l m).bind asB
def tNotS (s : SB) : SB := fun l m => (s l m).bind fun b m1 => .ok (!b) m1
def tAndS (s t : SB) : SB := fun l m => (s l m).bind fun b m1 => if b = true then t l m1 else .ok false m1
def tOrS (s t : SB) : SB := fun l m => (s l m).bind fun b m1 => if b = true then .ok true m1 else t l m1
def sChain (f g : PV → PV → MH → OR) (a b c : SE) : SE := fun l m => (a l m).bind fun x m1 => (b l m1).bind fun y m2 => (lift (f x y m2)).bind fun z m3 => (asB z m3).bind fun k m4 => if k = true then (c l m4).bind fun u m5 => lift (g y u m5) else .ok (.bl false) m4
def sIf (t : SB) (a b : SE) : SE := fun l m => (t l m).bind fun k m1 => if k = true then a l m1 else b l m1
def sAndV (a b : SE) : SE := fun l m => (a l m).bind fun x m1 => (asB x m1).bind fun k m2 => if k = true then b l m2 else .ok (.bl false) m2
def sOrV (a b : SE) : SE := fun l m => (a l m).bind fun x m1 => (asB x m1).bind fun k m2 => if k = true then .ok (.bl true) m2 else b l m2
def sNotV (a : SE) : SE := fun l m => (a l m).bind fun x m1 => (asB x m1).bind fun k m2 => .ok (.bl (!k)) m2
theorem isEmpty_len {α β : Type} {xs : List α} {ys : List β} (h : xs.length = ys.length) : xs.isEmpty = ys.isEmpty := by
  cases xs <;> cases ys <;> simp at h <;> rfl
section
variable {K : PySem.W.Frag} {H : Hp} {φ : List Addr} {m : MH} {W : XM} {l : Loc} {σ : L2.St}
theorem truv_of (h : RH K H φ m) : ∀ {x : PV} {v : V} {b : Bool}, RV K H φ x v → truv m x = some b → TruV K v H b
  | .non, _, _, r, e => by cases r; cases e; rfl
  | .bl _, _, _, r, e => by cases r; cases e; rfl
  | .int _, _, _, r, e => by cases r; cases e; rfl
  | .str s, _, b, r, e => by
    cases r
    simp only [truv] at e
    split at e
    · rename_i hz
      cases e
      refine ⟨by rw [str_len, sl_eq]; exact hz, ?_⟩
      rw [str_len]
      cases s with
      | nil => rfl
      | cons a s =>
        have hne : (((a :: s).length : Nat) : Int) ≠ 0 := by simp; omega
        rw [bne_iff_ne.mpr hne]; rfl
    · cases e
  | .tup xs, v, b, r, e => by
    obtain ⟨p, vs, rfl, q1, q2⟩ := r
    cases e
    exact .inr (.inl ⟨vs, q1, by rw [isEmpty_len q2.length]⟩)
  | .ref n, v, b, r, e => by
    simp only [truv] at e
    cases hs : seq? m n with
    | none => rw [hs] at e; cases e
    | some xs =>
      rw [hs] at e
      obtain ⟨p, vs, rfl, q1, q2⟩ := h.seq r hs
      cases e
      exact .inl ⟨vs, q1, by rw [isEmpty_len q2.length]⟩
theorem post_asB {x : PV} {v : V} {Q : Bool → Hp → Prop} (h1 : RH K H φ m) (r : RV K H φ x v) (h : Post K rB W φ l σ H (asB x m) Q) : ∃ k, v = .bl k ∧ Q k H := by
  unfold asB at h
  split at h
  · cases r
    exact ⟨_, rfl, h φ H _ Ext.refl h1 rfl⟩
  · exact h.elim
theorem post_asB' {α β : Type} {rel : Rel α β} {x : PV} {v : V} {k : Bool → MH → R α} {Q : β → Hp → Prop} (r : RV K H φ x v) (h : Post K rel W φ l σ H ((asB x m).bind k) Q) : ∃ c, v = .bl c ∧ Post K rel W φ l σ H (k c m) Q := by
  unfold asB at h
  split at h
  · cases r
    exact ⟨_, rfl, h⟩
  · exact h.elim
end
/-- how a heap op goes on -/
theorem PostO.bind {K : PySem.W.Frag} {W : XM} {φ : List Addr} {l : Loc} {σ : L2.St} {H : Hp} {o : OR} {α β : Type} {rel : Rel α β} {k : PV → MH → R α} {Q : β → Hp → Prop} (hl : RL K H φ l σ) (h : Post K rel W φ l σ H ((lift o).bind k) Q) :
    PostO K φ H o (fun v H1 => ∃ φ1 x m1, Ext K φ H φ1 H1 ∧ RH K H1 φ1 m1 ∧ RL K H1 φ1 l σ ∧ RV K H1 φ1 x v ∧ Post K rel W φ1 l σ H1 (k x m1) Q) := .of (Post.bind hl h)
section
variable {X : Cx} {W : XM} {a b c e : Expr} {sa sb sc s : SE} {ta tb : SB} {pos : Pos} {rest : List Expr}
theorem t_val (h : QE X W e s) (he : ∀ whole, isTrue e X.env whole = (do let v ← whole; standAt e.pos; holding [v] (truthy v)) := by intro _; rfl) : QT X W e (tTru s) :=
  ⟨pt_imp (pt_truth h.pe he) fun σ H Q q => (one q).mono fun v H1 ⟨φ, m, x, l, c1, c2, c3⟩ => by
    cases ht : truv m x with
    | none => rw [ht] at c3; exact c3.elim
    | some b =>
      rw [ht] at c3
      exact ⟨b, truv_of c1 c2 ht, c3 φ H1 b Ext.refl c1 rfl⟩⟩
theorem Rdg.asB' {σ : L2.St} {H : Hp} {Q : Bool → Hp → Prop} {K : PySem.W.Frag} (h : Rdg K rB W (tBool s) σ H Q) : Rdg K (rV K) W s σ H fun v H1 => ∃ k, v = .bl k ∧ Q k H1 := by
  obtain ⟨φ, l, m, h1, h2, h3⟩ := h
  refine ⟨φ, l, m, h1, h2, (Post.bind (rel := rV K) h2 h3).mono fun v H1 ⟨φ1, x, m1, e1, a1, b1, c1, d1⟩ => post_asB a1 c1 d1⟩
/-- a test's two readings -/
theorem t_cmp {op : CmpOp} {f : PV → PV → MH → OR} (ho : OpQ X (compareOp op) f) (ha : QE X W a sa) (hb : QE X W b sb) (hm : behindInMarks op b = false) : QT X W (.Compare a [op] [b] pos) (tBool (sOp f sa sb)) :=
  ⟨pt_imp (pt_cmpR ho ha.pe hb.pe hm) fun σ H Q h => (two (Rdg.asB' h)).mono fun v H1 h1 => Rdg.mono h1 fun w H2 ⟨φ, m, x, y, _, c1, c2, c3, c4⟩ => ⟨φ, m, x, y, c1, c2, c3, .of c4⟩⟩
theorem chain_at {f g : PV → PV → MH → OR} {α β : Type} {rel : SM.Rel α β} {kk : R PV → R α} {σ : L2.St} {H : Hp} {Q : VK} (h : Rdg X.K (rV X.K) W (sChain f g sa sb sc) σ H Q) :
    tChain (fun v w H Q => ∃ φ m x y, RH X.K H φ m ∧ RV X.K H φ x v ∧ RV X.K H φ y w ∧ PostO X.K φ H (f x y m) Q) (fun v w H Q => ∃ φ m x y, RH X.K H φ m ∧ RV X.K H φ x v ∧ RV X.K H φ y w ∧ PostO X.K φ H (g x y m) Q)
      (Rdg X.K (rV X.K) W sa) (Rdg X.K (rV X.K) W sb) (Rdg X.K (rV X.K) W sc) σ H Q := by
  obtain ⟨φ, l, m, h1, h2, h3⟩ := h
  refine ⟨φ, l, m, h1, h2, (Post.bind (rel := rV X.K) h2 h3).mono fun v H1 ⟨φ1, x, m1, e1, a1, b1, c1, d1⟩ => ⟨φ1, l, m1, a1, b1, (Post.bind (rel := rV X.K) b1 d1).mono fun w H2 ⟨φ2, y, m2, e2, a2, b2, c2, d2⟩ => ⟨φ2, m2, x, y, a2, RV.ext e2 c1, c2, ?_⟩⟩⟩
  obtain ⟨z, m3, e3, q3⟩ := PostO.bind b2 d2
  refine ⟨z, m3, e3, fun φ' H' v' f1 f2 f3 => ?_⟩
  obtain ⟨φ4, x4, m4, g1, g2, g3, g4, g5⟩ := q3 φ' H' v' f1 f2 f3
  obtain ⟨k, rfl, g6⟩ := post_asB' g4 g5
  refine ⟨k, rfl, ?_⟩
  cases k with
  | true =>
    refine iteT ⟨φ4, l, m4, g2, g3, (Post.bind (rel := rV X.K) g3 g6).mono fun u H5 ⟨φ5, u', m5, e5, a5, b5, c5, d5⟩ => ⟨φ5, m5, y, u', a5, RV.ext e5 (RV.ext g1 c2), c5, .of d5⟩⟩
  | false => exact iteF (g6 φ4 H' _ Ext.refl g2 rfl)
theorem q_chain {op op' : CmpOp} {f g : PV → PV → MH → OR} (ho : OpQ X (compareOp op) f) (ho' : OpQ X (compareOp op') g) (ha : QE X W a sa) (hb : QE X W b sb) (hc : QE X W c sc)
    (hm : lastMarks [op, op'] [b, c] = false := by with_unfolding_all rfl) : QE X W (.Compare a [op, op'] [b, c] pos) (sChain f g sa sb sc) :=
  ⟨pe_imp (pe_chain ho ho' ha.pe hb.pe hc.pe hm) fun σ H Q h => chain_at (rel := rB) (kk := fun _ => .bad) h⟩
theorem t_chain {op op' : CmpOp} {f g : PV → PV → MH → OR} (ho : OpQ X (compareOp op) f) (ho' : OpQ X (compareOp op') g) (ha : QE X W a sa) (hb : QE X W b sb) (hc : QE X W c sc)
    (hm : lastMarks [op, op'] [b, c] = false := by with_unfolding_all rfl) : QT X W (.Compare a [op, op'] [b, c] pos) (tBool (sChain f g sa sb sc)) :=
  ⟨pt_imp (pt_chain ho ho' ha.pe hb.pe hc.pe hm) fun σ H Q h => chain_at (rel := rB) (kk := fun _ => .bad) (Rdg.asB' h)⟩
/-- two tests in a row -/
theorem oneB {K : PySem.W.Frag} {a : SB} {σ : L2.St} {H : Hp} {α β : Type} {rel : SM.Rel α β} {k : Loc → Bool → MH → R α} {Q : β → Hp → Prop} (h : Rdg K rel W (fun l m => (a l m).bind fun x m1 => k l x m1) σ H Q) :
    Rdg K rB W a σ H fun v H1 => ∃ φ m l, RH K H1 φ m ∧ RL K H1 φ l σ ∧ Post K rel W φ l σ H1 (k l v m) Q := by
  obtain ⟨φ, l, m, h1, h2, h3⟩ := h
  refine ⟨φ, l, m, h1, h2, (Post.bind (rel := rB) h2 h3).mono ?_⟩
  rintro v H1 ⟨φ1, x, m1, e1, a1, b1, rfl, d1⟩
  exact ⟨φ1, m1, l, a1, b1, d1⟩
theorem w_and1 (ha : QT X W a ta) : QW X W (.BoolOp .And [a] pos) ta := ⟨pw_imp (pw_and1 ha.pt) fun _ _ _ h => h⟩
theorem w_or1 (ha : QT X W a ta) : QW X W (.BoolOp .Or [a] pos) ta := ⟨pw_imp (pw_or1 ha.pt) fun _ _ _ h => h⟩
theorem w_and (ha : QT X W a ta) (hb : QW X W (.BoolOp .And (b :: rest) pos) tb) : QW X W (.BoolOp .And (a :: b :: rest) pos) (tAndS ta tb) :=
  ⟨pw_imp (pw_and ha.pt hb.pw) fun σ H Q h => (oneB h).mono fun v H1 ⟨φ, m, l, c1, c2, c3⟩ => by
    cases v with
    | true => exact iteT ⟨φ, l, m, c1, c2, c3⟩
    | false => exact iteF (c3 φ H1 _ Ext.refl c1 rfl)⟩
theorem w_or (ha : QT X W a ta) (hb : QW X W (.BoolOp .Or (b :: rest) pos) tb) : QW X W (.BoolOp .Or (a :: b :: rest) pos) (tOrS ta tb) :=
  ⟨pw_imp (pw_or ha.pt hb.pw) fun σ H Q h => (oneB h).mono fun v H1 ⟨φ, m, l, c1, c2, c3⟩ => by
    cases v with
    | false => exact iteF ⟨φ, l, m, c1, c2, c3⟩
    | true => exact iteT (c3 φ H1 _ Ext.refl c1 rfl)⟩
theorem t_w (h : QW X W e ta) : QT X W e ta := ⟨h.pw.pt⟩
theorem t_not (ha : QT X W a ta) : QT X W (.UnaryOp .Not a pos) (tNotS ta) :=
  ⟨pt_imp (pt_not ha.pt) fun σ H Q h => (oneB h).mono fun v H1 ⟨φ, m, l, c1, c2, c3⟩ => c3 φ H1 _ Ext.refl c1 rfl⟩
theorem q_ifx (ht : QT X W c ta) (ha : QE X W a sa) (hb : QE X W b sb) : QE X W (.IfExp c a b pos) (sIf ta sa sb) :=
  ⟨pe_imp (pe_ifExp ht.pt ha.pe hb.pe) fun σ H Q h => (oneB h).mono fun v H1 ⟨φ, m, l, c1, c2, c3⟩ => by
    cases v with
    | true => exact iteT ⟨φ, l, m, c1, c2, c3⟩
    | false => exact iteF ⟨φ, l, m, c1, c2, c3⟩⟩
theorem q_bo1 {op} (ha : QE X W a sa) : QE X W (.BoolOp op [a] pos) sa := ⟨pe_one ha.pe⟩
theorem oneL {K : PySem.W.Frag} {a : SE} {σ : L2.St} {H : Hp} {α β : Type} {rel : SM.Rel α β} {k : Loc → PV → MH → R α} {Q : β → Hp → Prop} (h : Rdg K rel W (fun l m => (a l m).bind fun x m1 => k l x m1) σ H Q) :
    Rdg K (rV K) W a σ H fun v H1 => ∃ φ m x l, RH K H1 φ m ∧ RL K H1 φ l σ ∧ RV K H1 φ x v ∧ Post K rel W φ l σ H1 (k l x m) Q := by
  obtain ⟨φ, l, m, h1, h2, h3⟩ := h
  refine ⟨φ, l, m, h1, h2, (Post.bind (rel := rV K) h2 h3).mono ?_⟩
  rintro v H1 ⟨φ1, x, m1, e1, a1, b1, c1, d1⟩
  exact ⟨φ1, m1, x, l, a1, b1, c1, d1⟩
theorem q_and (ha : QE X W a sa) (hb : QE X W (.BoolOp .And (b :: rest) pos) sb) : QE X W (.BoolOp .And (a :: b :: rest) pos) (sAndV sa sb) :=
  ⟨pe_imp (pe_and ha.pe hb.pe) fun σ H Q h => (oneL h).mono fun v H1 ⟨φ, m, x, l, c1, c2, c3, c4⟩ => by
    obtain ⟨k, rfl, c5⟩ := post_asB' c3 c4
    refine ⟨k, rfl, ?_⟩
    cases k with
    | true => exact iteT ⟨φ, l, m, c1, c2, c5⟩
    | false => exact iteF (c5 φ H1 _ Ext.refl c1 rfl)⟩
theorem q_or (ha : QE X W a sa) (hb : QE X W (.BoolOp .Or (b :: rest) pos) sb) : QE X W (.BoolOp .Or (a :: b :: rest) pos) (sOrV sa sb) :=
  ⟨pe_imp (pe_or ha.pe hb.pe) fun σ H Q h => (oneL h).mono fun v H1 ⟨φ, m, x, l, c1, c2, c3, c4⟩ => by
    obtain ⟨k, rfl, c5⟩ := post_asB' c3 c4
    refine ⟨k, rfl, ?_⟩
    cases k with
    | false => exact iteF ⟨φ, l, m, c1, c2, c5⟩
    | true => exact iteT (c5 φ H1 _ Ext.refl c1 rfl)⟩
theorem q_not (ha : QE X W a sa) : QE X W (.UnaryOp .Not a pos) (sNotV sa) :=
  ⟨pe_imp (pe_not ha.pe) fun σ H Q h => (oneL h).mono fun v H1 ⟨φ, m, x, l, c1, c2, c3, c4⟩ => by
    obtain ⟨k, rfl, c5⟩ := post_asB' c3 c4
    exact ⟨k, rfl, c5 φ H1 _ Ext.refl c1 rfl⟩⟩
end

/-! ## calls of own defs that raise nothing -/
abbrev FS := List PV → MH → R PV
def PostC (K : PySem.W.Frag) (φ : List Addr) (H : Hp) (r : R PV) (Q : VK) : Prop := match r with
  | .ok x m => ∀ φ' H' v, Ext K φ H φ' H' → RH K H' φ' m → RV K H' φ' x v → Q v H'
  | _ => False
def SpQ (K : PySem.W.Frag) (n : Nat) (f : FS) : Sp := fun vs H Q _ => vs.length = n ∧ ∃ φ m xs, RH K H φ m ∧ RVs K H φ xs vs ∧ PostC K φ H (f xs m) Q
def Cal (P : Program) (w : World) (K : PySem.W.Frag) (mg : Str → Option Value) (base : Heap) (x : Str) (n k : Nat) (f : FS) : Prop :=
  ∃ (fa : Addr) (fd : FuncData) (ps : List Str), ps.length = n ∧ FnOk P w K mg base CX0 k fa fd ps (SpQ K n f) ∧ mg x = some (.ref fa) ∧ PySem.W.keepIn K (.ref fa) = true ∧ Binds K fd ps []
def noex (r : R PV) : R PV := match r with
  | .ok x m => .ok x m
  | _ => .bad
def sCallU (n : Nat) (f : FS) (a : SA) : SE := fun l m => (a l m).bind fun xs m1 => if xs.length = n then noex (f xs m1) else .bad
section
variable {X : Cx} {W : XM} {e : Expr} {es : List Expr} {ses : SA} {x : Str} {p pos : Pos} {n k j : Nat} {f : FS}
theorem q_call (C : Cal X.prog X.w X.K X.mg X.base x n k f) (hr : Room j X.A) (hk : k ≤ j) (hg : Gl X x) (ha : QA X W (e :: es) ses) (hdb : (x == ("__debug__" : Str)) = false := by decide)
    (he : starEach (e :: es) X.env = (false, eval e X.env) :: starEach es X.env := by rfl) (hpl : (backTo pos (starEach es X.env)).any (·.1) = false := by rfl) : QE X W (.Call (.Name x p) (e :: es) [] pos) (sCallU n f ses) := by
  obtain ⟨fa, fd, ps, hps, F, hm, hkp, hb⟩ := C
  refine ⟨pe_imp (pe_call (E := E0) F (hr.mono hk) hg hm hkp hb .nil pass0 ha.pa hdb he hpl) fun σ H Q q => (oneA q).mono fun vs H1 ⟨φ, m, xs, l, c1, c2, c3⟩ => ?_⟩
  rw [List.append_nil]
  by_cases hz : xs.length = n
  · rw [if_pos hz] at c3
    refine ⟨by rw [c2.length]; exact hz, φ, m, xs, c1, c2, ?_⟩
    cases hf : f xs m with
    | ok y m' => rw [hf] at c3; exact c3
    | ex c fs m' => rw [hf] at c3; exact c3.elim
    | bad => rw [hf] at c3; exact c3.elim
  · rw [if_neg hz] at c3
    exact c3.elim
end

/-! ## statements -/
def PostS (K : PySem.W.Frag) (W : XM) (φ : List Addr) (H : Hp) (r : RS) (D : Ends) : Prop := match r with
  | .nx l m => ∀ φ' σ' H', Ext K φ H φ' H' → RH K H' φ' m → RL K H' φ' l σ' → D.nx σ' H'
  | .bk l m => ∀ φ' σ' H', Ext K φ H φ' H' → RH K H' φ' m → RL K H' φ' l σ' → D.bk σ' H'
  | .ct l m => ∀ φ' σ' H', Ext K φ H φ' H' → RH K H' φ' m → RL K H' φ' l σ' → D.ct σ' H'
  | .rt x m => ∀ φ' H' v, Ext K φ H φ' H' → RH K H' φ' m → RV K H' φ' x v → D.rt v H'
  | .ex c fs l m => ∀ φ' σ' H', Ext K φ H φ' H' → RH K H' φ' m → RL K H' φ' l σ' → W c fs φ' l m σ' H'
  | .bad => False
def RdS (K : PySem.W.Frag) (W : XM) (s : SS) : TS := fun D σ H => ∃ φ l m, RH K H φ m ∧ RL K H φ l σ ∧ PostS K W φ H (s l m) D
structure QS (X : Cx) (W : XM) (st : Stmt) (s : SS) : Prop where
  ps : PS X st (RdS X.K W s)
structure QSs (X : Cx) (W : XM) (st : List Stmt) (s : SS) : Prop where
  ps : PSs X st (RdS X.K W s)
theorem ps_imp {X : Cx} {e : Stmt} {t t' : TS} (h : PS X e t) (i : ∀ D σ H, t' D σ H → t D σ H) : PS X e t' := ⟨fun pins s σ H D I q => h.run pins s σ H D I (i D σ H q)⟩
theorem pss_imp {X : Cx} {e : List Stmt} {t t' : TS} (h : PSs X e t) (i : ∀ D σ H, t' D σ H → t D σ H) : PSs X e t' := ⟨fun pins s σ H D I q => h.run pins s σ H D I (i D σ H q)⟩
section
variable {K : PySem.W.Frag} {W : XM} {φ φ' : List Addr} {H H' : Hp} {r : RS} {D D' : Ends}
theorem PostS.ext (e : Ext K φ H φ' H') (h : PostS K W φ H r D) : PostS K W φ' H' r D := by
  cases r with
  | nx l m => exact fun φ2 σ2 H2 e2 => h φ2 σ2 H2 (e.trans e2)
  | bk l m => exact fun φ2 σ2 H2 e2 => h φ2 σ2 H2 (e.trans e2)
  | ct l m => exact fun φ2 σ2 H2 e2 => h φ2 σ2 H2 (e.trans e2)
  | rt x m => exact fun φ2 H2 v e2 => h φ2 H2 v (e.trans e2)
  | ex c fs l m => exact fun φ2 σ2 H2 e2 => h φ2 σ2 H2 (e.trans e2)
  | bad => exact h
/-- an expression's end, then the statement's -/
theorem PostS.then {α β : Type} {rel : Rel α β} {e : R α} {k : α → MH → RS} {l : Loc} {σ : L2.St} (hl : RL K H φ l σ) (h : PostS K W φ H (R.then l e k) D) :
    Post K rel W φ l σ H e (fun v H1 => ∃ φ1 x m1, Ext K φ H φ1 H1 ∧ RH K H1 φ1 m1 ∧ RL K H1 φ1 l σ ∧ rel H1 φ1 x v ∧ PostS K W φ1 H1 (k x m1) D) := by
  cases e with
  | ok x m => exact fun φ2 H2 v e a b => ⟨φ2, x, m, e, a, hl.ext e, b, PostS.ext e h⟩
  | ex c fs m => exact fun φ2 H2 e a => h φ2 σ H2 e a (hl.ext e)
  | bad => exact h
end
def xNil : SS := fun l m => .nx l m
def xSeq (s t : SS) : SS := fun l m => (s l m).seq t
def xBrk : SS := fun l m => .bk l m
def xCnt : SS := fun l m => .ct l m
def xExpr (s : SE) : SS := fun l m => R.then l (s l m) fun _ m1 => .nx l m1
def xRet (s : SE) : SS := fun l m => R.then l (s l m) fun x m1 => .rt x m1
def xRetN : SS := fun _ m => .rt .non m
def xIf (t : SB) (a b : SS) : SS := fun l m => R.then l (t l m) fun k m1 => if k = true then a l m1 else b l m1
def xSet (i : Nat) (s : SE) : SS := fun l m => R.then l (s l m) fun x m1 => .nx (l.set i (some x)) m1
def xPar (i j : Nat) (a b : SE) : SS := fun l m => R.then l (a l m) fun x m1 => R.then l (b l m1) fun y m2 => .nx ((l.set i (some x)).set j (some y)) m2
abbrev STg := PV → Loc → MH → Option (Loc × MH)
def xAsg (s : SE) (g : STg) : SS := fun l m => R.then l (s l m) fun x m1 => match g x l m1 with
  | some (l', m') => .nx l' m'
  | none => .bad
theorem RL.set {K : PySem.W.Frag} {H : Hp} {φ : List Addr} {l : Loc} {σ : L2.St} {x : PV} {v : V} (h : RL K H φ l σ) (i : Nat) (r : RV K H φ x v) : RL K H φ (l.set i (some x)) (σ.set i (some v)) := by
  refine ⟨by simp [h.1], fun j y e => ?_⟩
  by_cases hj : i = j
  · subst hj
    by_cases hi : i < l.length
    · rw [List.getElem?_set_self hi] at e
      cases e
      exact ⟨v, by rw [List.getElem?_set_self (by rw [← h.1]; exact hi)], r⟩
    · rw [List.getElem?_eq_none (by simp; omega)] at e; cases e
  · rw [List.getElem?_set_ne hj] at e
    obtain ⟨w, e1, e2⟩ := h.2 j y e
    exact ⟨w, by rw [List.getElem?_set_ne hj]; exact e1, e2⟩
/-- a target -/
def RdG (K : PySem.W.Frag) (g : STg) : TG := fun v σ H Q => ∃ φ l m x, RH K H φ m ∧ RL K H φ l σ ∧ RV K H φ x v ∧ ∃ l' m', g x l m = some (l', m') ∧ ∀ φ' σ' H', Ext K φ H φ' H' → RH K H' φ' m' → RL K H' φ' l' σ' → Q σ' H'
structure QG (X : Cx) (tg : Expr) (g : STg) : Prop where
  pg : PG X tg (RdG X.K g)
abbrev STgs := List PV → Loc → MH → Option (Loc × MH)
def RdGs (K : PySem.W.Frag) (g : STgs) : TGs := fun vs σ H Q => ∃ φ l m xs, RH K H φ m ∧ RL K H φ l σ ∧ RVs K H φ xs vs ∧ ∃ l' m', g xs l m = some (l', m') ∧ ∀ φ' σ' H', Ext K φ H φ' H' → RH K H' φ' m' → RL K H' φ' l' σ' → Q σ' H'
structure QGs (X : Cx) (tg : List Expr) (g : STgs) : Prop where
  pg : PGs X tg (RdGs X.K g)
theorem pg_imp {X : Cx} {e : Expr} {t t' : TG} (h : PG X e t) (i : ∀ v σ H Q, t' v σ H Q → t v σ H Q) : PG X e t' := ⟨fun pins s σ H v u Q I r q => h.run pins s σ H v u Q I r (i v σ H Q q)⟩
theorem pgs_imp {X : Cx} {e : List Expr} {t t' : TGs} (h : PGs X e t) (i : ∀ v σ H Q, t' v σ H Q → t v σ H Q) : PGs X e t' := ⟨fun pins s σ H v u Q I r q => h.run pins s σ H v u Q I r (i v σ H Q q)⟩
theorem pg_or {X : Cx} {e : Expr} {t t' : TG} (h : PG X e t) (h' : PG X e t') : PG X e (fun v σ H Q => t v σ H Q ∨ t' v σ H Q) := ⟨fun pins s σ H v u Q I r q => by
  rcases q with q | q
  · exact h.run pins s σ H v u Q I r q
  · exact h'.run pins s σ H v u Q I r q⟩
def gNm (i : Nat) : STg := fun x l m => some (l.set i (some x), m)
def gNilS : STgs := fun xs l m => match xs with
  | [] => some (l, m)
  | _ => none
def gConsS (g : STg) (r : STgs) : STgs := fun xs l m => match xs with
  | x :: xs => match g x l m with
    | some (l', m') => r xs l' m'
    | none => none
  | [] => none
def gTupS (n : Nat) (g : STgs) : STg := fun x l m => match x with
  | .tup xs => if xs.length = n then g xs l m else none
  | .ref i => match seq? m i with
    | some xs => if xs.length = n then g xs l m else none
    | none => none
  | _ => none
def gSubS (o i : SE) : STg := fun x l m => match o l m with
  | .ok ov m1 => match i l m1 with
    | .ok iv m2 => (setv ov iv x m2).map fun m3 => (l, m3)
    | _ => none
  | _ => none
section
variable {X : Cx} {W : XM} {e o i : Expr} {es : List Expr} {se so si : SE} {pos : Pos}
theorem g_name (i : Nat) {x : Str} (hN : X.N.Nodup) (hi : X.N[i]? = some x := by rfl) (hx : L2.Loc X.env.scope x := by first | exact .inl rfl | exact .inr rfl) (hf : X.fn x = true ∨ X.env.scope.names.lookup x = some .local := by first | exact .inl rfl | exact .inr rfl) : QG X (.Name x pos) (gNm i) :=
  ⟨pg_imp (pg_name hN hi hx hf) fun v σ H Q ⟨φ, l, m, x, h1, h2, h3, l', m', e, q⟩ => by
    cases e
    exact q φ _ H Ext.refl h1 (h2.set i h3)⟩
theorem gs_nil : QGs X [] gNilS := ⟨pgs_imp pgs_nil fun v σ H Q ⟨φ, l, m, x, h1, h2, h3, l', m', e, q⟩ => by
  unfold gNilS at e
  split at e
  · cases h3
    cases e
    exact ⟨rfl, q φ _ H Ext.refl h1 h2⟩
  · cases e⟩
theorem gs_cons {g : STg} {r : STgs} (h1 : QG X e g) (h2 : QGs X es r) (hs : (assignEach (e :: es) X.env).map (·.2) = assign e X.env :: (assignEach es X.env).map (·.2) := by rfl) : QGs X (e :: es) (gConsS g r) :=
  ⟨pgs_imp (pgs_cons h1.pg h2.pg hs) fun v σ H Q ⟨φ, l, m, x, h1, h2, h3, l', m', e, q⟩ => by
    unfold gConsS at e
    split at e
    · rename_i x xs
      obtain ⟨w, ws, rfl, r1, r2⟩ := h3
      split at e
      · rename_i l1 m1 e1
        exact ⟨w, ws, rfl, φ, l, m, x, h1, h2, r1, l1, m1, e1, fun φ1 σ1 H1 x1 a1 b1 => ⟨φ1, l1, m1, xs, a1, b1, RVs.ext x1 r2, l', m', e, fun φ2 σ2 H2 x2 a2 b2 => q φ2 σ2 H2 (x1.trans x2) a2 b2⟩⟩
      · cases e
    · cases e⟩
theorem g_tup {k n : Nat} {g : STgs} (hc : X.calm = true) (h : QGs X es g) (hn : (assignEach es X.env).length = n := by rfl) (hst : (assignEach es X.env).findIdx? (·.1) = none := by rfl) : QG X (.Tuple es k pos) (gTupS n g) :=
  ⟨pg_imp (pg_or (pg_tup hc h.pg hn hst) (pg_unl hc h.pg hn hst)) fun v σ H Q ⟨φ, l, m, x, h1, h2, h3, l', m', e, q⟩ => by
    unfold gTupS at e
    split at e
    · obtain ⟨a, vs, rfl, r1, r2⟩ := h3
      split at e
      · rename_i hz
        exact .inl ⟨a, vs, rfl, r1, by rw [r2.length]; exact hz, φ, l, m, _, h1, h2, r2, l', m', e, q⟩
      · cases e
    · split at e
      · rename_i xs hs
        obtain ⟨a, vs, rfl, r1, r2⟩ := h1.seq h3 hs
        split at e
        · rename_i hz
          exact .inr ⟨a, vs, rfl, r1, by rw [r2.length]; exact hz, φ, l, m, _, h1, h2, r2, l', m', e, q⟩
        · cases e
      · cases e
    · cases e⟩
theorem s_set : PSet X (fun o i v H Q => ∃ φ m x y z m', RH X.K H φ m ∧ RV X.K H φ x o ∧ RV X.K H φ y i ∧ RV X.K H φ z v ∧ setv x y z m = some m' ∧ ∀ φ' H', Ext X.K φ H φ' H' → RH X.K H' φ' m' → Q H') := by
  intro pins s σ H o i v ov iv u Q I ro ri rv ⟨φ, m, x, y, z, m', h1, h2, h3, h4, h5, h6⟩
  unfold setv at h5
  split at h5
  · cases h3
    split at h5
    · rename_i xs hs
      obtain ⟨p, vs, e1, rfl, q1, q2⟩ := h1.lst h2 hs
      rename_i n k _
      cases hj : ixN xs.length k with
      | none => rw [hj] at h5; cases h5
      | some j =>
        rw [hj] at h5
        cases h5
        obtain ⟨e2, e3⟩ := h1.setL e1 (lst_some hs) (RVs.set h4 j q2)
        exact set_list pins s σ H _ _ v ov iv u Q I ro ri rv ⟨p, vs, k, j, rfl, rfl, q1, by rw [q2.length]; exact hj, h6 _ _ e2 e3⟩
    · cases h5
  · cases h5
theorem g_sub (ho : QE X W0 o so) (hi : QE X W0 i si)
    (ha : ∀ v, assign (.Subscript o i pos) X.env v = (do
      let ov ← holding [v] (eval o X.env)
      let iv ← holding [v, ov] (eval i X.env)
      standAt pos
      holding [v, ov, iv] (setItem ov iv v)
      release [v, ov, iv] []) := by intro _; rfl) : QG X (.Subscript o i pos) (gSubS so si) :=
  ⟨pg_imp (pg_sub ho.pe hi.pe s_set ha) fun v σ H Q ⟨φ, l, m, x, h1, h2, h3, l', m', e, q⟩ => by
    unfold gSubS at e
    split at e
    · rename_i ov m1 e1
      split at e
      · rename_i iv m2 e2
        refine ⟨φ, l, m, h1, h2, ?_⟩
        rw [e1]
        intro φ1 H1 v1 x1 a1 c1
        refine ⟨φ1, l, m1, a1, h2.ext x1, ?_⟩
        rw [e2]
        intro φ2 H2 v2 x2 a2 c2
        cases hs : setv ov iv x m2 with
        | none => rw [hs] at e; cases e
        | some m3 =>
          rw [hs] at e
          cases e
          exact ⟨φ2, m2, ov, iv, x, m', a2, RV.ext x2 c1, c2, RV.ext (x1.trans x2) h3, hs, fun φ3 H3 x3 a3 => q φ3 σ H3 ((x1.trans x2).trans x3) a3 (h2.ext ((x1.trans x2).trans x3))⟩
      · cases e
    · cases e⟩
end
section
variable {X : Cx} {W : XM} {st : Stmt} {rest : List Stmt} {s t : SS} {e : Expr} {se : SE} {pos : Pos}
theorem x_nil : QSs X W [] xNil := ⟨pss_imp pss_nil fun D σ H ⟨φ, l, m, h1, h2, h3⟩ => h3 φ σ H Ext.refl h1 h2⟩
theorem x_cons (h1 : QS X W st s) (h2 : QSs X W rest t) : QSs X W (st :: rest) (xSeq s t) := ⟨pss_imp (pss_cons h1.ps h2.ps) fun D σ H ⟨φ, l, m, h1, h2, h3⟩ => by
  refine ⟨φ, l, m, h1, h2, ?_⟩
  unfold xSeq at h3
  cases hs : s l m with
  | nx l' m' => rw [hs] at h3; exact fun φ' σ' H' x a b => ⟨φ', l', m', a, b, PostS.ext x h3⟩
  | bk l' m' => rw [hs] at h3; exact h3
  | ct l' m' => rw [hs] at h3; exact h3
  | rt l' m' => rw [hs] at h3; exact h3
  | ex c fs l' m' => rw [hs] at h3; exact h3
  | bad => rw [hs] at h3; exact h3⟩
theorem x_one (h1 : QS X W st s) : QSs X W [st] s := ⟨pss_one h1.ps⟩
theorem x_pass : QS X W (.Pass pos) xNil := ⟨ps_imp ps_pass fun D σ H ⟨φ, l, m, h1, h2, h3⟩ => h3 φ σ H Ext.refl h1 h2⟩
theorem x_doc {x j pos'} : QS X W (.Expr (.Constant (.str x) j pos) pos') xNil := ⟨ps_imp ps_doc fun D σ H ⟨φ, l, m, h1, h2, h3⟩ => h3 φ σ H Ext.refl h1 h2⟩
theorem x_brk : QS X W (.Break pos) xBrk := ⟨ps_imp ps_break fun D σ H ⟨φ, l, m, h1, h2, h3⟩ => h3 φ σ H Ext.refl h1 h2⟩
theorem x_cnt : QS X W (.Continue pos) xCnt := ⟨ps_imp ps_continue fun D σ H ⟨φ, l, m, h1, h2, h3⟩ => h3 φ σ H Ext.refl h1 h2⟩
theorem x_expr (he : QE X W e se) (hs : swapsWith e none pos.line X.env = pure false := by rfl) : QS X W (.Expr e pos) (xExpr se) := ⟨ps_imp (ps_expr he.pe hs) fun D σ H ⟨φ, l, m, h1, h2, h3⟩ =>
  ⟨φ, l, m, h1, h2, (PostS.then (rel := rV X.K) h2 h3).mono fun v H1 ⟨φ1, x, m1, e1, a1, b1, c1, d1⟩ => d1 φ1 σ H1 Ext.refl a1 b1⟩⟩
theorem x_ret (he : QE X W e se) : QS X W (.Return (some e) pos) (xRet se) := ⟨ps_imp (ps_ret he.pe) fun D σ H ⟨φ, l, m, h1, h2, h3⟩ =>
  ⟨φ, l, m, h1, h2, (PostS.then (rel := rV X.K) h2 h3).mono fun v H1 ⟨φ1, x, m1, e1, a1, b1, c1, d1⟩ => d1 φ1 H1 v Ext.refl a1 c1⟩⟩
theorem x_retN : QS X W (.Return none pos) xRetN := ⟨ps_imp ps_retN fun D σ H ⟨φ, l, m, h1, h2, h3⟩ => h3 φ H _ Ext.refl h1 rfl⟩
theorem x_if {c : Expr} {a b : List Stmt} {tc : SB} {sa sb : SS} (hc : QT X W c tc) (ha : QSs X W a sa) (hb : QSs X W b sb) : QS X W (.If c a b pos) (xIf tc sa sb) := ⟨ps_imp (ps_if hc.pt ha.ps hb.ps) fun D σ H ⟨φ, l, m, h1, h2, h3⟩ =>
  ⟨φ, l, m, h1, h2, (PostS.then (rel := rB) h2 h3).mono fun v H1 ⟨φ1, x, m1, e1, a1, b1, c1, d1⟩ => by
    cases c1
    cases v with
    | true => exact iteT ⟨φ1, l, m1, a1, b1, d1⟩
    | false => exact iteF ⟨φ1, l, m1, a1, b1, d1⟩⟩⟩
theorem x_set (i : Nat) {x : Str} {pos' : Pos} (hN : X.N.Nodup) (he : QE X W e se) (hi : X.N[i]? = some x := by rfl) (hx : L2.Loc X.env.scope x := by first | exact .inl rfl | exact .inr rfl) (hs : swapsWith e (some (.Name x pos')) pos.line X.env = pure false := by rfl)
    (hf : X.fn x = true ∨ X.env.scope.names.lookup x = some .local := by first | exact .inl rfl | exact .inr rfl) : QS X W (.Assign [.Name x pos'] e pos) (xSet i se) := ⟨ps_imp (ps_set hN hi hx he.pe hs hf) fun D σ H ⟨φ, l, m, h1, h2, h3⟩ =>
  ⟨φ, l, m, h1, h2, (PostS.then (rel := rV X.K) h2 h3).mono fun v H1 ⟨φ1, x, m1, e1, a1, b1, c1, d1⟩ => d1 φ1 _ H1 Ext.refl a1 (b1.set i c1)⟩⟩
theorem x_asg {tg : Expr} {g : STg} (he : QE X W e se) (hg : QG X tg g) (hs : swapsWithSole [tg] e pos.line X.env = pure false := by rfl) (hw : swappedStores [tg] e X.env = pure none := by rfl)
    (h1 : (assignEach [tg] X.env).map (·.2) = [assign tg X.env] := by rfl) : QS X W (.Assign [tg] e pos) (xAsg se g) := ⟨ps_imp (ps_asg he.pe hg.pg hs hw h1) fun D σ H ⟨φ, l, m, h1, h2, h3⟩ =>
  ⟨φ, l, m, h1, h2, (PostS.then (rel := rV X.K) h2 h3).mono fun v H1 ⟨φ1, x, m1, e1, a1, b1, c1, d1⟩ => by
    cases hg : g x l m1 with
    | none => rw [hg] at d1; exact d1.elim
    | some p =>
      obtain ⟨l', m'⟩ := p
      rw [hg] at d1
      exact ⟨φ1, l, m1, x, a1, b1, c1, l', m', hg, fun φ2 σ2 H2 x2 a2 b2 => d1 φ2 σ2 H2 x2 a2 b2⟩⟩⟩
theorem x_par (i j : Nat) {x y : Str} {a b : Expr} {sa sb : SE} {px py pt : Pos} {kt k2 pt2} (hc : X.calm = true) (hN : X.N.Nodup) (ha : QE X W a sa) (hb : QE X W b sb) (hi : X.N[i]? = some x := by rfl) (hj : X.N[j]? = some y := by rfl) (hij : i ≠ j := by decide)
    (hx : X.env.scope.names.lookup x = some .local := by rfl) (hy : X.env.scope.names.lookup y = some .local := by rfl)
    (hw : swappedStores [.Tuple [.Name x px, .Name y py] kt pt] (.Tuple [a, b] k2 pt2) X.env = pure (some [x, y]) := by rfl)
    (hs : swapsWithSole [.Tuple [.Name x px, .Name y py] kt pt] (.Tuple [a, b] k2 pt2) pos.line X.env = pure false := by rfl)
    (he1 : starEach [a, b] X.env = (false, eval a X.env) :: starEach [b] X.env := by rfl) (he2 : starEach [b] X.env = (false, eval b X.env) :: starEach [] X.env := by rfl) :
    QS X W (.Assign [.Tuple [.Name x px, .Name y py] kt pt] (.Tuple [a, b] k2 pt2) pos) (xPar i j sa sb) :=
  ⟨ps_imp (ps_par hc hN hi hj hij hx hy (pa_cons ha.pe (pa_cons hb.pe pa_nil he2) he1) hw hs) fun D σ H ⟨φ, l, m, h1, h2, h3⟩ =>
    ⟨φ, l, m, h1, h2, (PostS.then (rel := rV X.K) h2 h3).mono fun v H1 ⟨φ1, x, m1, e1, a1, b1, c1, d1⟩ => ⟨φ1, l, m1, a1, b1, (PostS.then (rel := rV X.K) b1 d1).mono fun w H2 ⟨φ2, y, m2, e2, a2, b2, c2, d2⟩ =>
      ⟨v, w, rfl, d2 φ2 _ H2 Ext.refl a2 ((b2.set i (RV.ext e2 c1)).set j c2)⟩⟩⟩⟩
end

/-! ## loops -/
structure ITM where
  items : List PV
  src : Option Nat
def ITM.ok (it : ITM) (m : MH) : Prop := match it.src with
  | none => True
  | some n => seq? m n = some it.items
abbrev SI := Loc → MH → R ITM
open Classical in
noncomputable def forL (it : ITM) (g : STg) (body : SS) : List PV → Loc → MH → RS
  | [], l, m => if it.ok m then .nx l m else .bad
  | x :: r, l, m => if it.ok m then match g x l m with
      | some (l1, m1) => match body l1 m1 with
        | .nx l2 m2 => forL it g body r l2 m2
        | .ct l2 m2 => forL it g body r l2 m2
        | .bk l2 m2 => .nx l2 m2
        | r => r
      | none => .bad
    else .bad
noncomputable def xFor (si : SI) (g : STg) (body : SS) : SS := fun l m => R.then l (si l m) fun it m1 => forL it g body it.items l m1
def RdI (K : PySem.W.Frag) (W : XM) (si : SI) : TI := fun σ H RR => ∃ φ l m, RH K H φ m ∧ RL K H φ l σ ∧ match si l m with
  | .ok it m' => ∀ φ' H' J, Ext K φ H φ' H' → RH K H' φ' m' →
      Walk J it.items.length (fun H2 => ∃ φ2 m2, Ext K φ' H' φ2 H2 ∧ RH K H2 φ2 m2 ∧ it.ok m2)
        (fun i H2 v H3 => H3 = H2 ∧ ∀ φ2 m2, Ext K φ' H' φ2 H2 → RH K H2 φ2 m2 → it.ok m2 → ∃ x, it.items[i]? = some x ∧ RV K H2 φ2 x v) → RR J H'
  | .ex c fs m' => ∀ φ' H', Ext K φ H φ' H' → RH K H' φ' m' → W c fs φ' l m' σ H'
  | .bad => False
structure QI (X : Cx) (W : XM) (tg iter : Expr) (si : SI) : Prop where
  pi : PI X tg iter (RdI X.K W si)
theorem pi_imp {X : Cx} {tg e : Expr} {t t' : TI} (h : PI X tg e t) (i : ∀ σ H R, t' σ H R → t σ H R) : PI X tg e t' := ⟨fun pins s σ H R I q => h.run pins s σ H R I (i σ H R q)⟩
theorem pi_or {X : Cx} {tg e : Expr} {t t' : TI} (h : PI X tg e t) (h' : PI X tg e t') : PI X tg e (fun σ H R => t σ H R ∨ t' σ H R) := ⟨fun pins s σ H R I q => by
  rcases q with q | q
  · exact h.run pins s σ H R I q
  · exact h'.run pins s σ H R I q⟩
section
variable {X : Cx} {W : XM} {iter tg e : Expr} {body : List Stmt} {si : SI} {g : STg} {sb : SS} {pos : Pos} {se : SE}
theorem x_for (hp : PassesOwn (model X.prog X.w) X.A X.env X.xe) (hc : X.calm = true) (hi : QI X W tg iter si) (hg : QG X tg g) (hb : QSs X W body sb)
    (hs : ∀ x, foldedSetIterable iter X.env x = pure x := by intro _; rfl) : QS X W (.For tg iter body [] pos) (xFor si g sb) := ⟨ps_imp (ps_for hp hc hi.pi hg.pg hb.ps hs) fun D σ H ⟨φ, l, m, h1, h2, h3⟩ => by
  refine ⟨φ, l, m, h1, h2, ?_⟩
  unfold xFor at h3
  cases hsi : si l m with
  | bad => rw [hsi] at h3; exact h3
  | ex c fs m' => rw [hsi] at h3; exact fun φ' H' x a => h3 φ' σ H' x a (h2.ext x)
  | ok it m' =>
    rw [hsi] at h3
    intro φ' H' J x0 a0 w
    refine for_it w (fun i σ2 H2 => ∃ φ2 l2 m2, Ext X.K φ' H' φ2 H2 ∧ RH X.K H2 φ2 m2 ∧ RL X.K H2 φ2 l2 σ2 ∧ PostS X.K W φ2 H2 (forL it g sb (it.items.drop i) l2 m2) D) ⟨φ', l, m', Ext.refl, a0, h2.ext x0, PostS.ext x0 h3⟩ ?_ ?_ ?_
    · rintro i σ2 H2 hi ⟨φ2, l2, m2, x2, a2, b2, c2⟩
      refine ⟨φ2, m2, x2, a2, ?_⟩
      cases hd : it.items.drop i with
      | nil =>
        rw [hd] at c2
        unfold forL at c2
        by_cases hk : it.ok m2
        · exact hk
        · rw [if_neg hk] at c2; exact c2.elim
      | cons x r =>
        rw [hd] at c2
        unfold forL at c2
        by_cases hk : it.ok m2
        · exact hk
        · rw [if_neg hk] at c2; exact c2.elim
    · rintro i v σ2 H2 H3 hi ⟨φ2, l2, m2, x2, a2, b2, c2⟩ ⟨rfl, hv⟩
      have hi' : i < it.items.length := hi
      rw [List.drop_eq_getElem_cons hi'] at c2
      unfold forL at c2
      by_cases hk : it.ok m2
      · rw [if_pos hk] at c2
        obtain ⟨x0', hx1, hx2⟩ := hv φ2 m2 x2 a2 hk
        rw [List.getElem?_eq_getElem hi'] at hx1
        cases hx1
        cases hgx : g it.items[i] l2 m2 with
        | none => rw [hgx] at c2; exact c2.elim
        | some p =>
          obtain ⟨l3, m3⟩ := p
          rw [hgx] at c2
          dsimp only at c2
          refine ⟨φ2, l2, m2, _, a2, b2, hx2, l3, m3, hgx, fun φ3 σ3 H3 x3 a3 b3 => ⟨φ3, l3, m3, a3, b3, ?_⟩⟩
          have c3 := PostS.ext x3 c2
          cases hb : sb l3 m3 with
          | nx l4 m4 =>
            rw [hb] at c3
            exact fun φ4 σ4 H4 x4 a4 b4 => ⟨φ4, l4, m4, (x2.trans x3).trans x4, a4, b4, PostS.ext x4 c3⟩
          | ct l4 m4 =>
            rw [hb] at c3
            exact fun φ4 σ4 H4 x4 a4 b4 => ⟨φ4, l4, m4, (x2.trans x3).trans x4, a4, b4, PostS.ext x4 c3⟩
          | bk l4 m4 => rw [hb] at c3; exact c3
          | rt x m4 => rw [hb] at c3; exact c3
          | ex c fs l4 m4 => rw [hb] at c3; exact c3
          | bad => rw [hb] at c3; exact c3
      · rw [if_neg hk] at c2; exact c2.elim
    · rintro σ2 H2 ⟨φ2, l2, m2, x2, a2, b2, c2⟩
      rw [List.drop_of_length_le (Nat.le_refl _)] at c2
      unfold forL at c2
      by_cases hk : it.ok m2
      · rw [if_pos hk] at c2
        exact c2 φ2 σ2 H2 Ext.refl a2 b2
      · rw [if_neg hk] at c2; exact c2.elim⟩
/-- over a list or a tuple -/
def iSeq (s : SE) : SI := fun l m => (s l m).bind fun x m1 => match x with
  | .tup xs => .ok ⟨xs, none⟩ m1
  | .ref n => match seq? m1 n with
    | some xs => .ok ⟨xs, some n⟩ m1
    | none => .bad
  | _ => .bad
theorem i_seq (he : QE X W e se) : QI X W tg e (iSeq se) := ⟨pi_imp (pi_or (pi_list he.pe) (pi_tup he.pe)) fun σ H RR ⟨φ, l, m, h1, h2, h3⟩ => by
  unfold iSeq at h3
  cases hs : se l m with
  | bad => rw [hs] at h3; exact h3.elim
  | ex c fs m' =>
    rw [hs] at h3
    exact .inl ⟨φ, l, m, h1, h2, by rw [hs]; exact h3⟩
  | ok x m1 =>
    rw [hs] at h3
    simp only [R.bind] at h3
    cases x with
    | tup xs =>
      refine .inr ⟨φ, l, m, h1, h2, ?_⟩
      rw [hs]
      rintro φ' H' v x1 a1 ⟨p, vs, rfl, r1, r2⟩
      refine ⟨p, rfl, ⟨vs, r1⟩, h3 φ' H' _ x1 a1 ?_⟩
      have w0 : Walk (Itt X.K p) vs.length (fun H => SqT X.K H p vs) (YAt vs) := walk_tup
      rw [r2.length] at w0
      refine w0.mono (fun H2 ⟨φ2, m2, x2, _⟩ => x2.tup _ _ r1) fun i H2 v H3 hi ⟨φ2, m2, x2, _⟩ y => ⟨y.1, fun φ3 m3 x3 a3 o3 => ?_⟩
      obtain ⟨v', e1, e2⟩ := r2.get (List.getElem?_eq_getElem hi)
      rw [y.2] at e1
      cases e1
      exact ⟨_, List.getElem?_eq_getElem hi, RV.ext x3 e2⟩
    | ref n =>
      simp only at h3
      cases hq : seq? m1 n with
      | none => rw [hq] at h3; exact h3.elim
      | some xs =>
        rw [hq] at h3
        refine .inl ⟨φ, l, m, h1, h2, ?_⟩
        rw [hs]
        rintro φ' H' v x1 a1 r0
        obtain ⟨p, vs, rfl, r1, r2⟩ := a1.seq r0 hq
        refine ⟨p, rfl, ⟨vs, r1⟩, h3 φ' H' _ x1 a1 ⟨fun i H2 hi ⟨φ2, m2, x2, a2, o2⟩ => ?_, fun H2 ⟨φ2, m2, x2, a2, o2⟩ => ?_, fun i H2 v H3 hi ⟨φ2, m2, x2, a2, o2⟩ y => ⟨y.1, fun φ3 m3 x3 a3 o3 => ?_⟩⟩⟩
        · obtain ⟨q, vs2, e1, e2, e3⟩ := a2.seq (RV.ext x2 r0) o2
          cases e1
          obtain ⟨v', e4, _⟩ := e3.get (List.getElem?_eq_getElem hi)
          exact ⟨vs2, v', e2, e4⟩
        · obtain ⟨q, vs2, e1, e2, e3⟩ := a2.seq (RV.ext x2 r0) o2
          cases e1
          exact ⟨vs2, e2, by rw [e3.length]; exact Nat.le_refl _⟩
        · obtain ⟨q, vs2, e1, e2, e3⟩ := a3.seq (RV.ext x3 r0) o3
          cases e1
          obtain ⟨v', e4, e5⟩ := e3.get (List.getElem?_eq_getElem hi)
          rw [y.2 vs2 e2] at e4
          cases e4
          exact ⟨_, List.getElem?_eq_getElem hi, e5⟩
    | _ => exact h3.elim⟩
/-- range(b), range(a, b) -/
@[simp] def rng (lo hi : Int) : List PV := (List.range (hi - lo).toNat).map fun i => .int (lo + (i : Nat))
def iRng1S (b : SE) : SI := fun l m => (b l m).bind fun y m1 => match y with
  | .int j => if -4611686018427387904 ≤ j ∧ j < 4611686018427387904 then .ok ⟨rng 0 j, none⟩ m1 else .bad
  | _ => .bad
def iRng2S (a b : SE) : SI := fun l m => (a l m).bind fun x m1 => (b l m1).bind fun y m2 => match x, y with
  | .int i, .int j => if -4611686018427387904 ≤ i ∧ i < 4611686018427387904 ∧ -4611686018427387904 ≤ j ∧ j < 4611686018427387904 then .ok ⟨rng i j, none⟩ m2 else .bad
  | _, _ => .bad
theorem rng_len (lo hi : Int) : (rng lo hi).length = (hi - lo).toNat := by simp
theorem rng_get {lo hi : Int} {i : Nat} (h : i < (hi - lo).toNat) : (rng lo hi)[i]? = some (.int (lo + (i : Nat))) := by
  simp [rng, List.getElem?_map, List.getElem?_range h]
theorem walk_rng {K : PySem.W.Frag} {φ' : List Addr} {H' : Hp} {lo hi : Int} : Walk (Itr lo (hi - lo).toNat) (rng lo hi).length (fun H2 => ∃ φ2 m2, Ext K φ' H' φ2 H2 ∧ RH K H2 φ2 m2 ∧ ITM.ok ⟨rng lo hi, none⟩ m2)
    (fun i H2 v H3 => H3 = H2 ∧ ∀ φ2 m2, Ext K φ' H' φ2 H2 → RH K H2 φ2 m2 → ITM.ok ⟨rng lo hi, none⟩ m2 → ∃ x, (rng lo hi)[i]? = some x ∧ RV K H2 φ2 x v) := by
  rw [rng_len]
  exact walk_range.mono (fun _ _ => trivial) fun i H2 v H3 hi _ y => ⟨y.1, fun φ3 m3 x3 a3 o3 => ⟨_, rng_get hi, y.2⟩⟩
theorem i_rng1 {b : Expr} {sb : SE} {p pos : Pos} (hg : Gl X "range") (hm : X.mg "range" = none) (hb : QE X W b sb) (hs : starEach [b] X.env = [(false, eval b X.env)] := by rfl) : QI X W tg (.Call (.Name "range" p) [b] [] pos) (iRng1S sb) :=
  ⟨pi_imp (pi_range1 hg hm (pa_cons hb.pe pa_nil (by rw [hs] <;> rfl)) hs) fun σ H RR ⟨φ, l, m, h1, h2, h3⟩ => ⟨φ, l, m, h1, h2, by
    unfold iRng1S at h3
    cases e1 : sb l m with
    | bad => rw [e1] at h3; exact h3
    | ex c fs m' => rw [e1] at h3; exact h3
    | ok y m1 =>
      rw [e1] at h3
      simp only [R.bind] at h3
      intro φ1 H1 v x1 a1 r1
      cases y with
      | int j =>
        cases r1
        simp only at h3
        by_cases hz : -4611686018427387904 ≤ j ∧ j < 4611686018427387904
        · rw [if_pos hz] at h3
          have e : Itr 0 j.toNat = Itr 0 (j - 0).toNat := by rw [Int.sub_zero]
          refine ⟨j, rfl, by omega, by omega, ?_⟩
          rw [e]
          exact h3 φ1 H1 _ x1 a1 walk_rng
        · rw [if_neg hz] at h3; exact h3.elim
      | _ => exact h3.elim⟩⟩
theorem i_rng2 {a b : Expr} {sa sb : SE} {p pos : Pos} (hg : Gl X "range") (hm : X.mg "range" = none) (ha : QE X W a sa) (hb : QE X W b sb) (hs : starEach [a, b] X.env = [(false, eval a X.env), (false, eval b X.env)] := by rfl) (hs2 : starEach [b] X.env = [(false, eval b X.env)] := by rfl) :
    QI X W tg (.Call (.Name "range" p) [a, b] [] pos) (iRng2S sa sb) :=
  ⟨pi_imp (pi_range2 hg hm (pa_cons ha.pe (pa_cons hb.pe pa_nil (by rw [hs2] <;> rfl)) (by rw [hs, hs2])) hs hs2) fun σ H RR ⟨φ, l, m, h1, h2, h3⟩ => ⟨φ, l, m, h1, h2, by
    unfold iRng2S at h3
    cases e1 : sa l m with
    | bad => rw [e1] at h3; exact h3
    | ex c fs m' => rw [e1] at h3; exact h3
    | ok y m1 =>
      rw [e1] at h3
      simp only [R.bind] at h3
      intro φ1 H1 v x1 a1 r1
      refine ⟨φ1, l, m1, a1, h2.ext x1, ?_⟩
      cases e2 : sb l m1 with
      | bad => rw [e2] at h3; exact h3
      | ex c fs m' =>
        rw [e2] at h3
        exact fun φ2 H2 x2 a2 => h3 φ2 H2 (x1.trans x2) a2
      | ok z m2 =>
        rw [e2] at h3
        simp only [R.bind] at h3
        intro φ2 H2 v2 x2 a2 r2
        cases y with
        | int i =>
          cases z with
          | int j =>
            cases r1
            cases r2
            simp only at h3
            by_cases hz : -4611686018427387904 ≤ i ∧ i < 4611686018427387904 ∧ -4611686018427387904 ≤ j ∧ j < 4611686018427387904
            · rw [if_pos hz] at h3
              exact ⟨i, j, rfl, by omega, h3 φ2 H2 _ (x1.trans x2) a2 walk_rng⟩
            · rw [if_neg hz] at h3; exact h3.elim
          | _ => exact h3.elim
        | _ => exact h3.elim⟩⟩
end
end SM

set_option Elab.async false
set_option linter.all false
set_option maxRecDepth 100000
set_option maxHeartbeats 1000000
namespace SM
open PySem PySem.Spec PyProof.Rows L2
theorem q_strc {X : Cx} {W : XM} {x : Str} {j pos} (cs : List Nat) (h : x.cps.toList = cs := by decide +kernel) : QE X W (.Constant (.str x) j pos) (sC (.str cs)) := by
  subst h
  exact q_str
/-! ## defs -/
def fnS (n N : Nat) (b : SS) : FS := fun xs m => if xs.length = n then match b (xs.map some ++ List.replicate (N - n) none) m with
  | .nx _ m' => .ok .non m'
  | .rt x m' => .ok x m'
  | .ex c fs _ m' => .ex c fs m'
  | _ => .bad
  else .bad
theorem rl_start {K : PySem.W.Frag} {H : Hp} {φ : List Addr} {N : List Str} {n : Nat} (hn : n ≤ N.length) : ∀ {xs : List PV} {vs : List V}, RVs K H φ xs vs → xs.length = n → RL K H φ (xs.map some ++ List.replicate (N.length - n) none) (L2.start N vs) := fun {xs vs} h hl => by
  have hv := h.length
  unfold L2.start
  refine ⟨by simp [hv, hl], fun i x e => ?_⟩
  by_cases hi : i < xs.length
  · rw [List.getElem?_append_left (by simpa using hi)] at e
    rw [List.getElem?_map] at e
    cases hx : xs[i]? with
    | none => rw [hx] at e; cases e
    | some y =>
      rw [hx] at e
      cases e
      obtain ⟨v, e1, e2⟩ := h.get hx
      exact ⟨v, by rw [List.getElem?_append_left (by simpa [hv] using hi), List.getElem?_map, e1]; rfl, e2⟩
  · rw [List.getElem?_append_right (by simpa using hi)] at e
    rw [List.getElem?_replicate] at e
    split at e <;> cases e
section
variable {P : Program} {w : World} {K : PySem.W.Frag} {mg : Str → Option Value} {base : Heap}
theorem okQ {x qual : Str} {st : Stmt} {f : Addr} {fd : FuncData} {N ps : List Str} {k : Nat} (F : Fun K x qual st f fd) (S : FnScope N ps (defScope st)) (b : SS)
    (h : ∀ (cdv : Value) (A : Around) (outer : List Env) (s : Shared) (H : Hp) (E : XK), Room k (A.deeper (envOfC qual (defScope st) s.heap.objs.size f cdv)) →
      QSs (cxOf CX0 P w K mg base N qual (defScope st) f cdv A outer s H E).nox W0 (defBody st) b) : FnOk P w K mg base CX0 (k + 1) f fd ps (SpQ K ps.length (fnS ps.length N.length b)) := by
  refine F.ok S (fun vs H Q E h => h.1) fun cdv A outer s H vs Q E hr hsp => ?_
  obtain ⟨hl, φ, m, xs, h1, h2, h3⟩ := hsp
  have hle : ps.length ≤ N.length := by
    have := congrArg List.length S.pre
    rw [List.length_take] at this
    omega
  have hxl : xs.length = ps.length := by rw [← h2.length]; exact hl
  refine ⟨_, (h cdv A outer s H E hr).ps, φ, _, m, h1, rl_start hle h2 hxl, ?_⟩
  unfold fnS at h3
  rw [if_pos hxl] at h3
  cases hb : b (xs.map some ++ List.replicate (N.length - ps.length) none) m with
  | nx l m' => rw [hb] at h3; exact fun φ' σ' H' x a b => h3 φ' H' _ x a rfl
  | rt y m' => rw [hb] at h3; exact h3
  | bk l m' => rw [hb] at h3; exact h3.elim
  | ct l m' => rw [hb] at h3; exact h3.elim
  | ex c fs l m' => rw [hb] at h3; exact h3.elim
  | bad => rw [hb] at h3; exact h3.elim
theorem cal_mk {x qual : Str} {st : Stmt} {f : Addr} {fd : FuncData} {ps : List Str} {k n : Nat} {g : FS} (hn : ps.length = n) (G : FnOk P w K mg base CX0 k f fd ps (SpQ K n g)) (F : Fun K x qual st f fd) (hm : mg x = some (.ref f)) (hb : Binds K fd ps []) : Cal P w K mg base x n k g :=
  ⟨f, fd, ps, hn, G, hm, F.kp, hb⟩
/-- the law's own promise at a script -/
theorem law_sp {f : FS} {E : XK} {H : Hp} {a : Addr} {ns : List Int} {m' : MH} (h : f [.ref 0] [.frz (ns.map .int)] = .ok (.bl true) m') (ho : Only H) (hS : SqL K H a (ns.map V.int)) : SpQ K 1 f [.ref a] H (fun v _ => v = .bl true) E := by
  have rvs : ∀ ns : List Int, RVs K H [a] (ns.map .int) (ns.map V.int) := fun ns => by
    induction ns with
    | nil => rfl
    | cons n r ih => exact ⟨.int n, _, rfl, rfl, ih⟩
  have hF : SqF K H a (ns.map V.int) := by
    rcases hS with (q | q) | q
    · rcases ho a with z | ⟨o, xs, z⟩
      · rw [z] at q; cases q
      · rw [z] at q; cases q
    · exact .inl q
    · exact .inr q
  refine ⟨rfl, [a], [.frz (ns.map .int)], [.ref 0], ⟨rfl, ?_, ?_⟩, ⟨.ref a, [], rfl, ⟨a, rfl, rfl⟩, rfl⟩, ?_⟩
  · intro i j b o u h1 h2 h3 h4 m1 m2
    cases i with
    | zero => cases h3; cases m1
    | succ i => cases h3
  · intro n b o h1 h2
    cases n with
    | zero => cases h1; cases h2; exact ⟨_, hF, rvs ns⟩
    | succ n => cases h1
  · rw [h]
    intro φ' H' v x1 a1 r1
    exact r1
end
end SM

set_option Elab.async false
set_option linter.all false
set_option maxRecDepth 100000
set_option maxHeartbeats 1000000
namespace SM
open PySem PySem.Spec PyProof.Rows L2
/-! ## what a reckoning comes to -/
abbrev EX := String → List PV → MH → Prop
def NoE : EX := fun _ _ _ => False
/-! what stands behind is held: simp does not go into it (the last place hangs on it, and says nothing of it) -/
@[reducible] def Hold {α : Sort u} (_ : α) : Type := Unit
@[irreducible] def WP {α : Type} (r : R α) (Q : α → MH → Prop) (E : EX) (_ : Hold (fun (_ : Unit) => (Q, E)) := Unit.unit) : Prop := match r with
  | .ok x m => Q x m
  | .ex c fs m => E c fs m
  | .bad => False
structure ED where
  nx : Loc → MH → Prop
  rt : PV → MH → Prop
  bk : Loc → MH → Prop := fun _ _ => False
  ct : Loc → MH → Prop := fun _ _ => False
  ex : String → List PV → Loc → MH → Prop := fun _ _ _ _ => False
@[irreducible] def WS (r : RS) (D : ED) (_ : Hold (fun (_ : Unit) => D) := Unit.unit) : Prop := match r with
  | .nx l m => D.nx l m
  | .rt x m => D.rt x m
  | .bk l m => D.bk l m
  | .ct l m => D.ct l m
  | .ex c fs l m => D.ex c fs l m
  | .bad => False
@[irreducible] def WG (o : Option (Loc × MH)) (Q : Loc → MH → Prop) (_ : Hold (fun (_ : Unit) => Q) := Unit.unit) : Prop := match o with
  | some (l, m) => Q l m
  | none => False
section
variable {α β : Type} {Q Q' : α → MH → Prop} {E : EX} {l : Loc} {m : MH} {D : ED}
theorem WP.mono {r : R α} (h : WP r Q E) (i : ∀ x m, Q x m → Q' x m) : WP r Q' E := by
  unfold WP at h ⊢
  cases r with
  | ok x m => exact i x m h
  | ex c fs m => exact h
  | bad => exact h
theorem WP.run {r : R α} (h : WP r Q NoE) : ∃ x m, r = .ok x m ∧ Q x m := by
  unfold WP at h
  cases r with
  | ok x m => exact ⟨x, m, rfl, h⟩
  | ex c fs m => exact h.elim
  | bad => exact h.elim
theorem WP.of {r : R α} {x : α} {m : MH} (h : r = .ok x m) (q : Q x m) : WP r Q E := by subst h; unfold WP; exact q
theorem WP.noe {r : R α} (h : WP r Q NoE) : WP r Q E := by
  unfold WP at h ⊢
  cases r with
  | ok x m => exact h
  | ex c fs m => exact h.elim
  | bad => exact h
theorem WS.mono {r : RS} {D D' : ED} (h : WS r D) (h1 : ∀ l m, D.nx l m → D'.nx l m) (h2 : ∀ x m, D.rt x m → D'.rt x m) (h3 : ∀ l m, D.bk l m → D'.bk l m) (h4 : ∀ l m, D.ct l m → D'.ct l m) (h5 : ∀ c fs l m, D.ex c fs l m → D'.ex c fs l m) : WS r D' := by
  unfold WS at h ⊢
  cases r with
  | nx l m => exact h1 _ _ h
  | rt x m => exact h2 _ _ h
  | bk l m => exact h3 _ _ h
  | ct l m => exact h4 _ _ h
  | ex c fs l m => exact h5 _ _ _ _ h
  | bad => exact h
theorem wp_eq {r : R α} (h : ∀ x m, Q x m = Q' x m) : WP r Q E = WP r Q' E := by
  have : Q = Q' := funext fun x => funext fun m => h x m
  subst this; with_unfolding_all rfl
theorem wp_ok {x : α} : WP (.ok x m) Q E = Q x m := by with_unfolding_all rfl
theorem wp_bad : WP (.bad : R α) Q E = False := by with_unfolding_all rfl
theorem wp_ex {c : String} {fs : List PV} : WP (.ex c fs m : R α) Q E = E c fs m := by with_unfolding_all rfl
theorem wp_bind {r : R β} {k : β → MH → R α} : WP (r.bind k) Q E = WP r (fun x m => WP (k x m) Q E) E := by cases r <;> with_unfolding_all rfl
theorem wp_some {x : α} : WP (lift (some (x, m))) Q E = Q x m := by with_unfolding_all rfl
theorem wp_none : WP (lift (none : Option (α × MH))) Q E = False := by with_unfolding_all rfl
theorem wp_liftif {c : Prop} [Decidable c] {a b : Option (α × MH)} : WP (lift (if c then a else b)) Q E = if c then WP (lift a) Q E else WP (lift b) Q E := by split <;> with_unfolding_all rfl
theorem wp_if {c : Prop} [Decidable c] {a b : R α} : WP (if c then a else b) Q E = if c then WP a Q E else WP b Q E := by split <;> with_unfolding_all rfl
theorem ws_if {c : Prop} [Decidable c] {a b : RS} : WS (if c then a else b) D = if c then WS a D else WS b D := by split <;> with_unfolding_all rfl
theorem wp_noex {r : R PV} {Q : PV → MH → Prop} : WP (noex r) Q E = WP r Q NoE := by cases r <;> with_unfolding_all rfl
theorem ws_then {r : R β} {k : β → MH → RS} : WS (R.then l r k) D = WP r (fun x m => WS (k x m) D) (fun c fs m => D.ex c fs l m) := by cases r <;> with_unfolding_all rfl
theorem ws_seq {r : RS} {k : Loc → MH → RS} : WS (r.seq k) D = WS r { D with nx := fun l m => WS (k l m) D } := by cases r <;> with_unfolding_all rfl
theorem ws_nx : WS (.nx l m) D = D.nx l m := by with_unfolding_all rfl
theorem ws_rt {x : PV} : WS (.rt x m) D = D.rt x m := by with_unfolding_all rfl
theorem ws_bk : WS (.bk l m) D = D.bk l m := by with_unfolding_all rfl
theorem ws_ct : WS (.ct l m) D = D.ct l m := by with_unfolding_all rfl
theorem ws_bad : WS .bad D = False := by with_unfolding_all rfl
end
section
variable {Q : PV → MH → Prop} {E : EX} {l : Loc} {m : MH} {D : ED} {a b c : SE} {s t : SS} {ta tb : SB} {as : SA}
theorem w_var {i : Nat} {v : PV} (h : l[i]? = some (some v)) : WP (sVar i l m) Q E = Q v m := by unfold sVar; rw [h]; with_unfolding_all rfl
theorem w_v0 {v : PV} {r : Loc} : WP (sVar 0 (some v :: r) m) Q E = Q v m := by with_unfolding_all rfl
theorem w_vS {i : Nat} {o : Option PV} {r : Loc} : WP (sVar (i + 1) (o :: r) m) Q E = WP (sVar i r m) Q E := by
  unfold sVar; rw [List.getElem?_cons_succ]
theorem w_c {v : PV} : WP (sC v l m) Q E = Q v m := by with_unfolding_all rfl
theorem w_op {f : PV → PV → MH → OR} : WP (sOp f a b l m) Q E = WP (a l m) (fun x m1 => WP (b l m1) (fun y m2 => WP (lift (f x y m2)) Q E) E) E := by unfold sOp; rw [wp_bind]; exact wp_eq fun x m1 => wp_bind
theorem w_un {f : PV → MH → OR} : WP (sUn f a l m) Q E = WP (a l m) (fun x m1 => WP (lift (f x m1)) Q E) E := by unfold sUn; rw [wp_bind]
theorem w_anil {Q : List PV → MH → Prop} : WP (aNil l m) Q E = Q [] m := by with_unfolding_all rfl
theorem w_acons {Q : List PV → MH → Prop} : WP (aCons a as l m) Q E = WP (a l m) (fun x m1 => WP (as l m1) (fun xs m2 => Q (x :: xs) m2) E) E := by unfold aCons; rw [wp_bind]; exact wp_eq fun x m1 => by rw [wp_bind]; exact wp_eq fun xs m2 => wp_ok
theorem w_tup : WP (sTup as l m) Q E = WP (as l m) (fun xs m1 => xs.length ≤ 16777216 ∧ Q (.tup xs) m1) E := by
  unfold sTup; rw [wp_bind]; refine wp_eq fun xs m1 => ?_
  by_cases h : xs.length ≤ 16777216
  · rw [if_pos h]; simp [h, wp_ok]
  · rw [if_neg h]; simp [h, wp_bad]
theorem w_lst : WP (sLst as l m) Q E = WP (as l m) (fun xs m1 => xs.length ≤ 16777216 ∧ Q (.ref m1.length) (m1 ++ [.lst xs])) E := by
  unfold sLst; rw [wp_bind]; refine wp_eq fun xs m1 => ?_
  by_cases h : xs.length ≤ 16777216
  · rw [if_pos h]; simp [h, wp_ok]
  · rw [if_neg h]; simp [h, wp_bad]
theorem w_call {f : List PV → MH → OR} : WP (sCall f as l m) Q E = WP (as l m) (fun xs m1 => WP (lift (f xs m1)) Q E) E := by unfold sCall; rw [wp_bind]
theorem w_callU {n : Nat} {f : FS} : WP (sCallU n f as l m) Q E = WP (as l m) (fun xs m1 => xs.length = n ∧ WP (f xs m1) Q NoE) E := by
  unfold sCallU; rw [wp_bind]; refine wp_eq fun xs m1 => ?_
  by_cases h : xs.length = n
  · rw [if_pos h, wp_noex]; simp [h]
  · rw [if_neg h]; simp [h, wp_bad]
theorem w_isi {T : String} : WP (sIsi T a l m) Q E = WP (a l m) (fun x m1 => okTy m1 x = true ∧ Q (.bl (isTab (tyName x) T)) m1) E := by
  unfold sIsi; rw [wp_bind]; refine wp_eq fun x m1 => ?_
  by_cases h : okTy m1 x = true
  · rw [if_pos h]; simp [h, wp_ok]
  · rw [if_neg h]; simp [h, wp_bad]
theorem w_meth {ty : MH → PV → Bool} {f : PV → List PV → MH → OR} : WP (sMeth ty f a as l m) Q E = WP (a l m) (fun x m1 => ty m1 x = true ∧ WP (as l m1) (fun xs m2 => WP (lift (f x xs m2)) Q E) E) E := by
  unfold sMeth; rw [wp_bind]; refine wp_eq fun x m1 => ?_
  by_cases h : ty m1 x = true
  · rw [if_pos h, wp_bind]; simp [h]
  · rw [if_neg h]; simp [h, wp_bad]
theorem wp_asB {x : PV} {Q : Bool → MH → Prop} : WP (asB x m) Q E = match x with | .bl b => Q b m | _ => False := by cases x <;> with_unfolding_all rfl
theorem w_tru {Q : Bool → MH → Prop} : WP (tTru a l m) Q E = WP (a l m) (fun x m1 => match truv m1 x with | some b => Q b m1 | none => False) E := by
  unfold tTru; rw [wp_bind]; refine wp_eq fun x m1 => ?_; cases truv m1 x <;> with_unfolding_all rfl
theorem w_bool {Q : Bool → MH → Prop} : WP (tBool a l m) Q E = WP (a l m) (fun x m1 => WP (asB x m1) Q E) E := by unfold tBool; rw [wp_bind]
theorem w_notS {Q : Bool → MH → Prop} : WP (tNotS ta l m) Q E = WP (ta l m) (fun b m1 => Q (!b) m1) E := by unfold tNotS; rw [wp_bind]; with_unfolding_all rfl
theorem w_andS {Q : Bool → MH → Prop} : WP (tAndS ta tb l m) Q E = WP (ta l m) (fun b m1 => if b = true then WP (tb l m1) Q E else Q false m1) E := by
  unfold tAndS; rw [wp_bind]; refine wp_eq fun b m1 => ?_; rw [wp_if]; with_unfolding_all rfl
theorem w_orS {Q : Bool → MH → Prop} : WP (tOrS ta tb l m) Q E = WP (ta l m) (fun b m1 => if b = true then Q true m1 else WP (tb l m1) Q E) E := by
  unfold tOrS; rw [wp_bind]; refine wp_eq fun b m1 => ?_; rw [wp_if]; with_unfolding_all rfl
theorem w_ifx : WP (sIf ta a b l m) Q E = WP (ta l m) (fun k m1 => if k = true then WP (a l m1) Q E else WP (b l m1) Q E) E := by
  unfold sIf; rw [wp_bind]; refine wp_eq fun b m1 => ?_; rw [wp_if]
theorem w_andV : WP (sAndV a b l m) Q E = WP (a l m) (fun x m1 => WP (asB x m1) (fun k m2 => if k = true then WP (b l m2) Q E else Q (.bl false) m2) E) E := by
  unfold sAndV; rw [wp_bind]; refine wp_eq fun x m1 => ?_; rw [wp_bind]; refine wp_eq fun k m2 => ?_; rw [wp_if]; with_unfolding_all rfl
theorem w_orV : WP (sOrV a b l m) Q E = WP (a l m) (fun x m1 => WP (asB x m1) (fun k m2 => if k = true then Q (.bl true) m2 else WP (b l m2) Q E) E) E := by
  unfold sOrV; rw [wp_bind]; refine wp_eq fun x m1 => ?_; rw [wp_bind]; refine wp_eq fun k m2 => ?_; rw [wp_if]; with_unfolding_all rfl
theorem w_notV : WP (sNotV a l m) Q E = WP (a l m) (fun x m1 => WP (asB x m1) (fun k m2 => Q (.bl (!k)) m2) E) E := by
  unfold sNotV; rw [wp_bind]; refine wp_eq fun x m1 => ?_; rw [wp_bind]; with_unfolding_all rfl
theorem w_chain {f g : PV → PV → MH → OR} : WP (sChain f g a b c l m) Q E = WP (a l m) (fun x m1 => WP (b l m1) (fun y m2 => WP (lift (f x y m2)) (fun z m3 => WP (asB z m3) (fun k m4 => if k = true then WP (c l m4) (fun u m5 => WP (lift (g y u m5)) Q E) E else Q (.bl false) m4) E) E) E) E := by
  unfold sChain; rw [wp_bind]; refine wp_eq fun x m1 => ?_; rw [wp_bind]; refine wp_eq fun y m2 => ?_; rw [wp_bind]; refine wp_eq fun z m3 => ?_; rw [wp_bind]; refine wp_eq fun k m4 => ?_; rw [wp_if]; split
  · exact wp_bind
  · with_unfolding_all rfl
theorem add_ii {a b : Int} : addv (.int a) (.int b) m = some (.int (a + b), m) := by with_unfolding_all rfl
theorem add_ss {a b : List Nat} : addv (.str a) (.str b) m = if a.length + b.length ≤ 16777216 then some (.str (a ++ b), m) else none := by with_unfolding_all rfl
theorem add_tt {a b : List PV} : addv (.tup a) (.tup b) m = if a.length + b.length ≤ 16777216 then some (.tup (a ++ b), m) else none := by with_unfolding_all rfl
theorem add_rr {i j : Nat} {xs ys : List PV} (h : lst? m i = some xs) (h2 : lst? m j = some ys) : addv (.ref i) (.ref j) m = if xs.length + ys.length ≤ 16777216 then some (.ref m.length, m ++ [.lst (xs ++ ys)]) else none := by
  show (match lst? m i, lst? m j with | some xs, some ys => _ | _, _ => none) = _
  rw [h, h2]
theorem sub_ii {a b : Int} : subv (.int a) (.int b) m = some (.int (a - b), m) := by with_unfolding_all rfl
theorem mul_ii {a b : Int} : mulv (.int a) (.int b) m = if (a.natAbs < 18446744073709551616 ∨ b.natAbs < 18446744073709551616) ∨ (a.natAbs < big ∧ b.natAbs < big) then some (.int (a * b), m) else none := by with_unfolding_all rfl
theorem fdiv_ii {a b : Int} : fdivv (.int a) (.int b) m = if b ≠ 0 ∧ b.natAbs < big then some (.int (a.fdiv b), m) else none := by with_unfolding_all rfl
theorem mod_ii {a b : Int} : modv (.int a) (.int b) m = if b ≠ 0 then some (.int (a.fmod b), m) else none := by with_unfolding_all rfl
theorem pow_ii {a b : Int} : powv (.int a) (.int b) m = if 0 ≤ b ∧ b ≤ 1000 ∧ a.natAbs < 18446744073709551616 then some (.int (a ^ b.toNat), m) else none := by with_unfolding_all rfl
theorem neg_i {a : Int} : negv (.int a) m = some (.int (-a), m) := by with_unfolding_all rfl
theorem cmp_ii {f : Int → Int → Bool} {a b : Int} : cmpI f (.int a) (.int b) m = some (.bl (f a b), m) := by with_unfolding_all rfl
theorem is_n {x : PV} : isNv x .non m = some (.bl (isNon x), m) := by unfold isNv; with_unfolding_all rfl
theorem not_n {x : PV} : notNv x .non m = some (.bl (!isNon x), m) := by unfold notNv; with_unfolding_all rfl
theorem non_n : isNon .non = true := by with_unfolding_all rfl
theorem non_i {a : Int} : isNon (.int a) = false := by with_unfolding_all rfl
theorem non_b {a : Bool} : isNon (.bl a) = false := by with_unfolding_all rfl
theorem non_s {a : List Nat} : isNon (.str a) = false := by with_unfolding_all rfl
theorem non_t {a : List PV} : isNon (.tup a) = false := by with_unfolding_all rfl
theorem non_r {a : Nat} : isNon (.ref a) = false := by with_unfolding_all rfl
theorem abs_i {a : Int} : absv [.int a] m = some (.int (if a < 0 then -a else a), m) := by with_unfolding_all rfl
theorem max_ii {a b : Int} : max2v [.int a, .int b] m = some (.int (if b > a then b else a), m) := by with_unfolding_all rfl
theorem min_ii {a b : Int} : min2v [.int a, .int b] m = some (.int (if b < a then b else a), m) := by with_unfolding_all rfl
theorem int_i {a : Int} : intv [.int a] m = some (.int a, m) := by with_unfolding_all rfl
theorem int_b {a : Bool} : intv [.bl a] m = some (.int (if a then 1 else 0), m) := by with_unfolding_all rfl
theorem gcd_ii {a b : Int} : gcdv [.int a, .int b] m = some (.int (Nat.gcd a.natAbs b.natAbs : Nat), m) := by with_unfolding_all rfl
theorem len_t {xs : List PV} : lenv [.tup xs] m = some (.int xs.length, m) := by with_unfolding_all rfl
theorem len_s {s : List Nat} : lenv [.str s] m = if s.length ≤ 16777216 then some (.int s.length, m) else none := by with_unfolding_all rfl
theorem len_r {n : Nat} {xs : List PV} (h : seq? m n = some xs) : lenv [.ref n] m = some (.int xs.length, m) := by
  show (seq? m n).map _ = _; rw [h]; with_unfolding_all rfl
theorem ix_t {xs : List PV} {i : Int} : ixv (.tup xs) (.int i) m = (atI xs i).map fun x => (x, m) := by with_unfolding_all rfl
theorem ix_s {s : List Nat} {i : Int} : ixv (.str s) (.int i) m = if s.length ≤ 16777216 then (atI s i).map fun c => (.str [c], m) else none := by with_unfolding_all rfl
theorem ix_r {n : Nat} {xs : List PV} {i : Int} (h : seq? m n = some xs) : ixv (.ref n) (.int i) m = (atI xs i).map fun x => (x, m) := by
  show (match seq? m n with | some xs => _ | none => _) = _; rw [h]
theorem eq_v {x y : PV} : eqv x y m = (eqV m x y).map fun b => (.bl b, m) := by with_unfolding_all rfl
theorem ne_v {x y : PV} : nev x y m = (eqV m x y).map fun b => (.bl (!b), m) := by with_unfolding_all rfl
theorem eq_ii {a b : Int} : eqV m (.int a) (.int b) = some (decide (a = b)) := by with_unfolding_all rfl
theorem eq_bb {a b : Bool} : eqV m (.bl a) (.bl b) = some (decide (a = b)) := by with_unfolding_all rfl
theorem eq_ss {a b : List Nat} : eqV m (.str a) (.str b) = some (decide (a = b)) := by with_unfolding_all rfl
theorem eq_nn : eqV m .non .non = some true := by with_unfolding_all rfl
theorem eq_in {a : Int} : eqV m (.int a) .non = some false := by with_unfolding_all rfl
theorem eq_ni {a : Int} : eqV m .non (.int a) = some false := by with_unfolding_all rfl
theorem asB_b {b : Bool} {Q : Bool → MH → Prop} : WP (asB (.bl b) m) Q E = Q b m := by with_unfolding_all rfl
/-! statements -/
theorem s_nil : WS (xNil l m) D = D.nx l m := by with_unfolding_all rfl
theorem s_seq : WS (xSeq s t l m) D = WS (s l m) { D with nx := fun l m => WS (t l m) D } := by unfold xSeq; rw [ws_seq]
theorem s_cut {mid : Loc → MH → Prop} (h : WS (s l m) { D with nx := mid }) (h2 : ∀ l m, mid l m → WS (t l m) D) : WS (xSeq s t l m) D := by
  rw [s_seq]
  exact h.mono h2 (fun _ _ h => h) (fun _ _ h => h) (fun _ _ h => h) (fun _ _ _ _ h => h)
theorem s_brk : WS (xBrk l m) D = D.bk l m := by with_unfolding_all rfl
theorem s_cnt : WS (xCnt l m) D = D.ct l m := by with_unfolding_all rfl
theorem s_expr : WS (xExpr a l m) D = WP (a l m) (fun _ m1 => D.nx l m1) (fun c fs m => D.ex c fs l m) := by unfold xExpr; rw [ws_then]; with_unfolding_all rfl
theorem s_ret : WS (xRet a l m) D = WP (a l m) (fun x m1 => D.rt x m1) (fun c fs m => D.ex c fs l m) := by unfold xRet; rw [ws_then]; with_unfolding_all rfl
theorem s_retN : WS (xRetN l m) D = D.rt .non m := by with_unfolding_all rfl
theorem s_if : WS (xIf ta s t l m) D = WP (ta l m) (fun k m1 => if k = true then WS (s l m1) D else WS (t l m1) D) (fun c fs m => D.ex c fs l m) := by unfold xIf; rw [ws_then]; refine wp_eq fun k m1 => ?_; rw [ws_if]
theorem s_asn {i : Nat} : WS (xSet i a l m) D = WP (a l m) (fun x m1 => D.nx (l.set i (some x)) m1) (fun c fs m => D.ex c fs l m) := by unfold xSet; rw [ws_then]; with_unfolding_all rfl
theorem s_par {i j : Nat} : WS (xPar i j a b l m) D = WP (a l m) (fun x m1 => WP (b l m1) (fun y m2 => D.nx ((l.set i (some x)).set j (some y)) m2) (fun c fs m => D.ex c fs l m)) (fun c fs m => D.ex c fs l m) := by unfold xPar; rw [ws_then]; exact wp_eq fun x m1 => by rw [ws_then]; exact wp_eq fun y m2 => ws_nx
theorem s_asg {g : STg} : WS (xAsg a g l m) D = WP (a l m) (fun x m1 => WG (g x l m1) D.nx) (fun c fs m => D.ex c fs l m) := by
  unfold xAsg; rw [ws_then]; refine wp_eq fun x m1 => ?_; cases g x l m1 <;> with_unfolding_all rfl
theorem g_nm {i : Nat} {x : PV} {Q : Loc → MH → Prop} : WG (gNm i x l m) Q = Q (l.set i (some x)) m := by with_unfolding_all rfl
theorem g_nil {Q : Loc → MH → Prop} : WG (gNilS [] l m) Q = Q l m := by with_unfolding_all rfl
theorem g_cons {g : STg} {r : STgs} {x : PV} {xs : List PV} {Q : Loc → MH → Prop} : WG (gConsS g r (x :: xs) l m) Q = WG (g x l m) (fun l m => WG (r xs l m) Q) := by
  unfold gConsS; dsimp only; cases g x l m <;> with_unfolding_all rfl
theorem g_tupT {n : Nat} {g : STgs} {xs : List PV} {Q : Loc → MH → Prop} : WG (gTupS n g (.tup xs) l m) Q = (xs.length = n ∧ WG (g xs l m) Q) := by
  unfold gTupS
  by_cases h : xs.length = n
  · simp only [if_pos h]; simp [h]
  · simp only [if_neg h]; simp [h, WG]
theorem g_tupL {n i : Nat} {g : STgs} {xs : List PV} {Q : Loc → MH → Prop} (e : seq? m i = some xs) : WG (gTupS n g (.ref i) l m) Q = (xs.length = n ∧ WG (g xs l m) Q) := by
  unfold gTupS
  simp only [e]
  by_cases h : xs.length = n
  · simp only [if_pos h]; simp [h]
  · simp only [if_neg h]; simp [h, WG]
theorem g_subW {o i : SE} {x : PV} {Q : Loc → MH → Prop} : WG (gSubS o i x l m) Q = WP (o l m) (fun ov m1 => WP (i l m1) (fun iv m2 => match setv ov iv x m2 with | some m3 => Q l m3 | none => False) NoE) NoE := by
  unfold gSubS
  cases o l m with
  | ok ov m1 =>
    simp only [wp_ok]
    cases i l m1 with
    | ok iv m2 => simp only [wp_ok]; cases setv ov iv x m2 <;> with_unfolding_all rfl
    | ex _ _ _ => with_unfolding_all rfl
    | bad => with_unfolding_all rfl
  | ex _ _ _ => with_unfolding_all rfl
  | bad => with_unfolding_all rfl
theorem wp_fn {n N : Nat} {b : SS} {xs : List PV} : WP (fnS n N b xs m) Q E = (xs.length = n ∧ WS (b (xs.map some ++ List.replicate (N - n) none) m) ⟨fun _ m => Q .non m, Q, fun _ _ => False, fun _ _ => False, fun c fs _ m => E c fs m⟩) := by
  unfold fnS
  by_cases h : xs.length = n
  · rw [if_pos h]
    cases b (xs.map some ++ List.replicate (N - n) none) m <;> simp [h, WP, WS]
  · rw [if_neg h]; simp [h, wp_bad]
/-! loops -/
theorem ws_forL {it : ITM} {g : STg} {body : SS} {D : ED} (I : Nat → Loc → MH → Prop)
    (hs : ∀ i x l m, it.items[i]? = some x → I i l m → it.ok m ∧ WG (g x l m) (fun l1 m1 => WS (body l1 m1) ⟨I (i + 1), D.rt, D.nx, I (i + 1), D.ex⟩))
    (hd : ∀ l m, I it.items.length l m → it.ok m ∧ D.nx l m) : ∀ (k i : Nat) (l : Loc) (m : MH), k + i = it.items.length → I i l m → WS (forL it g body (it.items.drop i) l m) D
  | 0, i, l, m, e, h => by
    have e' : i = it.items.length := by omega
    subst e'
    rw [List.drop_of_length_le (Nat.le_refl _)]
    obtain ⟨h1, h2⟩ := hd l m h
    unfold forL
    rw [if_pos h1, ws_nx]
    exact h2
  | k + 1, i, l, m, e, h => by
    have hi : i < it.items.length := by omega
    rw [List.drop_eq_getElem_cons hi]
    obtain ⟨h1, h2⟩ := hs i _ l m (List.getElem?_eq_getElem hi) h
    unfold forL
    rw [if_pos h1]
    cases hg : g it.items[i] l m with
    | none => rw [hg] at h2; unfold WG at h2; exact h2.elim
    | some p =>
      obtain ⟨l1, m1⟩ := p
      rw [hg] at h2
      have h3 : WS (body l1 m1) ⟨I (i + 1), D.rt, D.nx, I (i + 1), D.ex⟩ := by unfold WG at h2; exact h2
      dsimp only
      cases hb : body l1 m1 with
      | nx l2 m2 => rw [hb, ws_nx] at h3; exact ws_forL I hs hd k (i + 1) l2 m2 (by omega) h3
      | ct l2 m2 => rw [hb, ws_ct] at h3; exact ws_forL I hs hd k (i + 1) l2 m2 (by omega) h3
      | bk l2 m2 => rw [hb, ws_bk] at h3; dsimp only; rw [ws_nx]; exact h3
      | rt x m2 => rw [hb, ws_rt] at h3; dsimp only; rw [ws_rt]; exact h3
      | ex c fs l2 m2 => rw [hb] at h3; dsimp only; unfold WS at h3 ⊢; exact h3
      | bad => rw [hb, ws_bad] at h3; exact h3.elim
/-- a for: its items, an invariant by the turn -/
theorem s_for {si : SI} {g : STg} {body : SS} {it : ITM} {m1 : MH} (hsi : si l m = .ok it m1) (I : Nat → Loc → MH → Prop) (h0 : I 0 l m1)
    (hs : ∀ i x l m, it.items[i]? = some x → I i l m → it.ok m ∧ WG (g x l m) (fun l1 m1 => WS (body l1 m1) ⟨I (i + 1), D.rt, D.nx, I (i + 1), D.ex⟩))
    (hd : ∀ l m, I it.items.length l m → it.ok m ∧ D.nx l m) : WS (xFor si g body l m) D := by
  unfold xFor
  rw [hsi]
  have := ws_forL (D := D) I hs hd it.items.length 0 l m1 (by omega) h0
  rw [List.drop_zero] at this
  exact this
theorem si_rng1 {b : SE} {j : Int} {m1 : MH} (h : b l m = .ok (.int j) m1) (hj : -4611686018427387904 ≤ j ∧ j < 4611686018427387904) : iRng1S b l m = .ok ⟨rng 0 j, none⟩ m1 := by
  unfold iRng1S; rw [h]; show (if _ then _ else _) = _; rw [if_pos hj]
theorem si_rng2 {a b : SE} {i j : Int} {m1 m2 : MH} (h : a l m = .ok (.int i) m1) (h2 : b l m1 = .ok (.int j) m2) (hj : -4611686018427387904 ≤ i ∧ i < 4611686018427387904 ∧ -4611686018427387904 ≤ j ∧ j < 4611686018427387904) : iRng2S a b l m = .ok ⟨rng i j, none⟩ m2 := by
  unfold iRng2S; rw [h]; show R.bind (b l m1) _ = _; rw [h2]; show (if _ then _ else _) = _; rw [if_pos hj]
theorem rng_at {lo hi : Int} {i : Nat} {x : PV} (h : (rng lo hi)[i]? = some x) : x = .int (lo + (i : Nat)) ∧ lo + (i : Nat) < hi := by
  by_cases hi' : i < (hi - lo).toNat
  · rw [rng_get hi'] at h; cases h; exact ⟨rfl, by omega⟩
  · rw [List.getElem?_eq_none (by rw [rng_len]; omega)] at h; cases h
/-- for x in range(b) -/
theorem s_for1 {b : SE} {g : STg} {body : SS} {j : Int} {m1 : MH} (n : Nat) (hn : n = j.toNat) (h : b l m = .ok (.int j) m1) (hj : j < 4611686018427387904) (hj0 : -4611686018427387904 ≤ j) (I : Nat → Loc → MH → Prop) (h0 : I 0 l m1)
    (hs : ∀ i l m, i < n → I i l m → WG (g (.int (i : Nat)) l m) (fun l1 m1 => WS (body l1 m1) ⟨I (i + 1), D.rt, D.nx, I (i + 1), D.ex⟩))
    (hd : ∀ l m, I n l m → D.nx l m) : WS (xFor (iRng1S b) g body l m) D := by
  have e : (rng 0 j).length = n := by rw [rng_len, hn, Int.sub_zero]
  refine s_for (it := ⟨rng 0 j, none⟩) (si_rng1 h ⟨hj0, hj⟩) I h0 (fun i x l m hx hi => ⟨trivial, ?_⟩) (fun l m hi => ⟨trivial, hd l m ?_⟩)
  · have hx' : (rng 0 j)[i]? = some x := hx
    obtain ⟨rfl, h2⟩ := rng_at hx'
    have := hs i l m (by omega) hi
    rw [Int.zero_add]
    exact this
  · have hi' : I (rng 0 j).length l m := hi
    rw [e] at hi'
    exact hi'
/-- for x in range(a, b) -/
theorem s_for2 {a b : SE} {g : STg} {body : SS} {i j : Int} {m1 m2 : MH} (n : Nat) (hn : n = (j - i).toNat) (h : a l m = .ok (.int i) m1) (h2 : b l m1 = .ok (.int j) m2) (hj : -4611686018427387904 ≤ i ∧ i < 4611686018427387904 ∧ -4611686018427387904 ≤ j ∧ j < 4611686018427387904) (I : Nat → Loc → MH → Prop) (h0 : I 0 l m2)
    (hs : ∀ k l m, k < n → I k l m → WG (g (.int (i + (k : Nat))) l m) (fun l1 m1 => WS (body l1 m1) ⟨I (k + 1), D.rt, D.nx, I (k + 1), D.ex⟩))
    (hd : ∀ l m, I n l m → D.nx l m) : WS (xFor (iRng2S a b) g body l m) D := by
  have e : (rng i j).length = n := by rw [rng_len, hn]
  refine s_for (it := ⟨rng i j, none⟩) (si_rng2 h h2 hj) I h0 (fun k x l m hx hi => ⟨trivial, ?_⟩) (fun l m hi => ⟨trivial, hd l m ?_⟩)
  · have hx' : (rng i j)[k]? = some x := hx
    obtain ⟨rfl, h2⟩ := rng_at hx'
    exact hs k l m (by omega) hi
  · have hi' : I (rng i j).length l m := hi
    rw [e] at hi'
    exact hi'
/-- for x in a tuple -/
theorem s_forT {e : SE} {g : STg} {body : SS} {xs : List PV} {m1 : MH} (h : e l m = .ok (.tup xs) m1) (I : Nat → Loc → MH → Prop) (h0 : I 0 l m1)
    (hs : ∀ i x l m, xs[i]? = some x → I i l m → WG (g x l m) (fun l1 m1 => WS (body l1 m1) ⟨I (i + 1), D.rt, D.nx, I (i + 1), D.ex⟩))
    (hd : ∀ l m, I xs.length l m → D.nx l m) : WS (xFor (iSeq e) g body l m) D :=
  s_for (it := ⟨xs, none⟩) (by unfold iSeq; rw [h]; with_unfolding_all rfl) I h0 (fun i x l m hx hi => ⟨trivial, hs i x l m hx hi⟩) (fun l m hi => ⟨trivial, hd l m hi⟩)
/-- for x in a list that stays as it is -/
theorem s_forL {e : SE} {g : STg} {body : SS} {xs : List PV} {n : Nat} {m1 : MH} (h : e l m = .ok (.ref n) m1) (hq : seq? m1 n = some xs) (I : Nat → Loc → MH → Prop) (h0 : I 0 l m1) (hk : ∀ i l m, I i l m → seq? m n = some xs)
    (hs : ∀ i x l m, xs[i]? = some x → I i l m → WG (g x l m) (fun l1 m1 => WS (body l1 m1) ⟨I (i + 1), D.rt, D.nx, I (i + 1), D.ex⟩))
    (hd : ∀ l m, I xs.length l m → D.nx l m) : WS (xFor (iSeq e) g body l m) D :=
  s_for (it := ⟨xs, some n⟩) (by unfold iSeq; rw [h]; show (match seq? m1 n with | some xs => _ | none => _) = _; rw [hq]) I h0 (fun i x l m hx hi => ⟨hk i l m hi, hs i x l m hx hi⟩) (fun l m hi => ⟨hk _ l m hi, hd l m hi⟩)
end
theorem iv_n_list  : isTab (tyName .non) "list" = false := by rw [show isTab (tyName .non) "list" = isTab "NoneType" "list" from rfl]; decide
theorem iv_n_tuple  : isTab (tyName .non) "tuple" = false := by rw [show isTab (tyName .non) "tuple" = isTab "NoneType" "tuple" from rfl]; decide
theorem iv_n_bool  : isTab (tyName .non) "bool" = false := by rw [show isTab (tyName .non) "bool" = isTab "NoneType" "bool" from rfl]; decide
theorem iv_n_str  : isTab (tyName .non) "str" = false := by rw [show isTab (tyName .non) "str" = isTab "NoneType" "str" from rfl]; decide
theorem iv_n_int  : isTab (tyName .non) "int" = false := by rw [show isTab (tyName .non) "int" = isTab "NoneType" "int" from rfl]; decide
theorem okt_n  {m : MH} : okTy m .non = true := by with_unfolding_all rfl
theorem iv_b_list {a : Bool} : isTab (tyName (.bl a)) "list" = false := by rw [show isTab (tyName (.bl a)) "list" = isTab "bool" "list" from rfl]; decide
theorem iv_b_tuple {a : Bool} : isTab (tyName (.bl a)) "tuple" = false := by rw [show isTab (tyName (.bl a)) "tuple" = isTab "bool" "tuple" from rfl]; decide
theorem iv_b_bool {a : Bool} : isTab (tyName (.bl a)) "bool" = true := by rw [show isTab (tyName (.bl a)) "bool" = isTab "bool" "bool" from rfl]; decide
theorem iv_b_str {a : Bool} : isTab (tyName (.bl a)) "str" = false := by rw [show isTab (tyName (.bl a)) "str" = isTab "bool" "str" from rfl]; decide
theorem iv_b_int {a : Bool} : isTab (tyName (.bl a)) "int" = true := by rw [show isTab (tyName (.bl a)) "int" = isTab "bool" "int" from rfl]; decide
theorem okt_b {a : Bool} {m : MH} : okTy m (.bl a) = true := by with_unfolding_all rfl
theorem iv_i_list {a : Int} : isTab (tyName (.int a)) "list" = false := by rw [show isTab (tyName (.int a)) "list" = isTab "int" "list" from rfl]; decide
theorem iv_i_tuple {a : Int} : isTab (tyName (.int a)) "tuple" = false := by rw [show isTab (tyName (.int a)) "tuple" = isTab "int" "tuple" from rfl]; decide
theorem iv_i_bool {a : Int} : isTab (tyName (.int a)) "bool" = false := by rw [show isTab (tyName (.int a)) "bool" = isTab "int" "bool" from rfl]; decide
theorem iv_i_str {a : Int} : isTab (tyName (.int a)) "str" = false := by rw [show isTab (tyName (.int a)) "str" = isTab "int" "str" from rfl]; decide
theorem iv_i_int {a : Int} : isTab (tyName (.int a)) "int" = true := by rw [show isTab (tyName (.int a)) "int" = isTab "int" "int" from rfl]; decide
theorem okt_i {a : Int} {m : MH} : okTy m (.int a) = true := by with_unfolding_all rfl
theorem iv_s_list {a : List Nat} : isTab (tyName (.str a)) "list" = false := by rw [show isTab (tyName (.str a)) "list" = isTab "str" "list" from rfl]; decide
theorem iv_s_tuple {a : List Nat} : isTab (tyName (.str a)) "tuple" = false := by rw [show isTab (tyName (.str a)) "tuple" = isTab "str" "tuple" from rfl]; decide
theorem iv_s_bool {a : List Nat} : isTab (tyName (.str a)) "bool" = false := by rw [show isTab (tyName (.str a)) "bool" = isTab "str" "bool" from rfl]; decide
theorem iv_s_str {a : List Nat} : isTab (tyName (.str a)) "str" = true := by rw [show isTab (tyName (.str a)) "str" = isTab "str" "str" from rfl]; decide
theorem iv_s_int {a : List Nat} : isTab (tyName (.str a)) "int" = false := by rw [show isTab (tyName (.str a)) "int" = isTab "str" "int" from rfl]; decide
theorem okt_s {a : List Nat} {m : MH} : okTy m (.str a) = true := by with_unfolding_all rfl
theorem iv_t_list {a : List PV} : isTab (tyName (.tup a)) "list" = false := by rw [show isTab (tyName (.tup a)) "list" = isTab "tuple" "list" from rfl]; decide
theorem iv_t_tuple {a : List PV} : isTab (tyName (.tup a)) "tuple" = true := by rw [show isTab (tyName (.tup a)) "tuple" = isTab "tuple" "tuple" from rfl]; decide
theorem iv_t_bool {a : List PV} : isTab (tyName (.tup a)) "bool" = false := by rw [show isTab (tyName (.tup a)) "bool" = isTab "tuple" "bool" from rfl]; decide
theorem iv_t_str {a : List PV} : isTab (tyName (.tup a)) "str" = false := by rw [show isTab (tyName (.tup a)) "str" = isTab "tuple" "str" from rfl]; decide
theorem iv_t_int {a : List PV} : isTab (tyName (.tup a)) "int" = false := by rw [show isTab (tyName (.tup a)) "int" = isTab "tuple" "int" from rfl]; decide
theorem okt_t {a : List PV} {m : MH} : okTy m (.tup a) = true := by with_unfolding_all rfl
theorem iv_r_list {a : Nat} : isTab (tyName (.ref a)) "list" = true := by rw [show isTab (tyName (.ref a)) "list" = isTab "list" "list" from rfl]; decide
theorem iv_r_tuple {a : Nat} : isTab (tyName (.ref a)) "tuple" = false := by rw [show isTab (tyName (.ref a)) "tuple" = isTab "list" "tuple" from rfl]; decide
theorem iv_r_bool {a : Nat} : isTab (tyName (.ref a)) "bool" = false := by rw [show isTab (tyName (.ref a)) "bool" = isTab "list" "bool" from rfl]; decide
theorem iv_r_str {a : Nat} : isTab (tyName (.ref a)) "str" = false := by rw [show isTab (tyName (.ref a)) "str" = isTab "list" "str" from rfl]; decide
theorem iv_r_int {a : Nat} : isTab (tyName (.ref a)) "int" = false := by rw [show isTab (tyName (.ref a)) "int" = isTab "list" "int" from rfl]; decide
theorem okt_r {m : MH} {n : Nat} {xs : List PV} (h : seq? m n = some xs) : okTy m (.ref n) = true := by show (seq? m n).isSome = true; rw [h]; with_unfolding_all rfl
theorem tru_b {m : MH} {b : Bool} : truv m (.bl b) = some b := by with_unfolding_all rfl
theorem tru_i {m : MH} {i : Int} : truv m (.int i) = some (i != 0) := by with_unfolding_all rfl
theorem tru_n {m : MH} : truv m .non = some false := by with_unfolding_all rfl
theorem tru_t {m : MH} {xs : List PV} : truv m (.tup xs) = some (!xs.isEmpty) := by with_unfolding_all rfl
theorem tru_r {m : MH} {n : Nat} {xs : List PV} (h : seq? m n = some xs) : truv m (.ref n) = some (!xs.isEmpty) := by show (seq? m n).map _ = _; rw [h]; with_unfolding_all rfl
end SM

set_option Elab.async false
set_option linter.all false
set_option maxRecDepth 100000
set_option maxHeartbeats 1000000
namespace SM
open PySem PySem.Spec PyProof.Rows L2
/-! ## slices -/
def cut {α : Type} (xs : List α) (lo hi : Option Int) : List α := (xs.drop (HT.sIx xs.length 0 lo)).take (HT.sIx xs.length xs.length hi - HT.sIx xs.length 0 lo)
abbrev SO := SM.Loc → MH → R (Option Int)
def rO : Rel (Option Int) (Option Int) := fun _ _ b c => c = b
instance {K} : Stays K rO := ⟨fun _ h => h⟩
def oNone : SO := fun _ m => .ok none m
def oSome (s : SE) : SO := fun l m => (s l m).bind fun x m1 => match x with
  | .int i => .ok (some i) m1
  | _ => .bad
def slv : PV → Option Int → Option Int → MH → OR
  | .str s, lo, hi, m => if s.length ≤ 16777216 then some (.str (cut s lo hi), m) else none
  | .tup xs, lo, hi, m => some (.tup (cut xs lo hi), m)
  | .ref n, lo, hi, m => (seq? m n).map fun xs => (.ref m.length, m ++ [.lst (cut xs lo hi)])
  | _, _, _, _ => none
def sSl (a : SE) (lo hi : SO) : SE := fun l m => (a l m).bind fun x m1 => (lo l m1).bind fun i m2 => (hi l m2).bind fun j m3 => lift (slv x i j m3)
section
variable {X : Cx} {W : XM} {e o : Expr} {se : SE} {lo hi : Option Expr} {slo shi : SO} {pos p2 : Pos}
/-- a slice's bound -/
structure QP (X : Cx) (W : XM) (e : Option Expr) (s : SO) : Prop where
  po : PO X e (Rdg X.K rO W s)
theorem po_imp {e : Option Expr} {t t' : TO} (h : PO X e t) (i : ∀ σ H Q, t' σ H Q → t σ H Q) : PO X e t' := ⟨fun pins s σ H Q I q => h.run pins s σ H Q I (i σ H Q q)⟩
theorem p_none : QP X W none oNone := ⟨po_imp po_none fun σ H Q ⟨φ, l, m, h1, h2, h3⟩ => h3 φ H none Ext.refl h1 rfl⟩
theorem p_some (h : QE X W e se) : QP X W (some e) (oSome se) := ⟨po_imp (po_some h.pe) fun σ H Q q => (one q).mono fun v H1 ⟨φ, m, x, l, c1, c2, c3⟩ => by
  cases x with
  | int i => cases c2; exact ⟨i, rfl, c3 φ H1 _ Ext.refl c1 rfl⟩
  | _ => exact c3.elim⟩
theorem cut_rvs {K : PySem.W.Frag} {H : Hp} {φ : List Addr} {xs : List PV} {vs : List V} (h : RVs K H φ xs vs) (lo hi : Option Int) : RVs K H φ (cut xs lo hi) (cutV vs lo hi) := by
  unfold cut cutV
  rw [h.length]
  exact (h.drop _).take _
theorem cut_whole {α : Type} {xs : List α} {lo hi : Option Int} (h : HT.sIx xs.length 0 lo = 0 ∧ HT.sIx xs.length xs.length hi = xs.length) : cut xs lo hi = xs := by
  unfold cut; rw [h.1, h.2]; simp
theorem cut_str (s : List Nat) (lo hi : Option Int) : cutS ⟨s.toArray⟩ lo hi = ⟨(cut s lo hi).toArray⟩ := by
  unfold cutS cut
  rw [str_len]
theorem s_slice : SlR X (fun v lo hi H Q => ∃ φ m x, RH X.K H φ m ∧ RV X.K H φ x v ∧ PostO X.K φ H (slv x lo hi m) Q) := by
  intro pins s σ H v u vl vu lo hi sl Q I rv hs pl pu ⟨φ, m, x, h1, h2, h3⟩
  cases x with
  | str z =>
    cases h2
    have h4 : PostO X.K φ H (if z.length ≤ 16777216 then some (.str (cut z lo hi), m) else none) Q := h3
    split at h4
    · rename_i hz
      exact sl_str pins s σ H _ u vl vu lo hi sl Q I rv hs pl pu ⟨_, rfl, by rw [str_len, sl_eq]; exact hz, by rw [cut_str]; exact h4.same h1 rfl⟩
    · exact h4.not.elim
  | tup xs =>
    obtain ⟨a, vs, rfl, r1, r2⟩ := h2
    have h4 : PostO X.K φ H (some (.tup (cut xs lo hi), m)) Q := h3
    refine sl_tupA pins s σ H _ u vl vu lo hi sl Q I rv hs pl pu ⟨a, vs, rfl, r1, fun hw => ?_, fun _ => h4.newT h1 (cut_rvs r2 lo hi)⟩
    rw [r2.length] at hw
    rw [cut_whole hw] at h4
    exact h4.same h1 ⟨a, vs, rfl, r1, r2⟩
  | ref n =>
    have h4 : PostO X.K φ H ((seq? m n).map fun xs => (.ref m.length, m ++ [.lst (cut xs lo hi)])) Q := h3
    cases hq : seq? m n with
    | none => rw [hq] at h4; exact h4.not.elim
    | some xs =>
      rw [hq] at h4
      obtain ⟨a, vs, rfl, r1, r2⟩ := h1.seq h2 hq
      exact sl_list pins s σ H _ u vl vu _ _ sl Q I rv hs pl pu ⟨a, vs, rfl, r1, h4.newL h1 (cut_rvs r2 lo hi)⟩
  | _ => exact h3.not.elim
theorem q_slice (he : QE X W e se) (hl : QP X W lo slo) (hu : QP X W hi shi) : QE X W (.Subscript e (.Slice lo hi none p2) pos) (sSl se slo shi) :=
  ⟨pe_imp (pe_slice s_slice he.pe hl.po hu.po) fun σ H Q ⟨φ, l, m, h1, h2, h3⟩ => ⟨φ, l, m, h1, h2, (Post.bind (rel := rV X.K) h2 h3).mono fun v H1 ⟨φ1, x, m1, e1, a1, b1, c1, d1⟩ =>
    ⟨φ1, l, m1, a1, b1, (Post.bind (rel := rO) b1 d1).mono fun i H2 ⟨φ2, i', m2, e2, a2, b2, c2, d2⟩ => ⟨φ2, l, m2, a2, b2, (Post.bind (rel := rO) b2 d2).mono fun j H3 ⟨φ3, j', m3, e3, a3, b3, c3, d3⟩ => by
      cases c2; cases c3
      exact ⟨φ3, m3, x, a3, RV.ext e3 (RV.ext e2 c1), .of d3⟩⟩⟩⟩⟩
end

/-! ## texts: order, in, repeated -/
def cmpIS (f : Int → Int → Bool) (g : List Nat → List Nat → Bool) : PV → PV → MH → OR
  | .int a, .int b, m => some (.bl (f a b), m)
  | .str a, .str b, m => some (.bl (g a b), m)
  | _, _, _ => none
def ltv := cmpIS (fun a b => decide (a < b)) (fun a b => decide (a < b))
def lev := cmpIS (fun a b => decide (a ≤ b)) (fun a b => !decide (b < a))
def gtv := cmpIS (fun a b => decide (b < a)) (fun a b => decide (b < a))
def gev := cmpIS (fun a b => decide (b ≤ a)) (fun a b => !decide (a < b))
section
variable {X : Cx}
theorem o_cmpIS {op : CmpOp} {f : Int → Int → Bool} {g : List Nat → List Nat → Bool} (h1 : OpQ X (compareOp op) (cmpI f))
    (h2 : OpR X (compareOp op) (fun x y H Q => ∃ i j : Str, x = .str i ∧ y = .str j ∧ Q (.bl (g i.cps.toList j.cps.toList)) H)) : OpQ X (compareOp op) (cmpIS f g) := .of_eq fun v w H Q φ m x y a1 a2 a3 a4 => by
  unfold cmpIS at a4
  split at a4
  · exact ⟨_, h1, φ, m, _, _, a1, a2, a3, a4⟩
  · cases a2; cases a3
    exact ⟨_, h2, _, _, rfl, rfl, a4.same a1 rfl⟩
  · exact a4.not.elim
theorem o_lt : OpQ X (compareOp .Lt) ltv := o_cmpIS o_ltI op_lt_str
theorem o_le : OpQ X (compareOp .LtE) lev := o_cmpIS o_leI op_le_str
theorem o_gt : OpQ X (compareOp .Gt) gtv := o_cmpIS o_gtI op_gt_str
theorem o_ge : OpQ X (compareOp .GtE) gev := o_cmpIS o_geI op_ge_str
end
/-- in: a sign in a text, a thing in a tuple or list of flat things, data in a list -/
def inS : PV → PV → MH → OR
  | .str [c], .str s, m => some (.bl (decide (c ∈ s)), m)
  | x, y, m => inv x y m
def ninS : PV → PV → MH → OR
  | .str [c], .str s, m => some (.bl (!decide (c ∈ s)), m)
  | x, y, m => ninv x y m
section
variable {X : Cx} {k : Nat}
theorem o_inS (hr : Room k X.A) : OpQ X (compareOp .In) inS := .of_eq fun v w H Q φ m x y a1 a2 a3 a4 => by
  unfold inS at a4
  split at a4
  · cases a2; cases a3
    exact ⟨_, op_in_sign, _, _, rfl, rfl, a4.same a1 rfl⟩
  · exact ⟨_, o_in hr, φ, m, _, _, a1, a2, a3, a4⟩
theorem o_ninS (hr : Room k X.A) : OpQ X (compareOp .NotIn) ninS := .of_eq fun v w H Q φ m x y a1 a2 a3 a4 => by
  unfold ninS at a4
  split at a4
  · cases a2; cases a3
    exact ⟨_, op_notIn_sign, _, _, rfl, rfl, a4.same a1 rfl⟩
  · exact ⟨_, o_nin hr, φ, m, _, _, a1, a2, a3, a4⟩
theorem fold_rep (c : List Nat) : ∀ (k : Nat) (acc : Array Nat), (List.replicate k c.toArray).foldl (· ++ ·) acc = acc ++ ((List.replicate k c).flatten).toArray
  | 0, acc => by simp
  | k + 1, acc => by
    rw [List.replicate_succ, List.foldl_cons, fold_rep c k, List.replicate_succ, List.flatten_cons]
    apply Array.ext'
    simp
/-- a text some times -/
theorem op_mul_str : OpR X (binaryOp .Mult) (fun x y H Q => ∃ (c : List Nat) (n : Int), x = .str ⟨c.toArray⟩ ∧ y = .int n ∧ 0 ≤ n ∧ n ≤ 1000 ∧ c.length ≤ 1000 ∧ Q (.str ⟨((List.replicate n.toNat c).flatten).toArray⟩) H) := by
  intro pins s σ H x y v u Q I rx ry h
  obtain ⟨c, n, rfl, rfl, h0, h1, h2, q⟩ := h
  obtain ⟨t, rfl⟩ := rx
  obtain ⟨t', rfl⟩ := ry
  have hlen : (⟨c.toArray⟩ : Str).length = c.length := str_len c
  have hsz := sl_eq
  have hdiv : ¬ n < 1 → (1000 : Int) ≤ (2 ^ 63 - 1) / n := fun h => by
    rw [Int.le_ediv_iff_mul_le (by omega)]
    omega
  have hprod : c.length * n.toNat ≤ 1000 * 1000 := Nat.mul_le_mul h2 (by omega)
  refine PySem.P.mul_str (by rw [decide_eq_false (by omega), decide_eq_false (by omega)]; rfl) (fun hn _ => ?_) (fun hn _ => ?_) ?_
  · rw [hlen]
    have := hdiv hn
    omega
  · unfold Builtin.Str.tooLong
    rw [hlen]
    exact decide_eq_false (by omega)
  · by_cases hn : n < 1
    · rw [if_pos hn]
      have e : n.toNat = 0 := by omega
      rw [e] at q
      exact ⟨by decide, .str ⟨#[]⟩, H, I.tok _, ⟨_, rfl⟩, q⟩
    · rw [if_neg hn]
      by_cases h1' : (n == 1 || (⟨c.toArray⟩ : Str).length == 0) = true
      · rw [if_pos h1']
        have e : (List.replicate n.toNat c).flatten = c := by
          rw [hlen] at h1'
          rcases (by simpa using h1' : n = 1 ∨ c = []) with rfl | rfl
          · simp
          · simp
        rw [e] at q
        exact ⟨.str ⟨c.toArray⟩, H, I, ⟨_, rfl⟩, q⟩
      · rw [if_neg h1', fold_rep]
        have e : (#[] : Array Nat) ++ ((List.replicate n.toNat c).flatten).toArray = ((List.replicate n.toNat c).flatten).toArray := by simp
        rw [e]
        refine ⟨?_, .str ⟨((List.replicate n.toNat c).flatten).toArray⟩, H, I.tok _, ⟨_, rfl⟩, q⟩
        rw [str_len, List.length_flatten]
        simp
        rw [Nat.mul_comm]
        omega
def mulvS : PV → PV → MH → OR
  | .str c, .int n, m => if 0 ≤ n ∧ n ≤ 1000 ∧ c.length ≤ 1000 then some (.str (List.replicate n.toNat c).flatten, m) else none
  | .ref i, .int n, m => match lst? m i with
    | some xs => if 0 ≤ n ∧ n ≤ 1000 ∧ xs.length ≤ 1000 then some (.ref m.length, m ++ [.lst (List.replicate n.toNat xs).flatten]) else none
    | none => none
  | x, y, m => mulv x y m
theorem RVs.rep {K : PySem.W.Frag} {H : Hp} {φ : List Addr} {xs : List PV} {vs : List V} (h : RVs K H φ xs vs) : ∀ n : Nat, RVs K H φ (List.replicate n xs).flatten (List.replicate n vs).flatten
  | 0 => rfl
  | n + 1 => by
    rw [List.replicate_succ, List.replicate_succ, List.flatten_cons, List.flatten_cons]
    exact h.append (RVs.rep h n)
theorem o_mulS : OpQ X (binaryOp .Mult) mulvS := .of_eq fun v w H Q φ m x y a1 a2 a3 a4 => by
  unfold mulvS at a4
  split at a4
  · cases a2; cases a3
    split at a4
    · rename_i hz
      exact ⟨_, op_mul_str, _, _, rfl, rfl, hz.1, hz.2.1, hz.2.2, a4.same a1 rfl⟩
    · exact a4.not.elim
  · cases a3
    split at a4
    · rename_i xs hs
      obtain ⟨p, vs, _, rfl, q1, q2⟩ := a1.lst a2 hs
      split at a4
      · rename_i hz
        refine ⟨_, op_rep, p, _, vs, rfl, rfl, q1, by omega, by omega, ?_, a4.newL a1 (q2.rep _)⟩
        rw [q2.length, sl_eq]
        exact Nat.le_trans (Nat.mul_le_mul hz.2.2 (Int.toNat_le.mpr hz.2.1)) (by decide)
      · exact a4.not.elim
    · exact a4.not.elim
  · exact ⟨_, o_mul, φ, m, _, _, a1, a2, a3, a4⟩
end

/-! ## name op= e; a module's constant -/
def xAug (i : Nat) (op : PV → PV → MH → OR) (e : SE) : SS := fun l m => R.then l (sVar i l m) fun x m1 => R.then l (e l m1) fun y m2 => R.then l (lift (op x y m2)) fun z m3 => .nx (l.set i (some z)) m3
def iaddv : PV → PV → MH → OR
  | .int a, .int b, m => some (.int (a + b), m)
  | .str a, .str b, m => if a.length + b.length ≤ 16777216 then some (.str (a ++ b), m) else none
  | _, _, _ => none
def isubv : PV → PV → MH → OR
  | .int a, .int b, m => some (.int (a - b), m)
  | _, _, _ => none
def PIpQ (X : Cx) (op : Operator) (f : PV → PV → MH → OR) : Prop := PIp X op (fun v w H Q => ∃ φ m x y, RH X.K H φ m ∧ RV X.K H φ x v ∧ RV X.K H φ y w ∧ PostO X.K φ H (f x y m) Q)
section
variable {X : Cx} {W : XM} {e : Expr} {se : SE} {pos : Pos}
theorem ia_add : PIpQ X .Add iaddv := by
  intro pins s σ H v w vv ww Q I rv rw' ⟨φ, m, x, y, h1, h2, h3, h4⟩
  unfold iaddv at h4
  split at h4
  · cases h2; cases h3
    exact iop_add pins s σ H _ _ vv ww Q I rv rw' ⟨_, _, rfl, rfl, h4.same h1 rfl⟩
  · cases h2; cases h3
    split at h4
    · rename_i hz
      exact iop_add_str pins s σ H _ _ vv ww Q I rv rw' ⟨_, _, rfl, rfl, by rw [str_len, str_len, sl_eq]; exact hz, by rw [str_app]; exact h4.same h1 rfl⟩
    · exact h4.not.elim
  · exact h4.not.elim
theorem ia_sub : PIpQ X .Sub isubv := by
  intro pins s σ H v w vv ww Q I rv rw' ⟨φ, m, x, y, h1, h2, h3, h4⟩
  unfold isubv at h4
  split at h4
  · cases h2; cases h3
    exact iop_sub pins s σ H _ _ vv ww Q I rv rw' ⟨_, _, rfl, rfl, h4.same h1 rfl⟩
  · exact h4.not.elim
theorem x_aug (i : Nat) {x : Str} {op : Operator} {f : PV → PV → MH → OR} {pos' : Pos} (hN : X.N.Nodup) (ho : PIpQ X op f) (he : QE X W e se) (hi : X.N[i]? = some x := by rfl) (hx : L2.Loc X.env.scope x := by first | exact .inl rfl | exact .inr rfl)
    (hf : X.fn x = true ∨ X.env.scope.names.lookup x = some .local := by first | exact .inl rfl | exact .inr rfl) : QS X W (.AugAssign (.Name x pos') op e pos) (xAug i f se) :=
  ⟨ps_imp (ps_aug hN hi hx he.pe ho hf) fun D σ H ⟨φ, l, m, h1, h2, h3⟩ => by
    unfold xAug sVar at h3
    cases hl : l[i]? with
    | none => rw [hl] at h3; exact h3.elim
    | some o =>
      cases o with
      | none => rw [hl] at h3; exact h3.elim
      | some x =>
        rw [hl] at h3
        have h3 : PostS X.K W φ H (R.then l (se l m) fun y m2 => R.then l (lift (f x y m2)) fun z m3 => .nx (l.set i (some z)) m3) D := h3
        obtain ⟨v, e1, e2⟩ := h2.2 i x hl
        refine ⟨v, e1, φ, l, m, h1, h2, (PostS.then (rel := rV X.K) h2 h3).mono fun w H1 ⟨φ1, y, m1, x1, a1, b1, c1, d1⟩ => ?_⟩
        have d2 := PostS.then (rel := rV X.K) b1 d1
        obtain ⟨z, m3, ez, q⟩ := PostO.of (Q := fun z H2 => D.nx (σ.set i (some z)) H2) (W := W) (l := l) (σ := σ) (d2.mono fun z H2 ⟨φ2, zz, m3, x2, a2, b2, c2, d3⟩ => d3 φ2 _ H2 Ext.refl a2 (b2.set i c2))
        exact ⟨φ1, m1, x, y, a1, RV.ext x1 e2, c1, z, m3, ez, q⟩⟩
theorem q_globI {x : Str} {i : Int} {t : Tok} (hg : Gl X x) (hm : X.mg x = some (.int i t)) (hd : (x == ("__debug__" : Str)) = false := by decide) : QE X W (.Name x pos) (sC (.int i)) := ⟨pe_imp (pe_glob (v := .int i) hg hm ⟨t, rfl⟩ hd) fun σ H Q ⟨φ, l, m, h1, h2, h3⟩ => h3 φ H _ Ext.refl h1 rfl⟩
theorem q_globS {x : Str} {z : Str} {t : Tok} (cs : List Nat) (hg : Gl X x) (hm : X.mg x = some (.str z t)) (hc : z.cps.toList = cs := by decide +kernel) (hd : (x == ("__debug__" : Str)) = false := by decide) : QE X W (.Name x pos) (sC (.str cs)) := ⟨pe_imp (pe_glob (v := .str z) hg hm ⟨t, rfl⟩ hd) fun σ H Q ⟨φ, l, m, h1, h2, h3⟩ => h3 φ H _ Ext.refl h1 (by subst hc; rfl)⟩
end
end SM

set_option Elab.async false
set_option linter.all false
set_option maxRecDepth 100000
set_option maxHeartbeats 1000000
namespace SM
open PySem PySem.Spec PyProof.Rows L2
/-! ## while -/
def whileL (t : SB) (body : SS) : Nat → SM.Loc → MH → RS
  | 0, _, _ => .bad
  | n + 1, l, m => R.then l (t l m) fun b m1 => if b = true then match body l m1 with
      | .nx l2 m2 => whileL t body n l2 m2
      | .ct l2 m2 => whileL t body n l2 m2
      | .bk l2 m2 => .nx l2 m2
      | r => r
    else .nx l m1
@[irreducible] def wfuel : Nat := 1000000
theorem wfuel_eq : wfuel = 1000000 := by unfold wfuel; rfl
def xWhile (t : SB) (body : SS) : SS := fun l m => whileL t body wfuel l m
section
variable {X : Cx} {W : XM} {c : Expr} {body : List Stmt} {t : SB} {sb : SS} {pos : Pos}
theorem x_while (hp : PassesOwn (model X.prog X.w) X.A X.env X.xe) (hc : QT X W c t) (hb : QSs X W body sb) : QS X W (.While c body [] pos) (xWhile t sb) := ⟨ps_imp (ps_while hp hc.pt hb.ps) fun D σ H ⟨φ, l, m, h1, h2, h3⟩ => by
  refine ⟨fun n σ H => ∃ φ l m, RH X.K H φ m ∧ RL X.K H φ l σ ∧ PostS X.K W φ H (whileL t sb n l m) D, ⟨wfuel, φ, l, m, h1, h2, h3⟩, ?_⟩
  rintro n σ1 H1 ⟨φ1, l1, m1, a1, b1, c1⟩
  cases n with
  | zero => exact c1.elim
  | succ n =>
    unfold whileL at c1
    refine ⟨φ1, l1, m1, a1, b1, (PostS.then (rel := rB) b1 c1).mono ?_⟩
    rintro v H2 ⟨φ2, x, m2, e2, a2, b2, hx, d2⟩
    cases hx
    cases v with
    | false => exact iteF (d2 φ2 σ1 H2 Ext.refl a2 b2)
    | true =>
      have d2 : PostS X.K W φ2 H2 (match sb l1 m2 with
        | .nx l2 m2 => whileL t sb n l2 m2
        | .ct l2 m2 => whileL t sb n l2 m2
        | .bk l2 m2 => .nx l2 m2
        | r => r) D := d2
      refine iteT ⟨fun σ' H' => ∃ φ l m, RH X.K H' φ m ∧ RL X.K H' φ l σ' ∧ PostS X.K W φ H' (whileL t sb n l m) D, fun σ' H' w => ⟨n, Nat.lt_succ_self n, w⟩, φ2, l1, m2, a2, b2, ?_⟩
      cases hb : sb l1 m2 with
      | nx l4 m4 => rw [hb] at d2; exact fun φ4 σ4 H4 x4 a4 b4 => ⟨φ4, l4, m4, a4, b4, PostS.ext x4 d2⟩
      | ct l4 m4 => rw [hb] at d2; exact fun φ4 σ4 H4 x4 a4 b4 => ⟨φ4, l4, m4, a4, b4, PostS.ext x4 d2⟩
      | bk l4 m4 => rw [hb] at d2; exact d2
      | rt x m4 => rw [hb] at d2; exact d2
      | ex c fs l4 m4 => rw [hb] at d2; exact d2
      | bad => rw [hb] at d2; exact d2⟩
end

/-! ## list comprehensions, one clause -/
def wipeP (l : SM.Loc) : List Nat → SM.Loc
  | [] => l
  | v :: vs => (wipeP l vs).set v none
theorem RL.wipe {K : PySem.W.Frag} {H : Hp} {φ : List Addr} {l : SM.Loc} {σ : L2.St} (h : RL K H φ l σ) : ∀ vs : List Nat, RL K H φ (wipeP l vs) (wipe σ vs)
  | [] => h
  | v :: vs => by
    have ih := RL.wipe h vs
    unfold wipeP L2.wipe
    refine ⟨by simp [ih.1], fun i x e => ?_⟩
    by_cases hi : v = i
    · subst hi
      by_cases hl : v < (wipeP l vs).length
      · rw [List.getElem?_set_self hl] at e; cases e
      · rw [List.getElem?_eq_none (by simp; omega)] at e; cases e
    · rw [List.getElem?_set_ne hi] at e
      obtain ⟨w, e1, e2⟩ := ih.2 i x e
      exact ⟨w, by rw [List.getElem?_set_ne hi]; exact e1, e2⟩
open Classical in
noncomputable def compL (it : ITM) (g : STg) (t : SB) (e : SE) (d : Nat) (l0 : SM.Loc) : List PV → MH → R PV
  | [], m => if it.ok m then .ok (.ref d) m else .bad
  | x :: r, m => if it.ok m then match g x l0 m with
      | some (l1, m1) => match t l1 m1 with
        | .ok b m2 => if b = true then match e l1 m2 with
            | .ok y m3 => match lst? m3 d with
              | some acc => if acc.length < 16777216 then compL it g t e d l0 r (m3.set d (.lst (acc ++ [y]))) else .bad
              | none => .bad
            | _ => .bad
          else compL it g t e d l0 r m2
        | _ => .bad
      | none => .bad
    else .bad
noncomputable def sLc (si : SI) (g : STg) (t : SB) (e : SE) (vs : List Nat) : SE := fun l m => (si l m).bind fun it m1 => compL it g t e m1.length (wipeP l vs) it.items (m1 ++ [.lst []])
/-- what a test list reads: none, one -/
def tYesS : SB := fun _ m => .ok true m
/-- targets whose slots are known: a name, names in a tuple -/
structure QN (X : Cx) (tg : Expr) (g : STg) (vs : List Nat) : Prop where
  pg : PG X tg (fun v σ H Q => ∃ φ l m x, RH X.K H φ m ∧ RL X.K H φ l σ ∧ RV X.K H φ x v ∧ ∃ l' m', g x l m = some (l', m') ∧ ∀ φ' σ' H', wipe σ' vs = wipe σ vs → Ext X.K φ H φ' H' → RH X.K H' φ' m' → RL X.K H' φ' l' σ' → Q σ' H')
theorem wipe_set {σ : L2.St} {i : Nat} {x : Option V} : ∀ {vs : List Nat}, i ∈ vs → wipe (σ.set i x) vs = wipe σ vs
  | [], h => by cases h
  | v :: vs, h => by
    unfold wipe
    by_cases hv : i ∈ vs
    · rw [wipe_set hv]
    · have e : v = i := by
        rcases List.mem_cons.mp h with q | q
        · exact q.symm
        · exact absurd q hv
      subst e
      have e2 : wipe (σ.set v x) vs = (wipe σ vs).set v x := by
        clear h
        induction vs with
        | nil => rfl
        | cons u us ih =>
          have hne : v ≠ u := fun z => hv (by rw [z]; exact List.mem_cons_self)
          unfold wipe
          rw [ih (fun z => hv (List.mem_cons_of_mem _ z)), List.set_comm _ _ hne]
      rw [e2, List.set_set]
section
variable {X : Cx} {pos : Pos}
theorem n_name (i : Nat) {vs : List Nat} {x : Str} (hN : X.N.Nodup) (hv : i ∈ vs) (hi : X.N[i]? = some x := by rfl) (hx : L2.Loc X.env.scope x := by first | exact .inl rfl | exact .inr rfl) (hf : X.fn x = true ∨ X.env.scope.names.lookup x = some .local := by first | exact .inl rfl | exact .inr rfl) : QN X (.Name x pos) (gNm i) vs :=
  ⟨pg_imp (pg_name hN hi hx hf) fun v σ H Q ⟨φ, l, m, x, h1, h2, h3, l', m', e, q⟩ => by
    cases e
    exact q φ _ H (wipe_set hv) Ext.refl h1 (h2.set i h3)⟩
structure QNs (X : Cx) (tg : List Expr) (g : STgs) (vs : List Nat) : Prop where
  pg : PGs X tg (fun v σ H Q => ∃ φ l m x, RH X.K H φ m ∧ RL X.K H φ l σ ∧ RVs X.K H φ x v ∧ ∃ l' m', g x l m = some (l', m') ∧ ∀ φ' σ' H', wipe σ' vs = wipe σ vs → Ext X.K φ H φ' H' → RH X.K H' φ' m' → RL X.K H' φ' l' σ' → Q σ' H')
theorem ns_nil {vs : List Nat} : QNs X [] gNilS vs := ⟨pgs_imp pgs_nil fun v σ H Q ⟨φ, l, m, x, h1, h2, h3, l', m', e, q⟩ => by
  unfold gNilS at e
  split at e
  · cases h3
    cases e
    exact ⟨rfl, q φ _ H rfl Ext.refl h1 h2⟩
  · cases e⟩
theorem ns_cons {e : Expr} {es : List Expr} {g : STg} {r : STgs} {vs : List Nat} (h1 : QN X e g vs) (h2 : QNs X es r vs) (hs : (assignEach (e :: es) X.env).map (·.2) = assign e X.env :: (assignEach es X.env).map (·.2) := by rfl) : QNs X (e :: es) (gConsS g r) vs :=
  ⟨pgs_imp (pgs_cons h1.pg h2.pg hs) fun v σ H Q ⟨φ, l, m, x, h1, h2, h3, l', m', e, q⟩ => by
    unfold gConsS at e
    split at e
    · rename_i x xs
      obtain ⟨w, ws, rfl, r1, r2⟩ := h3
      split at e
      · rename_i l1 m1 e1
        exact ⟨w, ws, rfl, φ, l, m, x, h1, h2, r1, l1, m1, e1, fun φ1 σ1 H1 w1 x1 a1 b1 => ⟨φ1, l1, m1, xs, a1, b1, RVs.ext x1 r2, l', m', e, fun φ2 σ2 H2 w2 x2 a2 b2 => q φ2 σ2 H2 (w2.trans w1) (x1.trans x2) a2 b2⟩⟩
      · cases e
    · cases e⟩
theorem n_tup {es : List Expr} {k n : Nat} {g : STgs} {vs : List Nat} (hc : X.calm = true) (h : QNs X es g vs) (hn : (assignEach es X.env).length = n := by rfl) (hst : (assignEach es X.env).findIdx? (·.1) = none := by rfl) : QN X (.Tuple es k pos) (gTupS n g) vs :=
  ⟨pg_imp (pg_or (pg_tup hc h.pg hn hst) (pg_unl hc h.pg hn hst)) fun v σ H Q ⟨φ, l, m, x, h1, h2, h3, l', m', e, q⟩ => by
    unfold gTupS at e
    split at e
    · obtain ⟨a, us, rfl, r1, r2⟩ := h3
      split at e
      · rename_i hz
        exact .inl ⟨a, us, rfl, r1, by rw [r2.length]; exact hz, φ, l, m, _, h1, h2, r2, l', m', e, q⟩
      · cases e
    · split at e
      · rename_i xs hs
        obtain ⟨a, us, rfl, r1, r2⟩ := h1.seq h3 hs
        split at e
        · rename_i hz
          exact .inr ⟨a, us, rfl, r1, by rw [r2.length]; exact hz, φ, l, m, _, h1, h2, r2, l', m', e, q⟩
        · cases e
      · cases e
    · cases e⟩
end
structure QTs (X : Cx) (W : XM) (e : List Expr) (s : SB) : Prop where
  pt : PTs X e (Rdg X.K rB W s)
section
variable {X : Cx} {W : XM} {e : Expr} {s : SB}
theorem ts_nil : QTs X W [] tYesS := ⟨⟨fun pins s σ H Q I ⟨φ, l, m, h1, h2, h3⟩ => pts_nil.run pins s σ H Q I (h3 φ H true Ext.refl h1 rfl)⟩⟩
theorem ts_one (h : QT X W e s) : QTs X W [e] s := ⟨pts_one h.pt⟩
variable {elt tg iter : Expr} {ifs : List Expr} {scope : Scope} {own : List (Str × Nat)} {pos : Pos} {si : SI} {g : STg} {t : SB} {se : SE}
theorem wipe_sub {σ : L2.St} {vs : List Nat} : ∀ us : List Nat, (∀ u ∈ us, u ∈ vs) → wipe (wipe σ vs) us = wipe σ vs
  | [], _ => rfl
  | u :: us, h => by
    show (wipe (wipe σ vs) us).set u none = wipe σ vs
    rw [wipe_sub us fun x hx => h x (List.mem_cons_of_mem _ hx)]
    have hu := h u List.mem_cons_self
    apply List.ext_getElem?
    intro i
    by_cases hi : u = i
    · subst hi
      by_cases hl : u < (wipe σ vs).length
      · rw [List.getElem?_set_self hl]
        cases hw : (wipe σ vs)[u]? with
        | none => rw [List.getElem?_eq_none_iff] at hw; omega
        | some o =>
          cases o with
          | none => rfl
          | some x => exact absurd hu (wipe_some hw).2
      · rw [List.getElem?_eq_none (by simp; omega), List.getElem?_eq_none (by omega)]
    · rw [List.getElem?_set_ne hi]
/-- the reading of a comprehension from the reckoning -/
theorem lc_at {Q : VK} {σ : L2.St} {H : Hp} {vs : List Nat} (h : Rdg X.K (rV X.K) W (sLc si g t se vs) σ H Q) :
    tLc (RdI X.K W si) (fun v σ H Q => ∃ φ l m x, RH X.K H φ m ∧ RL X.K H φ l σ ∧ RV X.K H φ x v ∧ ∃ l' m', g x l m = some (l', m') ∧ ∀ φ' σ' H', wipe σ' vs = wipe σ vs → Ext X.K φ H φ' H' → RH X.K H' φ' m' → RL X.K H' φ' l' σ' → Q σ' H')
      (Rdg X.K rB W0 t) (Rdg X.K (rV X.K) W0 se) vs σ H Q := by
  obtain ⟨φ, l, m, h1, h2, h3⟩ := h
  refine ⟨φ, l, m, h1, h2, ?_⟩
  unfold sLc at h3
  cases hsi : si l m with
  | bad => rw [hsi] at h3; exact h3
  | ex c fs m' => rw [hsi] at h3; exact h3
  | ok it m1 =>
    rw [hsi] at h3
    have h3 : Post X.K (rV X.K) W φ l σ H (compL it g t se m1.length (wipeP l vs) it.items (m1 ++ [.lst []])) Q := h3
    intro φ1 H1 J x1 a1 w D nD
    have hlen := a1.len
    refine lc_it (g := fun v σ H Q => ∃ φ l m x, RH X.K H φ m ∧ RL X.K H φ l σ ∧ RV X.K H φ x v ∧ ∃ l' m', g x l m = some (l', m') ∧ ∀ φ' σ' H', wipe σ' vs = wipe σ vs → Ext X.K φ H φ' H' → RH X.K H' φ' m' → RL X.K H' φ' l' σ' → Q σ' H') (tt := Rdg X.K rB W0 t) (te := Rdg X.K (rV X.K) W0 se) (vs := vs) (σ := σ) (H1 := H1) (D := D) (Qd := fun H => Q (.ref D) H) w (fun i H2 => ∃ φ2 m2, Ext X.K φ1 H1 φ2 H2 ∧ RH X.K H2 φ2 m2 ∧ φ2[m1.length]? = some D ∧ Post X.K (rV X.K) W φ2 l σ H2 (compL it g t se m1.length (wipeP l vs) (it.items.drop i) m2) Q) ?_ ?_ ?_ ?_
    · obtain ⟨e2, a2, r2⟩ := a1.newL nD (show RVs X.K H1 φ1 [] [] from rfl)
      exact ⟨_, _, e2, a2, by rw [← hlen]; simp, Post.ext (x1.trans e2) h3⟩
    · rintro i H2 hi ⟨φ2, m2, x2, a2, d2, p2⟩
      refine ⟨φ2, m2, x2, a2, ?_⟩
      cases hd : it.items.drop i with
      | nil =>
        rw [hd] at p2
        unfold compL at p2
        by_cases hk : it.ok m2
        · exact hk
        · rw [if_neg hk] at p2; exact p2.elim
      | cons x r =>
        rw [hd] at p2
        unfold compL at p2
        by_cases hk : it.ok m2
        · exact hk
        · rw [if_neg hk] at p2; exact p2.elim
    · rintro i v H2 H2' hi ⟨φ2, m2, x2, a2, d2, p2⟩ ⟨rfl, hv⟩
      have hi' : i < it.items.length := hi
      rw [List.drop_eq_getElem_cons hi'] at p2
      unfold compL at p2
      by_cases hk : it.ok m2
      · rw [if_pos hk] at p2
        obtain ⟨x0', hx1, hx2⟩ := hv φ2 m2 x2 a2 hk
        rw [List.getElem?_eq_getElem hi'] at hx1
        cases hx1
        cases hgx : g it.items[i] (wipeP l vs) m2 with
        | none => rw [hgx] at p2; exact p2.elim
        | some p =>
          obtain ⟨l3, m3⟩ := p
          rw [hgx] at p2
          dsimp only at p2
          refine ⟨φ2, wipeP l vs, m2, _, a2, (h2.ext (x1.trans x2)).wipe vs, hx2, l3, m3, hgx, fun φ3 σ3 H3 w3 x3 a3 b3 => ⟨by rw [w3, wipe_sub vs fun _ h => h], φ3, l3, m3, a3, b3, ?_⟩⟩
          have p3 := Post.ext x3 p2
          cases ht : t l3 m3 with
          | bad => rw [ht] at p3; exact p3
          | ex c fs m' => rw [ht] at p3; exact p3.elim
          | ok b m4 =>
            rw [ht] at p3
            dsimp only at p3
            intro φ4 H4 b' x4 a4 hb
            cases hb
            cases b with
            | false => exact iteF ⟨φ4, m4, (x2.trans x3).trans x4, a4, x4.get (x3.get d2), Post.ext x4 p3⟩
            | true =>
              rw [if_pos rfl] at p3
              refine iteT ⟨φ4, l3, m4, a4, b3.ext x4, ?_⟩
              have p4 := Post.ext x4 p3
              cases he : se l3 m4 with
              | bad => rw [he] at p4; exact p4
              | ex c fs m' => rw [he] at p4; exact p4.elim
              | ok y m5 =>
                rw [he] at p4
                dsimp only at p4
                intro φ5 H5 u x5 a5 r5
                cases hl : lst? m5 m1.length with
                | none => rw [hl] at p4; exact p4.elim
                | some acc =>
                  rw [hl] at p4
                  dsimp only at p4
                  have d5 : φ5[m1.length]? = some D := x5.get (x4.get (x3.get d2))
                  obtain ⟨D', us, e1, e2, e3, e4⟩ := a5.lst (n := m1.length) (v := .ref D) ⟨D, d5, rfl⟩ hl
                  cases e2
                  by_cases hz : acc.length < 16777216
                  · rw [if_pos hz] at p4
                    obtain ⟨f1, f2⟩ := a5.setL d5 (lst_some hl) (e4.append (show RVs X.K H5 φ5 [y] [u] from ⟨u, [], rfl, r5, rfl⟩))
                    exact ⟨us, e3, by rw [e4.length, sl_eq]; exact hz, φ5, _, (((x2.trans x3).trans x4).trans x5).trans f1, f2, f1.get d5, Post.ext (x5.trans f1) p4⟩
                  · rw [if_neg hz] at p4; exact p4.elim
      · rw [if_neg hk] at p2; exact p2.elim
    · rintro H2 ⟨φ2, m2, x2, a2, d2, p2⟩
      rw [List.drop_of_length_le (Nat.le_refl _)] at p2
      unfold compL at p2
      by_cases hk : it.ok m2
      · rw [if_pos hk] at p2
        exact p2 φ2 H2 (.ref D) Ext.refl a2 ⟨D, d2, rfl⟩
      · rw [if_neg hk] at p2; exact p2.elim
theorem q_lc (hc : X.calm = true) (hN : X.N.Nodup) (hi : QI X W tg iter si) (ok : BlkOk X.N X.env.scope scope own)
    (hg : ∀ (s : Shared) (H : Hp) (C : Addr) (cl : List (Str × Addr)) (fp : List Addr), QN (X.blk s H scope (compEnvC scope cl C X.env) fp) tg g (own.map (·.2))) (ht : ∀ (s : Shared) (H : Hp) (C : Addr) (cl : List (Str × Addr)) (fp : List Addr), QTs (X.blk s H scope (compEnvC scope cl C X.env) fp) W0 ifs t)
    (he : ∀ (s : Shared) (H : Hp) (C : Addr) (cl : List (Str × Addr)) (fp : List Addr), QE (X.blk s H scope (compEnvC scope cl C X.env) fp) W0 elt se) (hs : ∀ x, foldedSetIterable iter X.env x = pure x := by intro _; rfl) :
    QE X W (.ListComp elt [⟨tg, iter, ifs, 0⟩] scope pos) (sLc si g t se (own.map (·.2))) :=
  ⟨pe_imp (pe_lc hc hN hi.pi ok (fun s H C cl fp => (hg s H C cl fp).pg) (fun s H C cl fp => (ht s H C cl fp).pt) (fun s H C cl fp => (he s H C cl fp).pe) hs) fun σ H Q h => lc_at h⟩
theorem x_setLc (i : Nat) {y : Str} {py spos : Pos} (hc : X.calm = true) (hN : X.N.Nodup) (hy : X.N[i]? = some y) (hyl : X.env.scope.names.lookup y = some .local)
    (hsw : swapsWith (.ListComp elt [⟨tg, iter, ifs, 0⟩] scope pos) (some (.Name y py)) spos.line X.env = pure true) (hi : QI X W tg iter si) (ok : BlkOk X.N X.env.scope scope own)
    (hg : ∀ (s : Shared) (H : Hp) (C : Addr) (cl : List (Str × Addr)) (fp : List Addr), QN (X.blk s H scope (compEnvC scope cl C X.env) fp) tg g (own.map (·.2))) (ht : ∀ (s : Shared) (H : Hp) (C : Addr) (cl : List (Str × Addr)) (fp : List Addr), QTs (X.blk s H scope (compEnvC scope cl C X.env) fp) W0 ifs t)
    (he : ∀ (s : Shared) (H : Hp) (C : Addr) (cl : List (Str × Addr)) (fp : List Addr), QE (X.blk s H scope (compEnvC scope cl C X.env) fp) W0 elt se) (hs : ∀ x, foldedSetIterable iter X.env x = pure x := by intro _; rfl) :
    QS X W (.Assign [.Name y py] (.ListComp elt [⟨tg, iter, ifs, 0⟩] scope pos) spos) (xSet i (sLc si g t se (own.map (·.2)))) :=
  ⟨ps_imp (ps_setLc hc hN hy hyl hsw hi.pi ok (fun s H C cl fp => (hg s H C cl fp).pg) (fun s H C cl fp => (ht s H C cl fp).pt) (fun s H C cl fp => (he s H C cl fp).pe) hs) fun D σ H ⟨φ, l, m, h1, h2, h3⟩ =>
    lc_at ⟨φ, l, m, h1, h2, (PostS.then (rel := rV X.K) h2 h3).mono fun v H1 ⟨φ1, x, m1, e1, a1, b1, c1, d1⟩ => d1 φ1 _ H1 Ext.refl a1 (b1.set i c1)⟩⟩
end
end SM

set_option Elab.async false
set_option linter.all false
set_option maxRecDepth 100000
set_option maxHeartbeats 1000000
namespace SM
open PySem PySem.Spec PyProof.Rows L2
/-! ## sep.join(a list or tuple of texts) -/
def strs? : List PV → Option (List (List Nat))
  | [] => some []
  | .str s :: r => (strs? r).map (s :: ·)
  | _ :: _ => none
def joinL (a : List Nat) (ys : List (List Nat)) : List Nat := (PySem.Txt.join ⟨a.toArray⟩ (ys.map fun y => ⟨y.toArray⟩)).cps.toList
def joinv : PV → List PV → MH → OR
  | .str a, [.ref n], m => match seq? m n with
    | some xs => match strs? xs with
      | some ys => if (ys.map (·.length)).sum + ys.length * a.length ≤ 16777216 then some (.str (joinL a ys), m) else none
      | none => none
    | none => none
  | .str a, [.tup xs], m => match strs? xs with
      | some ys => if (ys.map (·.length)).sum + ys.length * a.length ≤ 16777216 then some (.str (joinL a ys), m) else none
      | none => none
  | _, _, _ => none
theorem strs_rvs {K : PySem.W.Frag} {H : Hp} {φ : List Addr} : ∀ {xs : List PV} {ys : List (List Nat)} {vs : List V}, strs? xs = some ys → RVs K H φ xs vs → vs = (ys.map fun y => (⟨y.toArray⟩ : Str)).map V.str
  | [], ys, vs, e, r => by cases e; cases r; rfl
  | x :: xs, ys, vs, e, r => by
    obtain ⟨v, us, rfl, r1, r2⟩ := r
    cases x with
    | str s =>
      unfold strs? at e
      cases h : strs? xs with
      | none => rw [h] at e; cases e
      | some zs =>
        rw [h] at e
        cases e
        cases r1
        rw [strs_rvs h r2]
        rfl
    | _ => cases e
theorem str_eta (s : Str) : (⟨s.cps.toList.toArray⟩ : Str) = s := by cases s; simp
theorem lens_eq (ys : List (List Nat)) : ((ys.map fun y => (⟨y.toArray⟩ : Str)).map (·.length)).sum = (ys.map (·.length)).sum := by
  rw [List.map_map]
  congr 1
section
variable {X : Cx}
theorem m_join : MtQ X "str.join" joinv := .of fun v vs H Q φ m x xs h1 h2 h3 h4 => by
  have two : ∀ (a : List Nat) (p : Addr) (zs : List PV) (ws : List V), (SqL X.K H p ws ∨ SqT X.K H p ws) → RVs X.K H φ zs ws → PostO X.K φ H (match strs? zs with
      | some ys => if (ys.map (·.length)).sum + ys.length * a.length ≤ 16777216 then some (.str (joinL a ys), m) else none
      | none => none) Q → ∃ r, MtR X "str.join" r ∧ r (.str ⟨a.toArray⟩) [.ref p] H Q := by
    intro a p zs ws hp hr h
    cases hz : strs? zs with
    | none => rw [hz] at h; exact h.not.elim
    | some ys =>
      rw [hz] at h
      dsimp only at h
      split at h
      · rename_i hle
        have e := strs_rvs hz hr
        subst e
        refine ⟨_, mt_join, ⟨a.toArray⟩, p, ys.map fun y => ⟨y.toArray⟩, rfl, rfl, hp, ?_, h.same h1 (show V.str _ = V.str _ by unfold joinL; rw [str_eta])⟩
        rw [lens_eq, List.length_map, str_len]
        exact hle
      · exact h.not.elim
  unfold joinv at h4
  split at h4
  · cases h2
    obtain ⟨v, rfl, r⟩ := h3.one
    split at h4
    · rename_i zs hq
      obtain ⟨p, ws, rfl, q1, q2⟩ := h1.seq r hq
      exact two _ p zs ws (.inl q1) q2 h4
    · exact h4.not.elim
  · cases h2
    obtain ⟨v, rfl, r⟩ := h3.one
    obtain ⟨p, ws, rfl, q1, q2⟩ := r
    exact two _ p _ ws (.inr q1) q2 h4
  · exact h4.not.elim
end
/-! ## the readings -/
section
variable {Q : PV → MH → Prop} {E : EX} {l : SM.Loc} {m : MH} {D : ED} {a b c : SE} {s t : SS} {ta tb : SB} {as : SA}
theorem lt_ii {a b : Int} : ltv (.int a) (.int b) m = some (.bl (decide (a < b)), m) := by with_unfolding_all rfl
theorem le_ii {a b : Int} : lev (.int a) (.int b) m = some (.bl (decide (a ≤ b)), m) := by with_unfolding_all rfl
theorem gt_ii {a b : Int} : gtv (.int a) (.int b) m = some (.bl (decide (b < a)), m) := by with_unfolding_all rfl
theorem ge_ii {a b : Int} : gev (.int a) (.int b) m = some (.bl (decide (b ≤ a)), m) := by with_unfolding_all rfl
theorem lt1 {a b : Nat} : ([b] < [a]) ↔ b < a := by rw [List.cons_lt_cons_iff]; simp
theorem le_cc {a b : Nat} : lev (.str [a]) (.str [b]) m = some (.bl (decide (a ≤ b)), m) := by
  show some (PV.bl (!decide ([b] < [a])), m) = _
  congr 3
  by_cases h : a ≤ b
  · rw [decide_eq_true h, decide_eq_false (by rw [lt1]; omega)]; rfl
  · rw [decide_eq_false h, decide_eq_true (by rw [lt1]; omega)]; rfl
theorem muls_ii {a b : Int} : mulvS (.int a) (.int b) m = mulv (.int a) (.int b) m := by with_unfolding_all rfl
theorem muls_si {c : List Nat} {n : Int} : mulvS (.str c) (.int n) m = if 0 ≤ n ∧ n ≤ 1000 ∧ c.length ≤ 1000 then some (.str (List.replicate n.toNat c).flatten, m) else none := by with_unfolding_all rfl
theorem ins_cs {c : Nat} {s : List Nat} : inS (.str [c]) (.str s) m = some (.bl (decide (c ∈ s)), m) := by with_unfolding_all rfl
theorem iadd_ii {a b : Int} : iaddv (.int a) (.int b) m = some (.int (a + b), m) := by with_unfolding_all rfl
theorem isub_ii {a b : Int} : isubv (.int a) (.int b) m = some (.int (a - b), m) := by with_unfolding_all rfl
theorem w_onone {Q : Option Int → MH → Prop} : WP (oNone l m) Q E = Q none m := by with_unfolding_all rfl
theorem w_osome {Q : Option Int → MH → Prop} : WP (oSome a l m) Q E = WP (a l m) (fun x m1 => match x with | .int i => Q (some i) m1 | _ => False) E := by
  unfold oSome; rw [wp_bind]; refine wp_eq fun x m1 => ?_; cases x <;> with_unfolding_all rfl
theorem w_sl {lo hi : SO} : WP (sSl a lo hi l m) Q E = WP (a l m) (fun x m1 => WP (lo l m1) (fun i m2 => WP (hi l m2) (fun j m3 => WP (lift (slv x i j m3)) Q E) E) E) E := by
  unfold sSl; rw [wp_bind]; refine wp_eq fun x m1 => ?_; rw [wp_bind]; refine wp_eq fun i m2 => ?_; rw [wp_bind]
theorem sl_s {s : List Nat} {i j : Option Int} : slv (.str s) i j m = if s.length ≤ 16777216 then some (.str (cut s i j), m) else none := by with_unfolding_all rfl
theorem sl_t {s : List PV} {i j : Option Int} : slv (.tup s) i j m = some (.tup (cut s i j), m) := by with_unfolding_all rfl
theorem s_aug {i : Nat} {op : PV → PV → MH → OR} : WS (xAug i op a l m) D = WP (sVar i l m) (fun x m1 => WP (a l m1) (fun y m2 => WP (lift (op x y m2)) (fun z m3 => D.nx (l.set i (some z)) m3) (fun c fs m => D.ex c fs l m)) (fun c fs m => D.ex c fs l m)) (fun c fs m => D.ex c fs l m) := by
  unfold xAug
  rw [ws_then]; refine wp_eq fun x m1 => ?_; rw [ws_then]; refine wp_eq fun y m2 => ?_; rw [ws_then]; refine wp_eq fun z m3 => ?_; rw [ws_nx]
/-- while: an invariant with what is left -/
theorem ws_while (I : Nat → SM.Loc → MH → Prop)
    (hs : ∀ k l m, I k l m → WP (ta l m) (fun b m1 => if b = true then 0 < k ∧ WS (s l m1) ⟨I (k - 1), D.rt, D.nx, I (k - 1), D.ex⟩ else D.nx l m1) (fun c fs m => D.ex c fs l m)) :
    ∀ (n k : Nat) (l : SM.Loc) (m : MH), k < n → I k l m → WS (whileL ta s n l m) D
  | 0, k, l, m, hk, h => absurd hk (Nat.not_lt_zero _)
  | n + 1, k, l, m, hk, h => by
    unfold whileL
    rw [ws_then]
    refine (hs k l m h).mono fun b m1 q => ?_
    by_cases hb : b = true
    · rw [if_pos hb] at q ⊢
      obtain ⟨q0, q⟩ := q
      cases hr : s l m1 with
      | nx l2 m2 => rw [hr, ws_nx] at q; exact ws_while I hs n (k - 1) l2 m2 (by omega) q
      | ct l2 m2 => rw [hr, ws_ct] at q; exact ws_while I hs n (k - 1) l2 m2 (by omega) q
      | bk l2 m2 => rw [hr, ws_bk] at q; dsimp only; rw [ws_nx]; exact q
      | rt x m2 => rw [hr, ws_rt] at q; dsimp only; rw [ws_rt]; exact q
      | ex c fs l2 m2 => rw [hr] at q; dsimp only; unfold WS at q ⊢; exact q
      | bad => rw [hr, ws_bad] at q; exact q.elim
    · rw [if_neg hb] at q ⊢
      rw [ws_nx]
      exact q
theorem s_while (n : Nat) (hn : n < 1000000) (I : Nat → SM.Loc → MH → Prop) (h0 : I n l m)
    (hs : ∀ k l m, I k l m → WP (ta l m) (fun b m1 => if b = true then 0 < k ∧ WS (s l m1) ⟨I (k - 1), D.rt, D.nx, I (k - 1), D.ex⟩ else D.nx l m1) (fun c fs m => D.ex c fs l m)) : WS (xWhile ta s l m) D := by
  unfold xWhile
  exact ws_while I hs _ n l m (by rw [wfuel_eq]; exact hn) h0
end
end SM

set_option Elab.async false
set_option linter.all false
set_option maxRecDepth 100000
set_option maxHeartbeats 1000000
namespace SM
open PySem PySem.Spec PyProof.Rows L2
/-! ## str(int | text), tuple(x), list(x) -/
def dec (i : Int) : List Nat := ((toString i : String) : Str).cps.toList
def strv : List PV → MH → OR
  | [.int i], m => if i.natAbs.log2 < 1920 then some (.str (dec i), m) else none
  | [.str s], m => some (.str s, m)
  | _, _ => none
def tuplev : List PV → MH → OR
  | [.tup xs], m => some (.tup xs, m)
  | [.ref n], m => (seq? m n).map fun xs => (.tup xs, m)
  | _, _ => none
def listv : List PV → MH → OR
  | [.tup xs], m => some (.ref m.length, m ++ [.lst xs])
  | [.ref n], m => (seq? m n).map fun xs => (.ref m.length, m ++ [.lst xs])
  | _, _ => none
section
variable {X : Cx}
theorem c_str : CrQ X (.type "str") strv := .of fun vs H Q φ m xs h1 h2 h4 => by
  unfold strv at h4
  split at h4
  · obtain ⟨v, rfl, r⟩ := h2.one
    cases r
    split at h4
    · rename_i hz
      exact ⟨_, call_str_int, _, rfl, hz, h4.same h1 (show V.str _ = V.str _ by unfold dec; rw [str_eta])⟩
    · exact h4.not.elim
  · obtain ⟨v, rfl, r⟩ := h2.one
    cases r
    exact ⟨_, SkE.call_str_str, _, rfl, h4.same h1 rfl⟩
  · exact h4.not.elim
theorem c_tuple : CrQ X (.type "tuple") tuplev := .of fun vs H Q φ m xs h1 h2 h4 => by
  unfold tuplev at h4
  split at h4
  · obtain ⟨v, rfl, r⟩ := h2.one
    obtain ⟨a, ws, rfl, q1, q2⟩ := r
    exact ⟨_, call_tuple_of, a, ws, rfl, .inr ⟨q1, h4.same h1 ⟨a, ws, rfl, q1, q2⟩⟩⟩
  · obtain ⟨v, rfl, r⟩ := h2.one
    rename_i n
    cases hq : seq? m n with
    | none => rw [hq] at h4; exact h4.not.elim
    | some xs =>
      rw [hq] at h4
      obtain ⟨a, ws, rfl, q1, q2⟩ := h1.seq r hq
      exact ⟨_, call_tuple_of, a, ws, rfl, .inl ⟨q1, h4.newT h1 q2⟩⟩
  · exact h4.not.elim
theorem c_list : CrQ X (.type "list") listv := .of fun vs H Q φ m xs h1 h2 h4 => by
  unfold listv at h4
  split at h4
  · obtain ⟨v, rfl, r⟩ := h2.one
    obtain ⟨a, ws, rfl, q1, q2⟩ := r
    exact ⟨_, call_list_of, a, ws, rfl, .inr q1, h4.newL h1 q2⟩
  · obtain ⟨v, rfl, r⟩ := h2.one
    rename_i n
    cases hq : seq? m n with
    | none => rw [hq] at h4; exact h4.not.elim
    | some xs =>
      rw [hq] at h4
      obtain ⟨a, ws, rfl, q1, q2⟩ := h1.seq r hq
      exact ⟨_, call_list_of, a, ws, rfl, .inl q1, h4.newL h1 q2⟩
  · exact h4.not.elim
end
section
variable {m : MH}
theorem str_s {s : List Nat} : strv [.str s] m = some (.str s, m) := by with_unfolding_all rfl
theorem str_i {i : Int} (h : i.natAbs.log2 < 1920) : strv [.int i] m = some (.str (dec i), m) := by
  show (if _ then _ else _) = _; rw [if_pos h]
theorem tuple_t {xs : List PV} : tuplev [.tup xs] m = some (.tup xs, m) := by with_unfolding_all rfl
theorem tuple_r {n : Nat} {xs : List PV} (h : seq? m n = some xs) : tuplev [.ref n] m = some (.tup xs, m) := by
  show (seq? m n).map _ = _; rw [h]; with_unfolding_all rfl
theorem list_t {xs : List PV} : listv [.tup xs] m = some (.ref m.length, m ++ [.lst xs]) := by with_unfolding_all rfl
theorem list_r {n : Nat} {xs : List PV} (h : seq? m n = some xs) : listv [.ref n] m = some (.ref m.length, m ++ [.lst xs]) := by
  show (seq? m n).map _ = _; rw [h]; with_unfolding_all rfl
end
end SM

set_option Elab.async false
set_option linter.all false
set_option maxRecDepth 100000
set_option maxHeartbeats 1000000
namespace SM
open PySem PySem.Spec PyProof.Rows L2
/-! ## in: a text in a list of texts, a pair of integers in a list of such -/
theorem allO_map {α β : Type} {f : α → Option β} {g : α → β} : ∀ {xs : List α}, (∀ x ∈ xs, f x = some (g x)) → allO (xs.map f) = some (xs.map g)
  | [], _ => rfl
  | x :: xs, h => by
    rw [List.map_cons, h x List.mem_cons_self]
    show (allO (xs.map f)).map _ = _
    rw [allO_map fun y hy => h y (List.mem_cons_of_mem _ hy)]
    rfl
theorem lay_all {α : Type} {g : α → PyData} : ∀ xs : List α, (∀ x ∈ xs, PyData.canLay0 (g x) = true) → PyData.canLayAll0 (xs.map g) = true
  | [], _ => rfl
  | x :: xs, h => by simp [PyData.canLayAll0, h x List.mem_cons_self, lay_all xs fun y hy => h y (List.mem_cons_of_mem _ hy)]
theorem dep_all {α : Type} {g : α → PyData} {n : Nat} (h : ∀ x, PyData.depth (g x) ≤ n) : ∀ xs : List α, PyData.depthAll (xs.map g) ≤ n
  | [] => by simp [PyData.depthAll]
  | x :: xs => by have := h x; have := dep_all h xs; simp [PyData.depthAll]; omega
theorem shp {d : PyData} (h : PyData.canLay0 d = true) (h2 : PyData.depth d ≤ 64) : SeqAt.shaped d = true := by
  unfold SeqAt.shaped; rw [h, decide_eq_true h2]; rfl
theorem arr_inj {a b : List Nat} : ((⟨a.toArray⟩ : Str) == ⟨b.toArray⟩) = decide (a = b) := by
  by_cases h : a = b
  · subst h; simp
  · rw [decide_eq_false h]
    rw [beq_eq_false_iff_ne]
    intro e
    injection e with e
    exact h (by simpa using e)
theorem any_mem {α : Type} {f : α → Bool} {xs : List α} {p : Prop} [Decidable p] (h : (∃ x ∈ xs, f x = true) ↔ p) : xs.any f = decide p := by
  by_cases hp : p
  · rw [decide_eq_true hp, List.any_eq_true]; exact h.mpr hp
  · rw [decide_eq_false hp, List.any_eq_false]; exact fun x hx e => hp (h.mp ⟨x, hx, e⟩)
theorem inD_gen {α : Type} {m : MH} {r : Nat} {xs : List PV} {x : PV} {d : PyData} {us : List α} {g : α → PyData} (hs : seq? m r = some xs) (hx : toD m 8 x = some d) (hl : allO (xs.map (toD m 7)) = some (us.map g))
    (s1 : SeqAt.shaped d = true) (s2 : ∀ u ∈ us, PyData.canLay0 (g u) = true) (s3 : ∀ u, PyData.depth (g u) ≤ 8) {p : Prop} [Decidable p] (hp : (∃ u ∈ us, PyData.eqv (g u) d = true) ↔ p) : inD m x (.ref r) = some (decide p) := by
  have e : toD m 8 (.ref r) = some (.list (us.map g)) := by
    show (match seq? m r with | some xs => (allO (xs.map (toD m 7))).map PyData.list | none => none) = _
    rw [hs]
    dsimp only
    rw [hl]
    rfl
  have s4 : SeqAt.shaped (.list (us.map g)) = true := shp (by simp [PyData.canLay0, lay_all us s2]) (by have := dep_all (n := 8) s3 us; simp [PyData.depth]; omega)
  unfold inD
  rw [hx]
  dsimp only
  rw [e]
  dsimp only
  rw [if_pos ⟨s1, s4⟩, List.any_map]
  exact congrArg some (any_mem hp)
def Cps (t : List Nat) : Prop := ∀ c ∈ t, c < 1114112
theorem strOk_of {t : List Nat} (h : Cps t) : PyData.strOk ⟨t.toArray⟩ = true := by
  unfold PyData.strOk
  show t.toArray.all _ = true
  rw [Array.all_eq_true']
  intro x hx
  exact decide_eq_true (h x (by simpa using hx))
theorem inD_str {m : MH} {r : Nat} {ss : List (List Nat)} {t : List Nat} (hs : seq? m r = some (ss.map .str)) (ht : Cps t) (hss : ∀ s ∈ ss, Cps s) : inD m (.str t) (.ref r) = some (decide (t ∈ ss)) := by
  refine inD_gen (us := ss) (g := fun s => .str ⟨s.toArray⟩) hs rfl ?_ (shp (by simp [PyData.canLay0, strOk_of ht]) (by simp [PyData.depth])) (fun u hu => by simp [PyData.canLay0, strOk_of (hss u hu)]) (fun _ => by simp [PyData.depth]) ?_
  · rw [List.map_map]; exact allO_map fun x _ => rfl
  · constructor
    · rintro ⟨u, h1, h2⟩
      have h2 : ((⟨u.toArray⟩ : Str) == ⟨t.toArray⟩) = true := by simpa [PyData.eqv] using h2
      rw [arr_inj] at h2
      exact (of_decide_eq_true h2) ▸ h1
    · intro h
      exact ⟨t, h, by simp [PyData.eqv]⟩
theorem inD_int {m : MH} {r : Nat} {ss : List Int} {t : Int} (hs : seq? m r = some (ss.map .int)) : inD m (.int t) (.ref r) = some (decide (t ∈ ss)) := by
  refine inD_gen (us := ss) (g := fun s => .int s) hs rfl ?_ (shp (by simp [PyData.canLay0]) (by simp [PyData.depth])) (fun _ _ => by simp [PyData.canLay0]) (fun _ => by simp [PyData.depth]) ?_
  · rw [List.map_map]; exact allO_map fun x _ => rfl
  · constructor
    · rintro ⟨u, h1, h2⟩
      have h2 : u = t := by simpa [PyData.eqv] using h2
      exact h2 ▸ h1
    · intro h
      exact ⟨t, h, by simp [PyData.eqv]⟩
theorem inD_pair {m : MH} {r : Nat} {ss : List (Int × Int)} {x y : Int} (hs : seq? m r = some (ss.map fun p => .tup [.int p.1, .int p.2])) : inD m (.tup [.int x, .int y]) (.ref r) = some (decide ((x, y) ∈ ss)) := by
  refine inD_gen (us := ss) (g := fun p => .tuple [.int p.1, .int p.2]) hs rfl ?_ (shp (by simp [PyData.canLay0, PyData.canLayAll0]) (by simp [PyData.depth, PyData.depthAll])) (fun _ _ => by simp [PyData.canLay0, PyData.canLayAll0]) (fun _ => by simp [PyData.depth, PyData.depthAll]) ?_
  · rw [List.map_map]; exact allO_map fun x _ => rfl
  · constructor
    · rintro ⟨u, h1, h2⟩
      have h2 : u.1 = x ∧ u.2 = y := by simpa [PyData.eqv, PyData.eqvAll] using h2
      obtain ⟨rfl, rfl⟩ := h2
      exact h1
    · intro h
      exact ⟨(x, y), h, by simp [PyData.eqv, PyData.eqvAll]⟩
theorem ins_r {m : MH} {r : Nat} {x : PV} {b : Bool} (h : inD m x (.ref r) = some b) : inS x (.ref r) m = some (.bl b, m) := by
  have e : inS x (.ref r) m = inv x (.ref r) m := by
    unfold inS
    split
    · rename_i h2; cases h2
    · rfl
  rw [e]; unfold inv; rw [h]; rfl
theorem nins_r {m : MH} {r : Nat} {x : PV} {b : Bool} (h : inD m x (.ref r) = some b) : ninS x (.ref r) m = some (.bl (!b), m) := by
  have e : ninS x (.ref r) m = ninv x (.ref r) m := by
    unfold ninS
    split
    · rename_i h2; cases h2
    · rfl
  rw [e]; unfold ninv; rw [h]; rfl
/-! ## a comprehension, by an invariant -/
section
variable {it : ITM} {g : STg} {t : SB} {e : SE} {d : Nat} {l0 l : SM.Loc} {Q : PV → MH → Prop} {E : EX} {m m1 : MH} {si : SI} {vs : List Nat}
theorem wp_comp (I : Nat → List PV → MH → Prop)
    (hs : ∀ i x acc m, it.items[i]? = some x → m[d]? = some (.lst acc) → I i acc m → it.ok m ∧ WG (g x l0 m) (fun l1 m1 => WP (t l1 m1) (fun b m2 => if b = true then WP (e l1 m2) (fun y m3 => m3[d]? = some (.lst acc) ∧ acc.length < 16777216 ∧ I (i + 1) (acc ++ [y]) (m3.set d (.lst (acc ++ [y])))) NoE else m2[d]? = some (.lst acc) ∧ I (i + 1) acc m2) NoE))
    (hd : ∀ acc m, m[d]? = some (.lst acc) → I it.items.length acc m → it.ok m ∧ Q (.ref d) m) : ∀ (k i : Nat) (acc : List PV) (m : MH), k + i = it.items.length → m[d]? = some (.lst acc) → I i acc m → WP (compL it g t e d l0 (it.items.drop i) m) Q E
  | 0, i, acc, m, ek, hl, h => by
    have e' : i = it.items.length := by omega
    subst e'
    rw [List.drop_of_length_le (Nat.le_refl _)]
    obtain ⟨h1, h2⟩ := hd acc m hl h
    unfold compL
    rw [if_pos h1, wp_ok]
    exact h2
  | k + 1, i, acc, m, ek, hl, h => by
    have hi : i < it.items.length := by omega
    rw [List.drop_eq_getElem_cons hi]
    obtain ⟨h1, h2⟩ := hs i _ acc m (List.getElem?_eq_getElem hi) hl h
    unfold compL
    rw [if_pos h1]
    cases hg : g it.items[i] l0 m with
    | none => rw [hg] at h2; unfold WG at h2; exact h2.elim
    | some p =>
      obtain ⟨l1, m1⟩ := p
      rw [hg] at h2
      unfold WG at h2
      dsimp only at h2 ⊢
      obtain ⟨b, m2, et, h3⟩ := h2.run
      rw [et]
      dsimp only
      cases b with
      | false =>
        rw [if_neg (by decide)]
        rw [if_neg (by decide)] at h3
        exact wp_comp I hs hd k (i + 1) acc m2 (by omega) h3.1 h3.2
      | true =>
        rw [if_pos rfl]
        rw [if_pos rfl] at h3
        obtain ⟨y, m3, ee, h4, h5, h6⟩ := h3.run
        rw [ee]
        dsimp only
        rw [show lst? m3 d = some acc by unfold lst?; rw [h4]]
        dsimp only
        rw [if_pos h5]
        exact wp_comp I hs hd k (i + 1) (acc ++ [y]) _ (by omega) (List.getElem?_set_self (List.getElem?_eq_some_iff.mp h4).1) h6
/-- a comprehension -/
theorem w_lc {it : ITM} (hsi : si l m = .ok it m1) (I : Nat → List PV → MH → Prop) (h0 : I 0 [] (m1 ++ [.lst []]))
    (hs : ∀ i x acc m, it.items[i]? = some x → m[m1.length]? = some (.lst acc) → I i acc m → it.ok m ∧ WG (g x (wipeP l vs) m) (fun l1 m' => WP (t l1 m') (fun b m2 => if b = true then WP (e l1 m2) (fun y m3 => m3[m1.length]? = some (.lst acc) ∧ acc.length < 16777216 ∧ I (i + 1) (acc ++ [y]) (m3.set m1.length (.lst (acc ++ [y])))) NoE else m2[m1.length]? = some (.lst acc) ∧ I (i + 1) acc m2) NoE))
    (hd : ∀ acc m, m[m1.length]? = some (.lst acc) → I it.items.length acc m → it.ok m ∧ Q (.ref m1.length) m) : WP (sLc si g t e vs l m) Q E := by
  unfold sLc
  rw [hsi]
  show WP (compL it g t e m1.length (wipeP l vs) it.items (m1 ++ [.lst []])) Q E
  have := wp_comp (E := E) I hs hd it.items.length 0 [] _ (by omega) (by simp) h0
  rw [List.drop_zero] at this
  exact this
theorem w_yes {Q : Bool → MH → Prop} : WP (tYesS l m) Q E = Q true m := by with_unfolding_all rfl
theorem si_seqL {e : SE} {n : Nat} {xs : List PV} (h : e l m = .ok (.ref n) m1) (hq : seq? m1 n = some xs) : iSeq e l m = .ok ⟨xs, some n⟩ m1 := by
  unfold iSeq; rw [h]; show (match seq? m1 n with | some xs => _ | none => _) = _; rw [hq]
theorem si_seqT {e : SE} {xs : List PV} (h : e l m = .ok (.tup xs) m1) : iSeq e l m = .ok ⟨xs, none⟩ m1 := by
  unfold iSeq; rw [h]; with_unfolding_all rfl
theorem si_rng0 {b : SE} {j : Int} (n : Nat) (hn : n = j.toNat) (h : b l m = .ok (.int j) m1) (hj : j < 4611686018427387904) (hj0 : -4611686018427387904 ≤ j) : iRng1S b l m = .ok ⟨(List.range n).map fun i => .int (i : Nat), none⟩ m1 := by
  rw [si_rng1 h ⟨hj0, hj⟩]
  have : rng 0 j = (List.range n).map fun i => PV.int (i : Nat) := by
    apply List.ext_getElem?
    intro i
    by_cases hi : i < n
    · rw [rng_get (by omega)]; simp [hi]
    · rw [List.getElem?_eq_none (by rw [rng_len]; omega), List.getElem?_eq_none (by simp; omega)]
  rw [this]
end
section
variable {l : SM.Loc} {m : MH} {D : ED} {b : SE} {g : STg} {body : SS}
/-- for x in range(b), where b has effects -/
theorem s_for1W (h : WP (b l m) (fun x m1 => ∃ j : Int, x = .int j ∧ -4611686018427387904 ≤ j ∧ j < 4611686018427387904 ∧ ∃ I : Nat → SM.Loc → MH → Prop, I 0 l m1 ∧
    (∀ i l m, i < j.toNat → I i l m → WG (g (.int (i : Nat)) l m) (fun l1 m1 => WS (body l1 m1) ⟨I (i + 1), D.rt, D.nx, I (i + 1), D.ex⟩)) ∧ (∀ l m, I j.toNat l m → D.nx l m)) NoE) : WS (xFor (iRng1S b) g body l m) D := by
  obtain ⟨x, m1, e, j, rfl, h1, h2, I, h3, h4, h5⟩ := h.run
  exact s_for1 j.toNat rfl e h2 h1 I h3 h4 h5
/-- for x in a list that stays as it is -/
theorem s_forLW (h : WP (b l m) (fun x m1 => ∃ n xs, x = .ref n ∧ seq? m1 n = some xs ∧ ∃ I : Nat → SM.Loc → MH → Prop, I 0 l m1 ∧ (∀ i l m, I i l m → seq? m n = some xs) ∧
    (∀ i x l m, xs[i]? = some x → I i l m → WG (g x l m) (fun l1 m1 => WS (body l1 m1) ⟨I (i + 1), D.rt, D.nx, I (i + 1), D.ex⟩)) ∧ (∀ l m, I xs.length l m → D.nx l m)) NoE) : WS (xFor (iSeq b) g body l m) D := by
  obtain ⟨x, m1, e, n, xs, rfl, h1, I, h3, h4, h5, h6⟩ := h.run
  exact s_forL e h1 I h3 h4 h5 h6
/-- for x in a tuple -/
theorem s_forTW (h : WP (b l m) (fun x m1 => ∃ xs, x = .tup xs ∧ ∃ I : Nat → SM.Loc → MH → Prop, I 0 l m1 ∧
    (∀ i x l m, xs[i]? = some x → I i l m → WG (g x l m) (fun l1 m1 => WS (body l1 m1) ⟨I (i + 1), D.rt, D.nx, I (i + 1), D.ex⟩)) ∧ (∀ l m, I xs.length l m → D.nx l m)) NoE) : WS (xFor (iSeq b) g body l m) D := by
  obtain ⟨x, m1, e, xs, rfl, I, h3, h4, h5⟩ := h.run
  exact s_forT e I h3 h4 h5
/-- a comprehension over a list that stays as it is -/
theorem w_lcL {t : SB} {e : SE} {vs : List Nat} {Q : PV → MH → Prop} {E : EX} (h : WP (b l m) (fun x m1 => ∃ n xs, x = .ref n ∧ seq? m1 n = some xs ∧ ∃ I : Nat → List PV → MH → Prop, I 0 [] (m1 ++ [.lst []]) ∧
    (∀ i x acc m, xs[i]? = some x → m[m1.length]? = some (.lst acc) → I i acc m → seq? m n = some xs ∧ WG (g x (wipeP l vs) m) (fun l1 m' => WP (t l1 m') (fun b m2 => if b = true then WP (e l1 m2) (fun y m3 => m3[m1.length]? = some (.lst acc) ∧ acc.length < 16777216 ∧ I (i + 1) (acc ++ [y]) (m3.set m1.length (.lst (acc ++ [y])))) NoE else m2[m1.length]? = some (.lst acc) ∧ I (i + 1) acc m2) NoE)) ∧
    (∀ acc m, m[m1.length]? = some (.lst acc) → I xs.length acc m → seq? m n = some xs ∧ Q (.ref m1.length) m)) NoE) : WP (sLc (iSeq b) g t e vs l m) Q E := by
  obtain ⟨x, m1, ee, n, xs, rfl, h1, I, h3, h4, h5⟩ := h.run
  exact w_lc (si_seqL ee h1) I h3 h4 h5
/-- a comprehension over a range -/
theorem w_lcR {t : SB} {e : SE} {vs : List Nat} {Q : PV → MH → Prop} {E : EX} (h : WP (b l m) (fun x m1 => ∃ j : Int, x = .int j ∧ -4611686018427387904 ≤ j ∧ j < 4611686018427387904 ∧ ∃ I : Nat → List PV → MH → Prop, I 0 [] (m1 ++ [.lst []]) ∧
    (∀ i acc m, i < j.toNat → m[m1.length]? = some (.lst acc) → I i acc m → WG (g (.int (i : Nat)) (wipeP l vs) m) (fun l1 m' => WP (t l1 m') (fun b m2 => if b = true then WP (e l1 m2) (fun y m3 => m3[m1.length]? = some (.lst acc) ∧ acc.length < 16777216 ∧ I (i + 1) (acc ++ [y]) (m3.set m1.length (.lst (acc ++ [y])))) NoE else m2[m1.length]? = some (.lst acc) ∧ I (i + 1) acc m2) NoE)) ∧
    (∀ acc m, m[m1.length]? = some (.lst acc) → I j.toNat acc m → Q (.ref m1.length) m)) NoE) : WP (sLc (iRng1S b) g t e vs l m) Q E := by
  obtain ⟨x, m1, ee, j, rfl, h1, h2, I, h3, h4, h5⟩ := h.run
  refine w_lc (si_rng0 j.toNat rfl ee h2 h1) I h3 (fun i x acc m hx hl hi => ⟨trivial, ?_⟩) (fun acc m hl hi => ⟨trivial, h5 acc m hl ?_⟩)
  · have hx : ((List.range j.toNat).map fun i => PV.int (i : Nat))[i]? = some x := hx
    rw [List.getElem?_map] at hx
    by_cases hz : i < j.toNat
    · rw [List.getElem?_range hz] at hx
      cases hx
      exact h4 i acc m hz hl hi
    · rw [List.getElem?_eq_none (by simp; omega)] at hx; cases hx
  · have hi : I ((List.range j.toNat).map fun i => PV.int (i : Nat)).length acc m := hi
    rw [List.length_map, List.length_range] at hi
    exact hi
/-! lists that are changed -/
theorem get_set_eq {m : MH} {n : Nat} {o u : MO} (h : m[n]? = some u) : (m.set n o)[n]? = some o := List.getElem?_set_self (List.getElem?_eq_some_iff.mp h).1
theorem get_set_ne {m : MH} {n k : Nat} {o u : MO} (h : m[k]? = some u) (hn : n ≠ k) : (m.set n o)[k]? = some u := by rw [List.getElem?_set_ne hn]; exact h
theorem append_r {m : MH} {n : Nat} {xs : List PV} {v : PV} (h : m[n]? = some (.lst xs)) (hl : xs.length < 16777216) : appendv (.ref n) [v] m = some (.non, m.set n (.lst (xs ++ [v]))) := by
  unfold appendv
  dsimp only
  rw [show lst? m n = some xs by unfold lst?; rw [h]]
  dsimp only
  rw [if_pos hl]
theorem isLst_r {m : MH} {n : Nat} {xs : List PV} (h : m[n]? = some (.lst xs)) : isLst m (.ref n) = true := by
  show (seq? m n).isSome = true
  unfold seq?
  rw [h]
  rfl
theorem atI_snoc {α β : Type} {f : α → β} {xs : List α} {x : α} : atI ((xs ++ [x]).map f) (-1) = some (f x) := by
  unfold atI ixN
  rw [if_neg (by decide), if_pos (by simp; omega)]
  rw [List.length_map, List.length_append, List.length_singleton]
  have e : (-1 + ((xs.length + 1 : Nat) : Int)).toNat = xs.length := by omega
  rw [e]
  show (List.map f (xs ++ [x]))[xs.length]? = _
  simp
end
theorem at0 {α : Type} {x : α} {xs : List α} : atI (x :: xs) 0 = some x := by unfold atI ixN; rw [if_pos (by decide), if_pos (by simp)]; rfl
theorem at1 {α : Type} {x y : α} {xs : List α} : atI (x :: y :: xs) 1 = some y := by unfold atI ixN; rw [if_pos (by decide), if_pos (by simp; omega)]; rfl
theorem at2 {α : Type} {x y z : α} {xs : List α} : atI (x :: y :: z :: xs) 2 = some z := by unfold atI ixN; rw [if_pos (by decide), if_pos (by simp; omega)]; rfl
theorem at3 {α : Type} {x y z u : α} {xs : List α} : atI (x :: y :: z :: u :: xs) 3 = some u := by unfold atI ixN; rw [if_pos (by decide), if_pos (by simp; omega)]; rfl
theorem at4 {α : Type} {x y z u v : α} {xs : List α} : atI (x :: y :: z :: u :: v :: xs) 4 = some v := by unfold atI ixN; rw [if_pos (by decide), if_pos (by simp; omega)]; rfl
theorem at5 {α : Type} {x y z u v w : α} {xs : List α} : atI (x :: y :: z :: u :: v :: w :: xs) 5 = some w := by unfold atI ixN; rw [if_pos (by decide), if_pos (by simp; omega)]; rfl
theorem at6 {α : Type} {x y z u v w t : α} {xs : List α} : atI (x :: y :: z :: u :: v :: w :: t :: xs) 6 = some t := by unfold atI ixN; rw [if_pos (by decide), if_pos (by simp; omega)]; rfl
end SM

set_option Elab.async false
set_option linter.all false
set_option maxRecDepth 100000
set_option maxHeartbeats 1000000
namespace SM
open PySem PySem.Spec PyProof.Rows L2
/-! ## sorted(list of ints), tuples of integers that a module names, what is never reached -/
def ints? : List PV → Option (List Int)
  | [] => some []
  | .int i :: r => (ints? r).map (i :: ·)
  | _ => none
theorem ints_map : ∀ ns : List Int, ints? (ns.map .int) = some ns
  | [] => rfl
  | n :: ns => by rw [List.map_cons]; unfold ints?; rw [ints_map ns]; rfl
@[irreducible] def sortI (ns : List Int) : List Int := ns.mergeSort (fun a b => decide (a ≤ b))
theorem sortI_perm (ns : List Int) : (sortI ns).Perm ns := by unfold sortI; exact List.mergeSort_perm _ _
theorem sortI_srt (ns : List Int) : (sortI ns).Pairwise (· ≤ ·) := by
  unfold sortI
  have := List.pairwise_mergeSort (le := fun a b : Int => decide (a ≤ b)) (fun a b c h1 h2 => by simp at *; omega) (fun a b => by simp; omega) ns
  exact this.imp fun h => by simpa using h
theorem sortI_uniq {ns ns' : List Int} (p : ns'.Perm ns) (s : ns'.Pairwise (· ≤ ·)) : ns' = sortI ns :=
  List.Perm.eq_of_pairwise (le := (· ≤ ·)) (fun a b _ _ h1 h2 => by omega) s (sortI_srt ns) (p.trans (sortI_perm ns).symm)
def sortedv : List PV → MH → OR
  | [.ref n], m => match seq? m n with
    | some xs => match ints? xs with
      | some ns => some (.ref m.length, m ++ [.lst ((sortI ns).map .int)])
      | none => none
    | none => none
  | _, _ => none
section
variable {K : PySem.W.Frag} {H : Hp} {φ : List Addr}
theorem ints_rvs : ∀ {xs : List PV} {ns : List Int} {vs : List V}, ints? xs = some ns → RVs K H φ xs vs → vs = ns.map V.int
  | [], ns, vs, h, r => by cases h; cases r; rfl
  | .int i :: xs, ns, vs, h, r => by
    obtain ⟨v, ws, rfl, r1, r2⟩ := r
    unfold ints? at h
    cases hx : ints? xs with
    | none => rw [hx] at h; cases h
    | some ms =>
      rw [hx] at h
      cases h
      cases r1
      rw [ints_rvs hx r2]
      rfl
theorem rvs_ints : ∀ ns : List Int, RVs K H φ (ns.map .int) (ns.map V.int)
  | [] => rfl
  | n :: ns => ⟨_, _, rfl, rfl, rvs_ints ns⟩
end
section
variable {X : Cx} {W : XM} {pos : Pos}
theorem c_sorted : CrQ X (.builtin "sorted") sortedv := .of fun vs H Q φ m xs h1 h2 h4 => by
  unfold sortedv at h4
  split at h4
  · obtain ⟨v, rfl, r⟩ := h2.one
    rename_i n
    cases hq : seq? m n with
    | none => rw [hq] at h4; exact h4.not.elim
    | some xs =>
      rw [hq] at h4
      obtain ⟨a, ws, rfl, q1, q2⟩ := h1.seq r hq
      dsimp only at h4
      cases hi : ints? xs with
      | none => rw [hi] at h4; exact h4.not.elim
      | some ns =>
        rw [hi] at h4
        have e := ints_rvs hi q2
        subst e
        refine ⟨_, cr_sortedI, a, ns, rfl, q1, fun ns' p hp hs hn => ?_⟩
        rw [sortI_uniq hp hs]
        exact h4.newL h1 (rvs_ints _) p hn
  · exact h4.not.elim
def TupK (K : PySem.W.Frag) (a : Addr) (ns : List Int) : Prop := ∃ (o : Obj) (its : Array Value) (n : Nat), K.lookup a = some o ∧ o.cls = .type "tuple" ∧ o.data = .seq its n ∧ its.size ≤ sizeLine ∧ Vals (ns.map V.int) its.toList
theorem tupK2 {K : PySem.W.Frag} {a : Addr} {i j : Int} {s t : Tok} {n : Nat} {od : Option Addr} {sl : Array (Option Value)} (h : K.lookup a = some ⟨.type "tuple", od, .seq #[.int i s, .int j t] n, sl⟩) : TupK K a [i, j] :=
  ⟨_, _, _, h, rfl, rfl, (by show 2 ≤ sizeLine; decide), .cons ⟨_, rfl⟩ (.cons ⟨_, rfl⟩ .nil)⟩
theorem q_globT {x : Str} {a : Addr} {ns : List Int} (hg : Gl X x) (hm : X.mg x = some (.ref a)) (ht : TupK X.K a ns) (hd : (x == ("__debug__" : Str)) = false := by decide) : QE X W (.Name x pos) (sC (.tup (ns.map .int))) :=
  ⟨pe_imp (pe_glob (v := .ref a) hg hm rfl hd) fun σ H Q ⟨φ, l, m, h1, h2, h3⟩ => h3 φ H _ Ext.refl h1 ⟨a, ns.map V.int, rfl, .inr ht, rvs_ints ns⟩⟩
/-- a statement that is never reached -/
def xBad : SS := fun _ _ => .bad
theorem x_bad {st : Stmt} : QS X W st xBad := ⟨⟨fun _ _ _ _ _ _ ⟨_, _, _, _, _, h3⟩ => h3.elim⟩⟩
end
section
variable {m : MH}
theorem sorted_r {n : Nat} {ns : List Int} (h : seq? m n = some (ns.map .int)) : sortedv [.ref n] m = some (.ref m.length, m ++ [.lst ((sortI ns).map .int)]) := by
  show (match seq? m n with | some xs => _ | none => none) = _
  rw [h]
  dsimp only
  rw [ints_map]
end
end SM

set_option Elab.async false
set_option linter.all false
set_option maxRecDepth 100000
set_option maxHeartbeats 1000000
namespace SM
open PySem PySem.Spec PyProof.Rows L2
/-! ## type(x) is T -/
def sTis (T : String) (sa : SE) : SE := fun l m => (sa l m).bind fun x m1 => if okTy m1 x = true then .ok (.bl (decide (tyName x = T))) m1 else .bad
theorem tyb_of {K : PySem.W.Frag} {H : Hp} {φ : List Addr} {m : MH} (h : RH K H φ m) : ∀ {x : PV} {v : V}, RV K H φ x v → okTy m x = true → TyB K H v (tyName x)
  | .non, _, r, _ => by cases r; exact .non
  | .bl _, _, r, _ => by cases r; exact .bl _
  | .int _, _, r, _ => by cases r; exact .int _
  | .str _, _, r, _ => by cases r; exact .str _
  | .tup xs, _, r, _ => by obtain ⟨a, vs, rfl, r1, r2⟩ := r; exact .tup r1
  | .ref n, _, r, e => by
    have e : (seq? m n).isSome = true := e
    cases hq : seq? m n with
    | none => rw [hq] at e; cases e
    | some xs =>
      obtain ⟨a, ws, rfl, q1, q2⟩ := h.seq r hq
      exact .lst q1
section
variable {X : Cx} {W : XM} {a : Expr} {sa : SE} {p pos pos2 : Pos} {T : String}
theorem q_tis {Tn : Str} {pT : Pos} (hg : Gl X "type") (hm : X.mg "type" = none) (hgT : Gl X Tn) (hmT : X.mg Tn = none) (hvT : bootBuiltins Tn = some (.type T)) (ha : QE X W a sa) (mk : behindInMarks .Is (.Name Tn pT) = false)
    (hn : Tn ≠ "__name__" := by decide) (hd : (Tn == ("__debug__" : Str)) = false := by decide) (na : starEach [a] X.env = (false, eval a X.env) :: starEach [] X.env := by rfl) :
    QE X W (.Compare (.Call (.Name "type" p) [a] [] pos) [.Is] [.Name Tn pT] pos2) (sTis T sa) :=
  ⟨pe_imp (pe_cmpR op_isTyB (pe_callTy call_type1 hg hm (by decide +kernel) (pa_cons ha.pe pa_nil na) (he := na)) (pe_bltn (v := .ty T) hgT hmT hvT rfl hn hd) mk) fun σ H Q h => (one h).mono fun v H1 ⟨φ, m, x, _, c1, c2, c4⟩ => by
    by_cases hk : okTy m x = true
    · rw [if_pos hk] at c4
      exact ⟨v, _, rfl, tyb_of c1 c2 hk, _, _, rfl, rfl, c4 φ H1 _ Ext.refl c1 rfl⟩
    · rw [if_neg hk] at c4
      exact c4.elim⟩
--theorem t_tis {Tn : Str} {pT : Pos} (hg : Gl X "type") (hm : X.mg "type" = none) (hgT : Gl X Tn) (hmT : X.mg Tn = none) (hvT : bootBuiltins Tn = some (.type T)) (ha : QE X W a sa) (mk : behindInMarks .Is (.Name Tn pT) = false) : True := trivial
end
/-! ## exceptions of one class with one field -/
theorem RH.newX {K : PySem.W.Frag} {H : Hp} {φ : List Addr} {m : MH} {p : Addr} {u : HO} (h : RH K H φ m) (n : H p = none) : Ext K φ H φ (upd H p u) ∧ RH K (upd H p u) φ m := by
  have e : Ext K φ H φ (upd H p u) := ⟨⟨[], by simp⟩, fun a ws w => sqt_upd_new n w⟩
  exact ⟨e, ⟨h.len, h.nd, fun i a o h1 h2 => (h.obj i a o h1 h2).new n e⟩⟩
/-- what is wanted of an exception, by what the def's own way out wants -/
def WEx (K : PySem.W.Frag) (C : Addr) (cn : String) (fn : Str) (E : XK) : XM := fun c fs φ _ m _ H => ∃ y, c = cn ∧ fs = [y] ∧ ∀ φ' H' d v, Ext K φ H φ' H' → RH K H' φ' m → RV K H' φ' y v → H' d = some (.xd [(fn, v)]) → E (.ref C) (some d) H'
/-- .. by what a try's body wants -/
def WTx (K : PySem.W.Frag) (C : Addr) (cn : String) (fn : Str) (Wx : WX) : XM := fun c fs φ l m σ H => ∃ y, c = cn ∧ fs = [y] ∧ ∀ φ' H' d v, Ext K φ H φ' H' → RH K H' φ' m → RL K H' φ' l σ → RV K H' φ' y v → H' d = some (.xd [(fn, v)]) → Wx (.ref C) (some d) σ H'
def PostX (K : PySem.W.Frag) (C : Addr) (cn : String) (fn : Str) (φ : List Addr) (H : Hp) (r : R PV) (Q : VK) (E : XK) : Prop := match r with
  | .ok x m => ∀ φ' H' v, Ext K φ H φ' H' → RH K H' φ' m → RV K H' φ' x v → Q v H'
  | .ex c fs m => ∀ φ' H', Ext K φ H φ' H' → RH K H' φ' m → WEx K C cn fn E c fs φ' [] m [] H'
  | .bad => False
def SpX (K : PySem.W.Frag) (C : Addr) (cn : String) (fn : Str) (n : Nat) (f : FS) : Sp := fun vs H Q E => vs.length = n ∧ ∃ φ m xs, RH K H φ m ∧ RVs K H φ xs vs ∧ PostX K C cn fn φ H (f xs m) Q E
/-- the promise of __init__: self.f = f -/
def SpI (K : PySem.W.Frag) (C : Addr) (fn : Str) : Sp := fun vs H Q _ => ∃ a y, vs = [.ref a, y] ∧ H a = some (exo a C none) ∧ ∀ dx, H dx = none → dx ≠ a → Q .non (upd (upd H dx (exd dx [(fn, y)])) a (exo a C (some dx)))
theorem exm_own {K : PySem.W.Frag} {S : Addr} (h1 : PySem.W.subIn K (.ref S) (.type "BaseException") = some true) (h2 : PySem.W.isClsIn K S = true) (h3 : PySem.W.typeIn K (.ref S) = some (.type "type")) (h4 : PySem.W.subIn K (.ref S) (.ref S) = some true) : PySem.W.exmOne K (.ref S) (.ref S) = some true := by
  have h2 : (PySem.W.clsIn K S).isSome = true := h2
  unfold PySem.W.exmOne
  rw [if_pos (by rw [h1]; rfl)]
  unfold PySem.W.kitCls
  simp [h2, h3, h4]
/-- what is known of an exception's class -/
structure ExcT (P : Program) (w : World) (K : PySem.W.Frag) (mg : Str → Option Value) (base : Heap) (x : Str) (C : Addr) (fn : Str) : Prop where
  gC : mg x = some (.ref C)
  T : OexC K C
  ini : ∃ (fI : Addr) (fd : FuncData), PySem.W.findIn K (.ref C) "__init__" = some (some (.ref fI)) ∧ PySem.W.typeIn K (.ref fI) = some (.type "function") ∧ FnOk P w K mg base CX0 1 fI fd ["self", fn] (SpI K C fn) ∧ Binds K fd ["self", fn] []
  no : PySem.W.findIn K (.ref C) fn = some none
  xf : XfC K C
  te : PySem.W.exmOne K (.ref C) (.ref C) = some true
section
variable {P : Program} {w : World} {K : PySem.W.Frag} {mg : Str → Option Value} {base : Heap}
theorem okI {x qual : Str} {st : Stmt} {f C : Addr} {fd : FuncData} {N : List Str} {fn : Str} (F : Fun K x qual st f fd) (S : FnScope N ["self", fn] (defScope st)) (hN : N = ([("self" : Str), fn] : List Str)) (T : OexC K C) (no : PySem.W.findIn K (.ref C) fn = some none)
    (hb : ∀ (cdv : Value) (A : Around) (outer : List Env) (s : Shared) (H : Hp) (E : XK), PSs (cxOf CX0 P w K mg base N qual (defScope st) f cdv A outer s H E).nox (defBody st) (tOst K fn (tVar 0) (tVar 1))) : FnOk P w K mg base CX0 1 f fd ["self", fn] (SpI K C fn) := by
  refine F.ok (k := 0) S (fun vs H Q E h => by obtain ⟨a, y, rfl, _⟩ := h; rfl) fun cdv A outer s H vs Q E hr hsp => ?_
  obtain ⟨a, y, rfl, ha, hq⟩ := hsp
  refine ⟨_, hb cdv A outer s H E, ?_⟩
  subst hN
  exact ⟨y, rfl, .ref a, rfl, a, C, rfl, T, no, .inl ⟨ha, fun dx n ne => hq dx n ne⟩⟩
theorem okXQ {x qual : Str} {st : Stmt} {f : Addr} {fd : FuncData} {N ps : List Str} {k : Nat} {C : Addr} {cn : String} {fn : Str} (F : Fun K x qual st f fd) (S : FnScope N ps (defScope st)) (b : SS)
    (h : ∀ (cdv : Value) (A : Around) (outer : List Env) (s : Shared) (H : Hp) (E : XK), Room k (A.deeper (envOfC qual (defScope st) s.heap.objs.size f cdv)) →
      QSs (cxOf (L2.CX P w) P w K mg base N qual (defScope st) f cdv A outer s H E) (WEx K C cn fn E) (defBody st) b) : FnOk P w K mg base (L2.CX P w) (k + 1) f fd ps (SpX K C cn fn ps.length (fnS ps.length N.length b)) := by
  refine F.okX S (fun vs H Q E h => h.1) fun cdv A outer s H vs Q E hr hsp => ?_
  obtain ⟨hl, φ, m, xs, h1, h2, h3⟩ := hsp
  have hle : ps.length ≤ N.length := by
    have := congrArg List.length S.pre
    rw [List.length_take] at this
    omega
  have hxl : xs.length = ps.length := by rw [← h2.length]; exact hl
  refine ⟨_, (h cdv A outer s H E hr).ps, φ, _, m, h1, rl_start hle h2 hxl, ?_⟩
  unfold fnS at h3
  rw [if_pos hxl] at h3
  cases hb : b (xs.map some ++ List.replicate (N.length - ps.length) none) m with
  | nx l m' => rw [hb] at h3; exact fun φ' σ' H' x a b => h3 φ' H' _ x a rfl
  | rt y m' => rw [hb] at h3; exact h3
  | bk l m' => rw [hb] at h3; exact h3.elim
  | ct l m' => rw [hb] at h3; exact h3.elim
  | ex c fs l m' => rw [hb] at h3; exact fun φ' σ' H' x a b => h3 φ' H' x a
  | bad => rw [hb] at h3; exact h3.elim
end
def CalX (P : Program) (w : World) (K : PySem.W.Frag) (mg : Str → Option Value) (base : Heap) (C : Addr) (cn : String) (fn : Str) (x : Str) (n k : Nat) (f : FS) : Prop :=
  ∃ (fa : Addr) (fd : FuncData) (ps : List Str), ps.length = n ∧ FnOk P w K mg base (L2.CX P w) k fa fd ps (SpX K C cn fn n f) ∧ mg x = some (.ref fa) ∧ PySem.W.keepIn K (.ref fa) = true ∧ Binds K fd ps []
theorem calX_mk {P : Program} {w : World} {K : PySem.W.Frag} {mg : Str → Option Value} {base : Heap} {C : Addr} {cn : String} {fn : Str} {x qual : Str} {st : Stmt} {f : Addr} {fd : FuncData} {ps : List Str} {k n : Nat} {g : FS} (hn : ps.length = n) (G : FnOk P w K mg base (L2.CX P w) k f fd ps (SpX K C cn fn n g)) (F : Fun K x qual st f fd) (hm : mg x = some (.ref f)) (hb : Binds K fd ps []) : CalX P w K mg base C cn fn x n k g :=
  ⟨f, fd, ps, hn, G, hm, F.kp, hb⟩
/-! ### raise -/
def xRaise (cn : String) (ses : SA) : SS := fun l m => R.then l (ses l m) fun xs m1 => .ex cn xs l m1
section
variable {X : Cx} {a : Expr} {es : List Expr} {ses : SA} {x fn : Str} {cn : String} {C : Addr} {E : XK} {p pos pos2 : Pos}
theorem x_raise (hc : X.calm = true) (T : ExcT X.prog X.w X.K X.mg X.base x C fn) (hr : Room 2 X.A) (tk : Takes X (fun cls d _ H => E cls d H)) (ha : QA X (WEx X.K C cn fn E) [a] ses) (hg : Gl X x := by rfl) (hdb : (x == ("__debug__" : Str)) = false := by decide)
    (he : starEach (a :: []) X.env = (false, eval a X.env) :: starEach [] X.env := by rfl) (hpl : (backTo pos (starEach [] X.env)).any (·.1) = false := by rfl) :
    QS X (WEx X.K C cn fn E) (.Raise (some (.Call (.Name x p) [a] [] pos)) none pos2) (xRaise cn ses) := by
  obtain ⟨fI, fd, iC, tI, F, hb⟩ := T.ini
  refine ⟨ps_imp (ps_raise hc tk (pmk_oex T.T iC tI F hr hb .nil pass0 hg T.gC ha.pa hdb he hpl)) fun D σ H ⟨φ, l, m, h1, h2, h3⟩ => ?_⟩
  refine ⟨φ, l, m, h1, h2, (PostS.then (rel := rA X.K) h2 h3).mono ?_⟩
  rintro vs H1 ⟨φ1, xs, m1, e1, a1, b1, c1, d1⟩
  obtain ⟨y, _, rfl, fin⟩ := d1 φ1 σ H1 Ext.refl a1 b1
  obtain ⟨v, ws, rfl, r1, rfl⟩ := c1
  refine ⟨by simp, fun q hq => ⟨q, v, rfl, upd_same, fun dx n ne => ?_⟩⟩
  have hdx : H1 dx = none := by rw [upd_ne ne] at n; exact n
  refine ⟨rfl, dx, [(fn, v)], upd_same, by rw [upd_ne ne, upd_same], hdx, ?_⟩
  have eH : upd (del (upd (upd (upd H1 q (exo q C none)) dx (exd dx [(fn, v)])) q (exo q C (some dx))) q) dx (.xd [(fn, v)]) = upd H1 dx (.xd [(fn, v)]) := by
    funext b
    by_cases hb1 : b = dx
    · subst hb1; rw [upd_same, upd_same]
    · rw [upd_ne hb1, upd_ne hb1]
      by_cases hb2 : b = q
      · subst hb2; rw [del_same, hq]
      · rw [del_ne hb2, upd_ne hb2, upd_ne hb1, upd_ne hb2]
  rw [eH]
  obtain ⟨x1, x2⟩ := a1.newX (u := .xd [(fn, v)]) hdx
  exact fin φ1 _ dx v x1 x2 (RV.ext x1 r1) upd_same
end
/-! ### a call that may raise, in a try -/
def sCallX (n : Nat) (f : FS) (a : SA) : SE := fun l m => (a l m).bind fun xs m1 => if xs.length = n then f xs m1 else .bad
section
variable {X : Cx} {e : Expr} {es : List Expr} {ses : SA} {x fn : Str} {cn : String} {C : Addr} {Wx : WX} {p pos : Pos} {n k j : Nat} {f : FS}
theorem q_callX (Cl : CalX X.prog X.w X.K X.mg X.base C cn fn x n k f) (hr : Room j X.A) (hk : k ≤ j) (hg : Gl X x) (tk : Takes X Wx) (ha : QA X (WTx X.K C cn fn Wx) (e :: es) ses) (hdb : (x == ("__debug__" : Str)) = false := by decide)
    (he : starEach (e :: es) X.env = (false, eval e X.env) :: starEach es X.env := by rfl) (hpl : (backTo pos (starEach es X.env)).any (·.1) = false := by rfl) : QE X (WTx X.K C cn fn Wx) (.Call (.Name x p) (e :: es) [] pos) (sCallX n f ses) := by
  obtain ⟨fa, fd, ps, hps, F, hm, hkp, hb⟩ := Cl
  refine ⟨pe_imp (pe_callS (E := fun σ => L2.WE Wx σ) F (hr.mono hk) hg hm hkp hb (fun σ => passAt tk σ) ha.pa hdb he hpl) fun σ H Q ⟨φ, l, m, h1, h2, h3⟩ => ?_⟩
  refine ⟨φ, l, m, h1, h2, (Post.bind (rel := rA X.K) h2 h3).mono ?_⟩
  rintro vs H1 ⟨φ1, xs, m1, e1, a1, b1, c1, d1⟩
  by_cases hz : xs.length = n
  · rw [if_pos hz] at d1
    refine ⟨by rw [RVs.length c1]; exact hz, φ1, m1, xs, a1, c1, ?_⟩
    cases hf : f xs m1 with
    | ok y m' => rw [hf] at d1; exact d1
    | ex c fs m' =>
      rw [hf] at d1
      intro φ2 H2 x2 a2
      obtain ⟨y, q1, q2, q3⟩ := d1 φ2 H2 x2 a2
      exact ⟨y, q1, q2, fun φ3 H3 d v x3 a3 r3 e3 => q3 φ3 H3 d v x3 a3 ((b1.ext x2).ext x3) r3 e3⟩
    | bad => rw [hf] at d1; exact d1.elim
  · rw [if_neg hz] at d1
    exact d1.elim
end
/-! ### try: .. except C as n: return n.f -/
def xTryA (cn : String) (i : Nat) (sb : SS) : SS := fun l m => match sb l m with
  | .ex c [y] l' m' => if c = cn ∧ i < l'.length then .rt y m' else .bad
  | .ex _ _ _ _ => .bad
  | r => r
section
variable {X : Cx} {W : XM} {body : List Stmt} {sb : SS} {x n fn : Str} {cn : String} {C : Addr} {i : Nat} {np p1 p2 p3 pos pos' : Pos}
theorem x_tryA (i : Nat) (hs : X.stack = X.env :: X.outer) (hf : X.env.frame = some X.env.locals) (hN : X.N.Nodup) (hi : X.N[i]? = some n) (hln : X.env.kindOf n = some .local) (T : ExcT X.prog X.w X.K X.mg X.base x C fn) (hg : Gl X x)
    (hb : ∀ (Wx : WX) (pn : List (Addr × Obj)) (xe : Value → Shared → Prop), Takes (X.tr pn xe) Wx → PassesOwn (model X.prog X.w) X.A X.env xe → QSs (X.tr pn xe) (WTx X.K C cn fn Wx) body sb)
    (hv : Vis X.env.scope n) (hab : attributeBase (.Name n p1) fn X.env (eval (.Name n p1) X.env) = eval (.Name n p1) X.env) (hdb : (x == ("__debug__" : Str)) = false := by decide) (hdn : (n == ("__debug__" : Str)) = false := by decide) (hcd : (n == ("__classdict__" : Str)) = false := by decide) :
    QS X W (.Try body [.ExceptHandler (some (.Name x np)) (some n) [.Return (some (.Attribute (.Name n p1) fn p2)) p3] pos'] [] [] pos) (xTryA cn i sb) :=
  ⟨ps_imp (ps_try_as (tb := fun Wx => RdS X.K (WTx X.K C cn fn Wx) sb) hs hf hN hi hln ⟨hg, hdb, .inl T.gC⟩ (L2.takes0 (X := X)) (fun Wx pn xe tk po => (hb Wx pn xe tk po).ps)
    (fun a oe cls d pn hz hff => pss_one (ps_ret (pe_xf T.xf T.no hz hff (pe_var (i := i) hi hv hdn hcd) hab)))) fun D σ H ⟨φ, l, m, h1, h2, h3⟩ => by
    refine ⟨φ, l, m, h1, h2, ?_⟩
    unfold xTryA at h3
    cases hsb : sb l m with
    | nx l' m' => rw [hsb] at h3; exact h3
    | rt y m' => rw [hsb] at h3; exact h3
    | bk l' m' => rw [hsb] at h3; exact h3
    | ct l' m' => rw [hsb] at h3; exact h3
    | bad => rw [hsb] at h3; exact h3
    | ex c fs l' m' =>
      rw [hsb] at h3
      match fs, h3 with
      | [], h3 => exact h3.elim
      | [y], h3 =>
        dsimp only at h3
        by_cases hz : c = cn ∧ i < l'.length
        · rw [if_pos hz] at h3
          intro φ1 σ1 H1 x1 a1 b1
          refine ⟨y, hz.1, rfl, fun φ2 H2 d v x2 a2 b2 r2 e2 => ⟨true, T.te, fun _ a na => ?_, fun z => by cases z⟩⟩
          have hil : i < σ1.length := by rw [← b2.1]; exact hz.2
          exact ⟨.ref a, List.getElem?_set_self hil, rfl, rfl, d, [(fn, v)], v, rfl, e2, by simp [List.lookup], h3 φ2 H2 v (x1.trans x2) a2 r2⟩
        · rw [if_neg hz] at h3; exact h3.elim
      | _ :: _ :: _, h3 => exact h3.elim⟩
end
end SM

set_option Elab.async false
set_option linter.all false
set_option maxRecDepth 100000
set_option maxHeartbeats 2000000
/-! ## enumerate(tuple) -/
namespace PySem
open Sem (wp)
theorem meets_enT {v : Value} {o : Obj} {H : Heap → Prop} (B : Begins v o H) :
    Meets (Builtin.«enumerate.__new__» ⟨[.type "enumerate", v], []⟩) (fun _ R s => H s.heap ∧
      R (.ok (.ret (.ref (s.heap.push o).objs.size))) { s with heap := (s.heap.push o).push { cls := .type "enumerate", data := .fields #[.none, .bool false, .ref s.heap.objs.size, rawInt 0, .none, .none] } }) :=
  .of_wp fun prog w A R s h => by
    obtain ⟨hp, g, d, tk, os⟩ := s; obtain ⟨h1, h⟩ := h
    have hsub := sub_enumerate
    have q1 : ∀ {A' : Around} {E : Value → Shared → Prop} {Q : Value → Shared → Prop}, Q (.ref hp.objs.size) ⟨hp.push o, g, d, tk, os⟩ → wpAny (model prog w) A' (pyIter v) Q E ⟨hp, g, d, tk, os⟩ :=
      fun q => B.iter prog w _ _ ⟨hp, g, d, tk, os⟩ _ h1 q
    wp_walk using q1
    refine wpAny_stack_any fun st => wpAny_pure ?_
    split
    · rename_i c _ _ _ _ _
      cases (c == Value.type "enumerate")
      · wp_walk using q1
        exact ⟨_, rfl, h⟩
      · wp_walk using q1
        exact ⟨_, rfl, h⟩
    · wp_walk using q1
      exact ⟨_, rfl, h⟩
theorem call_enT {prog : Program} {w : World} {A : Around} {E : Value → Shared → Prop} {s : Shared} {v : Value} {o : Obj} {H : Heap → Prop} {Q : Value → Shared → Prop} (B : Begins v o H) (h1 : H s.heap)
    (h : ∀ h', IsEnum h' (s.heap.objs.size + 1) s.heap.objs.size 0 .none → h'.get? s.heap.objs.size = some o → h'.objs.size = s.heap.objs.size + 2 →
      (∀ b o, s.heap.get? b = some o → h'.get? b = some o) → Q (.ref (s.heap.objs.size + 1)) { s with heap := h' }) :
    wpAny (model prog w) A (call (.type "enumerate") [v]) Q E s := by
  refine callType_new F.called_enumerate (by decide) (F.typeCall_enumerate_1 _) (F.newCall_enumerate_1 _) (fun obj => F.args_object_init_2 obj _) F.entry_enumerate_new (meets_enT B) ⟨h1, ?_⟩
  have hz : (s.heap.push o).objs.size = s.heap.objs.size + 1 := Heap.size_push ..
  show _ ∧ _
  rw [hz]
  have he : IsEnum ((s.heap.push o).push { cls := .type "enumerate", data := .fields #[.none, .bool false, .ref s.heap.objs.size, rawInt 0, .none, .none] }) (s.heap.objs.size + 1) s.heap.objs.size 0 .none := by
    have := Heap.get?_push_size (s.heap.push o) (o := { cls := .type "enumerate", data := .fields #[.none, .bool false, .ref s.heap.objs.size, rawInt 0, .none, .none] }) rfl
    rw [hz] at this; exact this
  refine ⟨⟨_, he, rfl⟩, h _ he (Heap.get?_push_of_some _ (Heap.get?_push_size _ B.free)) (by rw [Heap.size_push, hz]) fun b o x => Heap.get?_push_of_some _ (Heap.get?_push_of_some _ x)⟩
end PySem
namespace SM
open PySem PySem.Spec PyProof.Rows L2
def ItE (K : PySem.W.Frag) (a : Addr) : It :=
  ⟨fun i H => ∃ (xs : List V) (x : V), SqT K H a xs ∧ xs[i]? = some x, fun i H v H' => ∃ T x, v = .ref T ∧ H T = none ∧ H' = upd H T (.tup [.int (i : Nat), x]) ∧ ∀ xs, SqT K H a xs → xs[i]? = some x, fun i H => ∃ xs : List V, SqT K H a xs ∧ xs.length ≤ i⟩
theorem turn_enT {P : Program} {w : World} {K : PySem.W.Frag} {elts : List Expr} {kk : Nat} {tpos : Pos} (a e it : Addr) :
    Turn P w K (.Tuple elts kk tpos) (ItE K a) [e, it] e (fun i h => (∃ old, IsEnum h e it ((i : Nat) : Int) old) ∧ h.IsTupleIter it a i ∧ e ≠ it ∧ e ≠ a ∧ it ≠ a) where
  mem := by simp
  obj := fun i h st b hb => by
    obtain ⟨⟨old, he⟩, ⟨o, ho, hc, hd⟩, _⟩ := st
    have e' : b = e ∨ b = it := by simpa using hb
    rcases e' with z | z
    · rw [z]; exact ⟨_, he, fun v q => nomatch q⟩
    · rw [z]; exact ⟨o, ho, fun v q => by rw [hd] at q; cases q⟩
  keep := fun i h h' st k => let ⟨⟨old, he⟩, hi, hne⟩ := st; ⟨⟨old, k e (by simp) _ he⟩, hi.at fun o q => k it (by simp) o q, hne⟩
  item := by
    intro X hP hw hK hc i pins s σ H E I hf st hg
    subst hP hw hK
    obtain ⟨⟨old, he⟩, hit, hne, hea, hia⟩ := st
    obtain ⟨xs, x, hq, hx⟩ := hg
    obtain ⟨its, rv, p, hz⟩ := I.tuple hq
    obtain ⟨u, hu, ru⟩ := rv.get hx
    have hel : e < s.heap.objs.size := Heap.lt_size he
    have hil : it < s.heap.objs.size := by obtain ⟨_, q, _⟩ := hit; exact Heap.lt_size q
    have p' : s.heap.IsTuple a its.toArray := p
    have hh : X.A.in1.handled = none := I.ok.hd hc
    have hlt : i < its.toArray.size := by
      have := (List.getElem?_eq_some_iff.mp hu).1
      simpa using this
    refine wpAny_pyNext_enum_itemD (Draws.tuple hh it a (Ne.symm hia) its.toArray) he ⟨hit, p'⟩ hlt hne (by simp; exact ⟨hne, hea⟩) fun y h' tk hy ho hst' hT hsz hk => ?_
    have ey : y = u := by
      have hy : its.toArray[i]? = some y := hy
      rw [List.getElem?_toArray, hu] at hy
      exact (Option.some.inj hy).symm
    subst ey
    refine ⟨_, rfl, wpAny_letOwnedTupleGo_enum (s := { s with heap := h', toks := tk + 1 }) ho fun h'' he' sb => ?_⟩
    have hT2 : h''.get? s.heap.objs.size = some { cls := .type "tuple", data := .seq #[.int i tk, y] } := (sb.2 _ (Nat.ne_of_gt hel)).trans hT
    have new : ObjOk X.prog X.w (upd H s.heap.objs.size (.tup [.int (i : Nat), x])) h'' s.heap.objs.size (.tup [.int (i : Nat), x]) :=
      ⟨by show 2 ≤ sizeLine; decide, [.int i tk, y], .cons ⟨_, rfl⟩ (.cons ru .nil), ⟨_, hT2, rfl, _, rfl⟩⟩
    have I1 : Inv X pins σ (upd H s.heap.objs.size (.tup [.int (i : Nat), x])) { s with heap := h'', toks := tk + 1 } :=
      I.turnedNew (ch := [e, it]) (fun b ob hb q => (sb.2 b (fun z => hb (by simp [z]))).trans (hk b ob (fun z => hb (by simp [z])) (fun z => hb (by simp [z])) q)) hf (Nat.le_refl _) new
    refine ⟨.ref s.heap.objs.size, _, I1, rfl, ⟨_, x, rfl, I.hok.fresh (Nat.le_refl _), rfl, fun ys hy => by rw [I.tuple_inj hy hq]; exact hx⟩, ⟨⟨y, ?_⟩, hst'.1.at fun o q => (sb.2 it (Ne.symm hne)).trans q, hne, hea, hia⟩, fun b hb => ?_⟩
    · have e1 : ((i + 1 : Nat) : Int) = (i : Int) + 1 := by omega
      rw [e1]; exact he'
    · have hb' : b < s.heap.objs.size := by
        have e' : b = e ∨ b = it := by simpa using hb
        rcases e' with z | z
        · rw [z]; exact hel
        · rw [z]; exact hil
      rw [upd_ne (Nat.ne_of_lt hb')]
      exact (hf b hb).1
  done := by
    intro X hP hw hK hc i pins s σ H E I hf st hg
    subst hP hw hK
    obtain ⟨⟨old, he⟩, hit, hne, hea, hia⟩ := st
    obtain ⟨xs, hq, hx⟩ := hg
    obtain ⟨its, rv, p, hz⟩ := I.tuple hq
    obtain ⟨f0, f1, f2, f3, f4, f5⟩ := hf it (by simp)
    have hl := rv.length
    have p' : s.heap.IsTuple a its.toArray := p
    have hh : X.A.in1.handled = none := I.ok.hd hc
    have D : Draws X.prog X.w X.A.in1 it [it, a] i (fun j v => its.toArray[j]? = some v) (fun j h => h.IsTupleIter it a j ∧ h.IsTuple a its.toArray ∧ i ≤ j) :=
      { live := fun _ _ st => let ⟨o, ho, _⟩ := st.1; ⟨o, ho⟩
        frame := fun _ _ _ st hk => ⟨st.1.at fun o e => hk it (by simp) o e, st.2.1.at fun o e => hk a (by simp) o e, st.2.2⟩
        item := fun j s Q E hi st hQ => absurd st.2.2 (by omega)
        done := fun s Q E st hE => wpAny_nextOf_tuple_end hh st.1 st.2.1 (by simp; omega) hE }
    exact wpAny_pyNext_enum_endD D he ⟨hit, p', Nat.le_refl _⟩ fun h' eb => ⟨rfl, I.turned (t' := s.toks) (fun b o hb q => eb b o hb q) f0 f1 f3 f4 f5⟩
  self := fun A i s Q E st h => let ⟨⟨_, he⟩, _⟩ := st; wpAny_pyIter_enum he h
def iEnT (K : PySem.W.Frag) (ta : TA) : TI := fun σ H R => ta σ H fun vs H1 => ∃ a xs, vs = [.ref a] ∧ SqT K H1 a xs ∧ R (ItE K a) H1
theorem pi_enT {X : Cx} {e : Expr} {ta : TA} {p pos tpos : Pos} {elts : List Expr} {kk : Nat} (hg : Gl X "enumerate") (hm : X.mg "enumerate" = none) (ha : PA X [e] ta) (hs : starEach [e] X.env = [(false, eval e X.env)] := by rfl) :
    PI X (.Tuple elts kk tpos) (.Call (.Name "enumerate" p) [e] [] pos) (iEnT X.K ta) := by
  refine ⟨fun pins s σ H R I h => ?_⟩
  refine Call_ (ld_blt I hg hm boot_enumerate (PyProof.Rows.callWith_type1 (thn (ha.run pos pins s σ H _ I h) fun us s1 ⟨vs, H1, I1, r1, q1⟩ => ?_) hs rfl))
  obtain ⟨a, xs, ex, hq, q⟩ := q1
  subst ex
  cases r1 with
  | cons r rr =>
    cases rr
    cases r
    obtain ⟨its, rv, p', hz⟩ := I1.tuple hq
    have ht : s1.heap.IsTuple a its.toArray := p'
    have hal : a < s1.heap.objs.size := by obtain ⟨o, ho, _⟩ := ht; exact Heap.lt_size ho
    refine call_enT (begins_tuple a its.toArray) ht fun h' he hit hsz hk => wpAny_pyIter_enum he ?_
    have I2 : Inv X pins σ H1 { s1 with heap := h' } := I1.kept (t' := s1.toks) hk
    refine ⟨s1.heap.objs.size + 1, [s1.heap.objs.size + 1, s1.heap.objs.size], _, _, H1, rfl, I2, turn_enT a (s1.heap.objs.size + 1) s1.heap.objs.size, ⟨⟨.none, he⟩, ⟨_, hit, rfl, rfl⟩, Nat.succ_ne_self _, Nat.ne_of_gt (Nat.lt_succ_of_lt hal), Nat.ne_of_gt hal⟩, fun b hb => ?_, q⟩
    have e' : b = s1.heap.objs.size + 1 ∨ b = s1.heap.objs.size := by simpa using hb
    have hle : s1.heap.objs.size ≤ b := by
      rcases e' with z | z
      · rw [z]; exact Nat.le_add_right _ _
      · rw [z]; exact Nat.le_refl _
    exact I1.fpOk hle (I1.hok.fresh hle)
theorem walk_enT {K : PySem.W.Frag} {a : Addr} {xs : List V} : Walk (ItE K a) xs.length (fun H => SqT K H a xs) (fun i H v H' => ∃ T x, v = .ref T ∧ H T = none ∧ H' = upd H T (.tup [.int (i : Nat), x]) ∧ xs[i]? = some x) := by
  refine ⟨fun i _ hi q => ⟨xs, xs[i], q, by simp [hi]⟩, fun _ q => ⟨xs, q, Nat.le_refl _⟩, fun i H v H' _ q y => ?_⟩
  obtain ⟨T, x, h1, h2, h3, h4⟩ := y
  exact ⟨T, x, h1, h2, h3, h4 xs q⟩
/-- for i, x in enumerate(a tuple): the items are pairs -/
def enumI (xs : List PV) : List PV := (List.range xs.length).map fun i => .tup [.int (i : Nat), xs.getD i .non]
theorem enumI_len (xs : List PV) : (enumI xs).length = xs.length := by simp [enumI]
theorem enumI_get {xs : List PV} {i : Nat} {x : PV} (h : xs[i]? = some x) : (enumI xs)[i]? = some (.tup [.int (i : Nat), x]) := by
  have hl := (List.getElem?_eq_some_iff.mp h).1
  unfold enumI
  rw [List.getElem?_map, List.getElem?_range hl]
  simp [List.getD_eq_getElem?_getD, h]
noncomputable def xForE (se : SE) (g : STg) (body : SS) : SS := fun l m => R.then l (se l m) fun x m1 => match x with
  | .tup xs => forL ⟨enumI xs, none⟩ g body (enumI xs) l m1
  | _ => .bad
section
variable {X : Cx} {W : XM} {e : Expr} {body : List Stmt} {g : STg} {sb : SS} {se : SE} {elts : List Expr} {kk : Nat} {tpos p cpos pos : Pos}
theorem x_forE (hp : PassesOwn (model X.prog X.w) X.A X.env X.xe) (hc : X.calm = true) (hgE : Gl X "enumerate") (hm : X.mg "enumerate" = none) (he : QE X W e se) (hg : QG X (.Tuple elts kk tpos) g) (hb : QSs X W body sb)
    (hs1 : starEach [e] X.env = [(false, eval e X.env)] := by rfl) (hs : ∀ x, foldedSetIterable (.Call (.Name "enumerate" p) [e] [] cpos) X.env x = pure x := by intro _; rfl) :
    QS X W (.For (.Tuple elts kk tpos) (.Call (.Name "enumerate" p) [e] [] cpos) body [] pos) (xForE se g sb) := ⟨ps_imp (ps_for hp hc (pi_enT hgE hm (pa_cons he.pe pa_nil (by rw [hs1] <;> rfl)) hs1) hg.pg hb.ps hs) fun D σ H ⟨φ, l, m, h1, h2, h3⟩ => by
  refine ⟨φ, l, m, h1, h2, (PostS.then (rel := rV X.K) h2 h3).mono ?_⟩
  rintro v H' ⟨φ', x, m', x0, a0, b0, r0, d0⟩
  match x, r0, d0 with
  | .tup xs, r0, d0 =>
    obtain ⟨a, vs, rfl, q1, q2⟩ := r0
    refine ⟨a, vs, rfl, q1, ?_⟩
    have hlen : vs.length = xs.length := q2.length
    have d0 : PostS X.K W φ' H' (forL ⟨enumI xs, none⟩ g sb (enumI xs) l m') D := d0
    refine for_it (walk_enT (xs := vs)) (fun i σ2 H2 => ∃ φ2 l2 m2, Ext X.K φ' H' φ2 H2 ∧ RH X.K H2 φ2 m2 ∧ RL X.K H2 φ2 l2 σ2 ∧ PostS X.K W φ2 H2 (forL ⟨enumI xs, none⟩ g sb ((enumI xs).drop i) l2 m2) D) ⟨φ', l, m', Ext.refl, a0, b0, d0⟩ ?_ ?_ ?_
    · rintro i σ2 H2 hi ⟨φ2, l2, m2, x2, a2, b2, c2⟩
      exact x2.tup _ _ q1
    · rintro i v σ2 H2 H3 hi ⟨φ2, l2, m2, x2, a2, b2, c2⟩ ⟨T, y, rfl, hT, rfl, hy⟩
      obtain ⟨px, e1⟩ : ∃ px, xs[i]? = some px := ⟨xs[i]'(by omega), List.getElem?_eq_getElem (by omega)⟩
      obtain ⟨y', e2, ry⟩ := q2.get e1
      rw [hy] at e2
      cases e2
      obtain ⟨f1, f2, f3⟩ := a2.newT (xs := [.int (i : Nat), px]) (vs := [.int (i : Nat), y]) hT ⟨_, _, rfl, rfl, _, _, rfl, RV.ext x2 ry, rfl⟩
      have hi' : i < (enumI xs).length := by rw [enumI_len]; omega
      rw [List.drop_eq_getElem_cons hi'] at c2
      have eg : (enumI xs)[i] = .tup [.int (i : Nat), px] := by
        have := enumI_get e1
        rw [List.getElem?_eq_getElem hi'] at this
        exact Option.some.inj this
      rw [eg] at c2
      unfold forL at c2
      rw [if_pos (show ITM.ok ⟨enumI xs, none⟩ m2 from trivial)] at c2
      cases hgx : g (.tup [.int (i : Nat), px]) l2 m2 with
      | none => rw [hgx] at c2; exact c2.elim
      | some p =>
        obtain ⟨l3, m3⟩ := p
        rw [hgx] at c2
        dsimp only at c2
        refine ⟨φ2, l2, m2, _, f2, b2.ext f1, f3, l3, m3, hgx, fun φ3 σ3 H3 x3 a3 b3 => ⟨φ3, l3, m3, a3, b3, ?_⟩⟩
        have c3 := PostS.ext (f1.trans x3) c2
        cases hb : sb l3 m3 with
        | nx l4 m4 =>
          rw [hb] at c3
          exact fun φ4 σ4 H4 x4 a4 b4 => ⟨φ4, l4, m4, ((x2.trans f1).trans x3).trans x4, a4, b4, PostS.ext x4 c3⟩
        | ct l4 m4 =>
          rw [hb] at c3
          exact fun φ4 σ4 H4 x4 a4 b4 => ⟨φ4, l4, m4, ((x2.trans f1).trans x3).trans x4, a4, b4, PostS.ext x4 c3⟩
        | bk l4 m4 => rw [hb] at c3; exact c3
        | rt x m4 => rw [hb] at c3; exact c3
        | ex c fs l4 m4 => rw [hb] at c3; exact c3
        | bad => rw [hb] at c3; exact c3
    · rintro σ2 H2 ⟨φ2, l2, m2, x2, a2, b2, c2⟩
      rw [List.drop_of_length_le (by rw [enumI_len]; omega)] at c2
      unfold forL at c2
      rw [if_pos (show ITM.ok ⟨enumI xs, none⟩ m2 from trivial)] at c2
      exact c2 φ2 σ2 H2 Ext.refl a2 b2⟩
end
end SM

set_option Elab.async false
set_option linter.all false
set_option maxRecDepth 100000
set_option maxHeartbeats 2000000
/-! SM15: a def that may raise, called where it doesn't; a try whose suite returns what a small def says of the exception's field. -/
namespace SM
open PySem PySem.Spec PyProof.Rows L2
/-! ## flat equality, wants no room -/
def eqS : PV → PV → MH → OR := fun x y m => (eqF x y).map fun b => (.bl b, m)
section
variable {X : Cx}
theorem o_eqS : OpQ X (compareOp .Eq) eqS := .of_eq fun v w H Q φ m x y h1 h2 h3 h4 => by
  unfold eqS at h4
  cases hf : eqF x y with
  | some b =>
    rw [hf] at h4
    obtain ⟨s1, s2⟩ := eqF_scal hf h2 h3
    exact ⟨_, op_eq, s1, by rw [s2]; exact h4.same h1 rfl⟩
  | none => rw [hf] at h4; exact h4.not.elim
end
/-! ## a call of a def that raises elsewhere, not here -/
section
variable {X : Cx} {W : XM} {e : Expr} {es : List Expr} {ses : SA} {x fn : Str} {cn : String} {C : Addr} {p pos : Pos} {n k j : Nat} {f : FS}
theorem q_callX0 (Cl : CalX X.prog X.w X.K X.mg X.base C cn fn x n k f) (hr : Room j X.A) (hk : k ≤ j) (hg : Gl X x) (ha : QA X W (e :: es) ses) (hdb : (x == ("__debug__" : Str)) = false := by decide)
    (he : starEach (e :: es) X.env = (false, eval e X.env) :: starEach es X.env := by rfl) (hpl : (backTo pos (starEach es X.env)).any (·.1) = false := by rfl) : QE X W (.Call (.Name x p) (e :: es) [] pos) (sCallU n f ses) := by
  obtain ⟨fa, fd, ps, hps, F, hm, hkp, hb⟩ := Cl
  refine ⟨pe_imp (pe_callS (E := fun _ => E0) F (hr.mono hk) hg hm hkp hb (fun σ pins H s e s' I h => passL pins σ H s e s' I h) ha.pa hdb he hpl) fun σ H Q q => (oneA q).mono fun vs H1 ⟨φ, m, xs, l, c1, c2, c3⟩ => ?_⟩
  by_cases hz : xs.length = n
  · rw [if_pos hz] at c3
    refine ⟨by rw [c2.length]; exact hz, φ, m, xs, c1, c2, ?_⟩
    cases hf : f xs m with
    | ok y m' => rw [hf] at c3; exact c3
    | ex c fs m' => rw [hf] at c3; exact c3.elim
    | bad => rw [hf] at c3; exact c3.elim
  · rw [if_neg hz] at c3
    exact c3.elim
end
/-! ## a small def (it calls nothing, it raises nothing), called while an exception is handled -/
structure Hotf (P : Program) (w : World) (K : PySem.W.Frag) (mg : Str → Option Value) (base : Heap) (x : Str) (n : Nat) (f : FS) : Prop where
  ex : ∃ (qual : Str) (st : Stmt) (fa : Addr) (fd : FuncData) (N ps : List Str) (b : SS), Fun K x qual st fa fd ∧ FnScope N ps (defScope st) ∧ ps.length = n ∧ f = fnS n N.length b ∧ mg x = some (.ref fa) ∧ Binds K fd ps [] ∧
    ∀ (cdv : Value) (A : Around) (outer : List Env) (s : Shared) (H : Hp) (E : XK) (q : Addr × Obj), QSs (L2H.cxH CX0 P w K mg base N qual (defScope st) fa cdv A outer s H E q).nox W0 (defBody st) b
section
variable {X : Cx} {x : Str} {n : Nat} {f : FS} {e : Expr} {es : List Expr} {p pos : Pos} {t : TA}
theorem pe_hot (F : Hotf X.prog X.w X.K X.mg X.base x n f) {q : Addr × Obj} (hq : q ∈ X.pn) (hd : X.A.depth < recursionLimit) (hg : Gl X x) (ha : PA X (e :: es) t) (hdb : (x == ("__debug__" : Str)) = false := by decide)
    (he : starEach (e :: es) X.env = (false, eval e X.env) :: starEach es X.env := by rfl) (hpl : (backTo pos (starEach es X.env)).any (·.1) = false := by rfl) : PE X (.Call (.Name x p) (e :: es) [] pos) (tCallS (SpQ X.K n f) (fun _ => E0) t) := by
  obtain ⟨qual, st, fa, fd, N, ps, b, G, S, hps, hfs, hm, hbd, hb⟩ := F.ex
  refine ⟨fun pins s σ H Q I h => ?_⟩
  refine wpAny_Call_Name_kw (ld_glob I hg hm ?_ hdb)
  refine PySem.W.callWith_K (h₀ := X.base) I.ok.mod.kin G.kp (thn (ha.run pos pins s σ H _ I h) fun us s1 ⟨vs, H1, I1, r, z⟩ => ⟨I1.kIn, ?_⟩) he hpl
  obtain ⟨hl, φ, m, xs, z1, z2, z3⟩ := z
  obtain ⟨oc, od, kV, doc, pm, an, cdv, ct, osl, rfl, lk, hcd⟩ := G.ex
  have hlv : vs.length = ps.length := hl.trans hps.symm
  have hlu : us.length = ps.length := by rw [← r.length]; exact hlv
  have bd := hbd s1 us I1.kIn (by rw [List.append_nil]; exact hlu)
  rw [List.append_nil] at bd
  have P1 := I1.pin q (List.mem_append_left _ hq)
  have hpin : L2H.PinOk X.stack H1 s1 q := ⟨P1.1, P1.2.1, fun hmm => (List.mem_cons.mp (I1.stkSub q.1 hmm)).elim P1.2.2.1 P1.2.2.2.1, P1.2.2.2.2⟩
  have e0 := I1.env0
  have KX : X.K.In s1.heap := e0.mod.kin.keeps fun b o e => (e0.bs b o e).1
  have lim : s1.heap.NoLimit := e0.mod.nolimit.keeps fun b o e => (e0.bs b o e).1
  have hkind : ∀ y ∈ ps.zip us, (defScope st).names.lookup y.1 = some .local ∨ ((defScope st).names.lookup y.1 = some .cell ∧ ((cellsFrom (s1.heap.objs.size + 1) (defScope st).names []).lookup y.1).isSome = true) := fun y hy => by
    rcases S.par y.1 (List.of_mem_zip hy).1 with k | k
    · exact .inl k
    · exact .inr ⟨k, PySem.W.cellsFrom_some _ _ _ (.inl k)⟩
  have main : codeAny (model X.prog X.w) X.A (.call (.ref fa) ⟨us, []⟩) (CR CX0 X.stack X.prog X.w H1 s1 Q E0) s1 := by
    refine codeAny_call_function hd (KX _ _ lk) rfl S.co S.gen rfl (PySem.W.codeRec_of KX hcd) (bd _ _ _ _ ?_)
    refine wpAny_newFunctionEnv_cells S.kind hkind fun env he s2 y => ?_
    subst he
    refine ⟨lim.keeps y.toInCall.keep, codeAny_func ?_⟩
    have J := L2H.inv_startH (CX := CX0) (E := E0) (mg := X.mg) (base := X.base) (qual := qual) S hpin e0 hlv r y
    have hle : ps.length ≤ N.length := by
      have := congrArg List.length S.pre
      rw [List.length_take] at this
      omega
    have hxl : xs.length = ps.length := by rw [← z2.length]; exact hlv
    have bod := (hb cdv X.A X.stack s1 H1 E0 q).ps.nox
    rw [hfs] at z3
    unfold fnS at z3
    rw [if_pos (hxl.trans hps)] at z3
    refine wpAny_mono (bod.run [] s2 (L2.start N vs) H1 { nx := fun _ H' => Q .non H', rt := Q } J ⟨φ, _, m, z1, rl_start hle z2 hxl, ?_⟩) (fun fl s' hs => ?_) fun e s' hs => hs
    · rw [← hps] at z3
      cases hbb : b (xs.map some ++ List.replicate (N.length - ps.length) none) m with
      | nx l m' => rw [hbb] at z3; exact fun φ' σ' H' x a b => z3 φ' H' _ x a rfl
      | rt y m' => rw [hbb] at z3; exact z3
      | bk l m' => rw [hbb] at z3; exact z3.elim
      | ct l m' => rw [hbb] at z3; exact z3.elim
      | ex c fs l m' => rw [hbb] at z3; exact z3.elim
      | bad => rw [hbb] at z3; exact z3.elim
    · cases fl with
      | ret u =>
        obtain ⟨v, σ', H', J', rv, k⟩ := hs
        exact ⟨v, H', J'.os, J'.bare, J'.base, J'.hok, rv, k⟩
      | next =>
        obtain ⟨σ', H', J', k⟩ := hs
        exact ⟨.non, H', J'.os, J'.bare, J'.base, J'.hok, rfl, k⟩
      | brk =>
        obtain ⟨_, _, _, k⟩ := hs
        exact k.elim
      | cont =>
        obtain ⟨_, _, _, k⟩ := hs
        exact k.elim
  refine wpAny_call (codeAny_mono main fun r s' hr => ?_)
  cases r with
  | error e => exact False.elim hr
  | ok fl =>
    cases fl with
    | ret u => exact I1.after hr
    | next => exact False.elim hr
    | brk => exact False.elim hr
    | cont => exact False.elim hr
end
/-! ## try: .. except C as n: return g(n.f, y) -/
def xTryB (cn : String) (i j : Nat) (g : FS) (sb : SS) : SS := fun l m => match sb l m with
  | .ex c [y] l' m' => if c = cn ∧ i < l'.length ∧ i ≠ j then (match l'[j]? with
    | some (some z) => match g [y, z] m' with
      | .ok u m2 => .rt u m2
      | _ => .bad
    | _ => .bad) else .bad
  | .ex _ _ _ _ => .bad
  | r => r
section
variable {X : Cx} {W : XM} {body : List Stmt} {sb : SS} {x n fn xg y : Str} {cn : String} {C : Addr} {i j k : Nat} {g : FS} {np p1 p2 p3 p4 p5 p6 pos pos' : Pos}
theorem x_tryB (i j : Nat) (hs : X.stack = X.env :: X.outer) (hf : X.env.frame = some X.env.locals) (hN : X.N.Nodup) (hi : X.N[i]? = some n) (hln : X.env.kindOf n = some .local) (hj : X.N[j]? = some y) (T : ExcT X.prog X.w X.K X.mg X.base x C fn) (hg : Gl X x) (hr : Room k X.A) (G : Hotf X.prog X.w X.K X.mg X.base xg 2 g) (hgg : Gl X xg)
    (hb : ∀ (Wx : WX) (pn : List (Addr × Obj)) (xe : Value → Shared → Prop), Takes (X.tr pn xe) Wx → PassesOwn (model X.prog X.w) X.A X.env xe → QSs (X.tr pn xe) (WTx X.K C cn fn Wx) body sb)
    (hv : Vis X.env.scope n) (hvj : Vis X.env.scope y) (hab : attributeBase (.Name n p1) fn X.env (eval (.Name n p1) X.env) = eval (.Name n p1) X.env) (hdb : (x == ("__debug__" : Str)) = false := by decide) (hdn : (n == ("__debug__" : Str)) = false := by decide) (hcd : (n == ("__classdict__" : Str)) = false := by decide)
    (hdy : (y == ("__debug__" : Str)) = false := by decide) (hcy : (y == ("__classdict__" : Str)) = false := by decide) (hdg : (xg == ("__debug__" : Str)) = false := by decide)
    (he : ∀ a pn, starEach [.Attribute (.Name n p1) fn p2, .Name y p4] (X.suite a pn).env = (false, eval (.Attribute (.Name n p1) fn p2) (X.suite a pn).env) :: starEach [.Name y p4] (X.suite a pn).env := by intros; rfl)
    (he2 : ∀ a pn, starEach [.Name y p4] (X.suite a pn).env = (false, eval (.Name y p4) (X.suite a pn).env) :: starEach [] (X.suite a pn).env := by intros; rfl)
    (hpl : ∀ a pn, (backTo p5 (starEach [.Name y p4] (X.suite a pn).env)).any (·.1) = false := by intros; rfl) :
    QS X W (.Try body [.ExceptHandler (some (.Name x np)) (some n) [.Return (some (.Call (.Name xg p6) [.Attribute (.Name n p1) fn p2, .Name y p4] [] p5)) p3] pos'] [] [] pos) (xTryB cn i j g sb) :=
  ⟨ps_imp (ps_try_as (tb := fun Wx => RdS X.K (WTx X.K C cn fn Wx) sb) (ts := fun a cls d D σ H => tCallS (SpQ X.K 2 g) (fun _ => E0) (tCons (tXf a cls d C fn (tVar i)) (tCons (tVar j) tNil)) σ H D.rt) hs hf hN hi hln ⟨hg, hdb, .inl T.gC⟩ (L2.takes0 (X := X)) (fun Wx pn xe tk po => (hb Wx pn xe tk po).ps)
    (fun a oe cls d pn hz hff => pss_one (ps_ret (pe_hot (X := X.suite a ((a, oe) :: pn)) G (q := (a, oe)) List.mem_cons_self (show L2H.RoomH k (X.A.mark (some (.ref a))) from ⟨hr.dp, hr.un⟩).depth hgg
      (pa_cons (pe_xf T.xf T.no hz hff (pe_var (i := i) hi hv hdn hcd) hab) (pa_cons (pe_var (i := j) hj hvj hdy hcy) pa_nil (he2 a _)) (he a _)) hdg (he a _) (hpl a _))))) fun D σ H ⟨φ, l, m, h1, h2, h3⟩ => by
    refine ⟨φ, l, m, h1, h2, ?_⟩
    unfold xTryB at h3
    cases hsb : sb l m with
    | nx l' m' => rw [hsb] at h3; exact h3
    | rt y m' => rw [hsb] at h3; exact h3
    | bk l' m' => rw [hsb] at h3; exact h3
    | ct l' m' => rw [hsb] at h3; exact h3
    | bad => rw [hsb] at h3; exact h3
    | ex c fs l' m' =>
      rw [hsb] at h3
      match fs, h3 with
      | [], h3 => exact h3.elim
      | [y], h3 =>
        dsimp only at h3
        by_cases hz : c = cn ∧ i < l'.length ∧ i ≠ j
        · rw [if_pos hz] at h3
          cases hlj : l'[j]? with
          | none => rw [hlj] at h3; exact h3.elim
          | some o =>
          cases o with
          | none => rw [hlj] at h3; exact h3.elim
          | some z =>
          rw [hlj] at h3
          dsimp only at h3
          intro φ1 σ1 H1 x1 a1 b1
          refine ⟨y, hz.1, rfl, fun φ2 H2 d v x2 a2 b2 r2 e2 => ⟨true, T.te, fun _ a na => ?_, fun z => by cases z⟩⟩
          have hil : i < σ1.length := by rw [← b2.1]; exact hz.2.1
          obtain ⟨w, w1, w2⟩ := b2.2 j z hlj
          have w3 : (σ1.set i (some (V.ref a)))[j]? = some (some w) := by rw [List.getElem?_set_ne hz.2.2]; exact w1
          refine ⟨.ref a, List.getElem?_set_self hil, rfl, rfl, d, [(fn, v)], v, rfl, e2, by simp [List.lookup], w, w3, rfl, φ2, m', [y, z], a2, ⟨v, [w], rfl, r2, ⟨w, [], rfl, w2, rfl⟩⟩, ?_⟩
          cases hgu : g [y, z] m' with
          | ok u m2 =>
            rw [hgu] at h3
            exact fun φ3 H3 v3 x3 a3 r3 => h3 φ3 H3 v3 ((x1.trans x2).trans x3) a3 r3
          | ex c2 fs2 m2 => rw [hgu] at h3; exact h3.elim
          | bad => rw [hgu] at h3; exact h3.elim
        · rw [if_neg hz] at h3; exact h3.elim
      | _ :: _ :: _, h3 => exact h3.elim⟩
end
end SM

set_option Elab.async false
set_option linter.all false
set_option maxRecDepth 100000
set_option maxHeartbeats 2000000
/-! SM16: sorted of any alike data; dicts whose keys are pairs. -/
namespace SM
open PySem PySem.Spec PyProof.Rows L2
/-! ## sorted, over the library's values -/
def rSortD (K : PySem.W.Frag) : List V → Hp → VK → Prop := fun vs H Q => ∃ (a : Addr) (zs : List (V × PyData)), vs = [.ref a] ∧ SqL K H a (zs.map (·.1)) ∧ (∀ z ∈ zs, Dp K H z.1 z.2) ∧ PySem.W.AllAlike (zs.map (·.2)) ∧ PySem.W.Sortable (zs.map (·.2)) ∧
  (∀ z ∈ zs, z.2.depth ≤ 60) ∧ ∀ p, H p = none → Q (.ref p) (upd H p (.lst ((zs.mergeSort (PySem.W.dataLe false (·.2))).map (·.1))))
theorem each_vals : ∀ {zs : List (V × PyData)} {us : List Value}, Vals (zs.map (·.1)) us → PySem.W.EachIs (fun u (z : V × PyData) => RelV z.1 u) us zs
  | [], _, h => by cases h; exact .nil
  | z :: zs, _, h => by
    rw [List.map_cons] at h
    cases h with
    | cons h1 h2 => exact .cons h1 (each_vals h2)
theorem vals_each : ∀ {zs : List (V × PyData)} {us : List Value}, PySem.W.EachIs (fun u (z : V × PyData) => RelV z.1 u) us zs → Vals (zs.map (·.1)) us
  | _, _, .nil => .nil
  | _, _, .cons h1 h2 => .cons h1 (vals_each h2)
section
variable {X : Cx}
theorem each_reads {pins : List (Addr × Obj)} {s : Shared} {σ : L2.St} {H : Hp} (I : Inv X pins σ H s) : ∀ {zs : List (V × PyData)} {us : List Value}, Vals (zs.map (·.1)) us → (∀ z ∈ zs, Dp X.K H z.1 z.2) → PySem.W.EachIs (fun u (z : V × PyData) => ∃ as, Reads s.heap u z.2 as) us zs
  | [], _, h, _ => by cases h; exact .nil
  | z :: zs, _, h, d => by
    rw [List.map_cons] at h
    cases h with
    | cons h1 h2 => exact .cons (Dp.reads I _ _ _ (d z List.mem_cons_self) h1) (each_reads I h2 fun z hz => d z (List.mem_cons_of_mem _ hz))
theorem cr_sortD {k : Nat} (hr : Room k X.A) : CallR X (.builtin "sorted") (rSortD X.K) := by
  intro pins s σ H vs us Q I r h
  obtain ⟨a, zs, rfl, hs, hd, hal, hso, hdp, q⟩ := h
  obtain ⟨its, rv, hl, hz⟩ := I.list hs
  obtain ⟨u, rfl, ru⟩ := vals1 r
  obtain rfl : u = Value.ref a := ru
  have hlen : zs.length ≤ sizeLine := by rw [List.length_map] at hz; exact hz
  refine PySem.W.sorted_data (R := fun u (z : V × PyData) => RelV z.1 u) (enc := fun z => z.2) (bs := zs) hl.isList (each_vals rv) (each_reads I rv hd) hal hso hlen (fun z hz => ?_) fun out ho hout => ?_
  · have := hdp z hz
    have := hr.units
    omega
  · obtain ⟨e, he⟩ := PyProof.Rows.sortedAll_at s.heap its (List.toArray out)
    have hv := vals_each hout
    refine ⟨.ref (s.heap.objs.size + 1), upd H (s.heap.objs.size + 1) (.lst ((zs.mergeSort (PySem.W.dataLe false (·.2))).map (·.1))), I.laid (t' := s.toks) (fun b o q => PyProof.Rows.sortedAll_old q) (Nat.le_succ _) ⟨?_, out, e, hv, he⟩, rfl, q _ (I.hok.fresh (Nat.le_succ _))⟩
    rw [List.length_map, List.length_mergeSort]
    exact hlen
end
/-! ## sorted, over the reckoning's values -/
def dOf (m : MH) (x : PV) : PyData := (toD m 8 x).getD .none
noncomputable def sortD (m : MH) (xs : List PV) : List PV := ((xs.map fun x => (x, dOf m x)).mergeSort (PySem.W.dataLe false (·.2))).map (·.1)
structure SortOk (m : MH) (xs : List PV) : Prop where
  rd : ∀ x ∈ xs, ∃ d, toD m 8 x = some d
  al : PySem.W.AllAlike (xs.map (dOf m))
  so : PySem.W.Sortable (xs.map (dOf m))
  dp : ∀ x ∈ xs, (dOf m x).depth ≤ 60
theorem sortD_perm {m : MH} {xs : List PV} : (sortD m xs).Perm xs := by
  have h := (List.mergeSort_perm (xs.map fun x => (x, dOf m x)) (PySem.W.dataLe false (·.2))).map (·.1)
  rw [List.map_map] at h
  have e : (Prod.fst ∘ fun x => (x, dOf m x)) = (id : PV → PV) := rfl
  rw [e, List.map_id] at h
  exact h
theorem sortD_len {m : MH} {xs : List PV} : (sortD m xs).length = xs.length := sortD_perm.length_eq
/-- the sorted values' order -/
theorem sortD_pair {m : MH} {xs : List PV} : (sortD m xs).Pairwise fun a b => PySem.W.dataLe false (dOf m) a b = true := by
  have h := PySem.W.sort_pairwise (PySem.W.sortLe_total (PyProof.Rows.listOrd PyProof.Rows.itemOrd) false fun z : PV × PyData => PySem.W.keyToks z.2) (xs.map fun x => (x, dOf m x))
  unfold sortD
  rw [List.pairwise_map]
  refine List.Pairwise.imp_of_mem ?_ h
  intro a b ha hb h
  have ha := List.mem_map.mp ((List.mergeSort_perm _ _).mem_iff.mp ha)
  have hb := List.mem_map.mp ((List.mergeSort_perm _ _).mem_iff.mp hb)
  obtain ⟨x, _, rfl⟩ := ha
  obtain ⟨y, _, rfl⟩ := hb
  exact h
open Classical in
noncomputable def sortedDv : List PV → MH → OR
  | [.ref n], m => match seq? m n with
    | some xs => if SortOk m xs then some (.ref m.length, m ++ [.lst (sortD m xs)]) else none
    | none => none
  | _, _ => none
section
variable {K : PySem.W.Frag} {H : Hp} {φ : List Addr}
/-- the values together with their data -/
theorem zip_data {m : MH} (h : RH K H φ m) : ∀ {xs : List PV} {ws : List V}, RVs K H φ xs ws → (∀ x ∈ xs, ∃ d, toD m 8 x = some d) →
    ∃ zs : List (V × PyData), zs.map (·.1) = ws ∧ zs.map (·.2) = xs.map (dOf m) ∧ (∀ z ∈ zs, Dp K H z.1 z.2) ∧ PySem.W.EachIs (fun (p : PV × PyData) (z : V × PyData) => RV K H φ p.1 z.1 ∧ p.2 = z.2) (xs.map fun x => (x, dOf m x)) zs
  | [], _, r, _ => by cases r; exact ⟨[], rfl, rfl, (fun z hz => nomatch hz), .nil⟩
  | x :: xs, _, r, d => by
    obtain ⟨v, ws, rfl, r1, r2⟩ := r
    obtain ⟨zs, e1, e2, e3, e4⟩ := zip_data h r2 fun y hy => d y (List.mem_cons_of_mem _ hy)
    obtain ⟨dx, hd⟩ := d x List.mem_cons_self
    have ed : dOf m x = dx := by unfold dOf; rw [hd]; rfl
    refine ⟨(v, dx) :: zs, by rw [List.map_cons, e1], by rw [List.map_cons, List.map_cons, e2, ed], fun z hz => ?_, ?_⟩
    · rcases List.mem_cons.mp hz with rfl | hz
      · exact dp_of h 8 x v dx r1 hd
      · exact e3 z hz
    · rw [List.map_cons, ed]
      exact .cons ⟨r1, rfl⟩ e4
theorem rvs_each : ∀ {ps : List (PV × PyData)} {zs : List (V × PyData)}, PySem.W.EachIs (fun (p : PV × PyData) (z : V × PyData) => RV K H φ p.1 z.1 ∧ p.2 = z.2) ps zs → RVs K H φ (ps.map (·.1)) (zs.map (·.1))
  | _, _, .nil => rfl
  | _, _, .cons h1 h2 => ⟨_, _, rfl, h1.1, rvs_each h2⟩
theorem sort_rvs {m : MH} (h : RH K H φ m) {xs : List PV} {ws : List V} (r : RVs K H φ xs ws) (ok : SortOk m xs) :
    ∃ zs : List (V × PyData), zs.map (·.1) = ws ∧ (∀ z ∈ zs, Dp K H z.1 z.2) ∧ PySem.W.AllAlike (zs.map (·.2)) ∧ PySem.W.Sortable (zs.map (·.2)) ∧ (∀ z ∈ zs, z.2.depth ≤ 60) ∧ RVs K H φ (sortD m xs) ((zs.mergeSort (PySem.W.dataLe false (·.2))).map (·.1)) := by
  obtain ⟨zs, e1, e2, e3, e4⟩ := zip_data h r ok.rd
  refine ⟨zs, e1, e3, by rw [e2]; exact ok.al, by rw [e2]; exact ok.so, fun z hz => ?_, ?_⟩
  · have : z.2 ∈ zs.map (·.2) := List.mem_map.mpr ⟨z, hz, rfl⟩
    rw [e2] at this
    obtain ⟨x, hx, e⟩ := List.mem_map.mp this
    rw [← e]
    exact ok.dp x hx
  · exact rvs_each (PySem.W.sort_each e4 fun p hp q hq => by
      have h1 := e4.zip p hp
      have h2 := e4.zip q hq
      show PySem.W.dataLe false (fun z : PV × PyData => z.2) p.1 q.1 = PySem.W.dataLe false (fun z : V × PyData => z.2) p.2 q.2
      unfold PySem.W.dataLe PySem.W.sortLe
      dsimp only
      rw [h1.2, h2.2])
end
section
variable {X : Cx} {k : Nat}
theorem c_sortedD (hr : Room k X.A) : CrQ X (.builtin "sorted") sortedDv := .of fun vs H Q φ m xs h1 h2 h4 => by
  unfold sortedDv at h4
  split at h4
  · obtain ⟨v, rfl, r⟩ := h2.one
    rename_i n
    cases hq : seq? m n with
    | none => rw [hq] at h4; exact h4.not.elim
    | some xs =>
      rw [hq] at h4
      obtain ⟨a, ws, rfl, q1, q2⟩ := h1.seq r hq
      dsimp only at h4
      by_cases ok : SortOk m xs
      · rw [if_pos ok] at h4
        obtain ⟨zs, e1, e2, e3, e4, e5, e6⟩ := sort_rvs h1 q2 ok
        subst e1
        exact ⟨_, cr_sortD hr, a, zs, rfl, q1, e2, e3, e4, e5, fun p hn => h4.newL h1 e6 p hn⟩
      · rw [if_neg ok] at h4
        exact h4.not.elim
  · exact h4.not.elim
end
/-! ## dicts -/
def putD {κ : Type} [DecidableEq κ] (kvs : List (κ × PV)) (k : κ) (v : PV) : List (κ × PV) :=
  if (kvs.any fun p => decide (p.1 = k)) = true then kvs.map (fun p => if p.1 = k then (p.1, v) else p) else kvs ++ [(k, v)]
def getD {κ : Type} [DecidableEq κ] (kvs : List (κ × PV)) (k : κ) : Option PV := (kvs.find? fun p => decide (p.1 = k)).map (·.2)
theorem encT_inj {a b : List Int} : encT a = encT b ↔ a = b := by
  unfold encT
  constructor
  · intro h
    induction a generalizing b with
    | nil => cases b with
      | nil => rfl
      | cons y b => cases h
    | cons x a ih => cases b with
      | nil => cases h
      | cons y b =>
        rw [List.map_cons, List.map_cons] at h
        injection h with h1 h2
        rw [Sum.inl.inj h1, ih h2]
  · rintro rfl; rfl
theorem encK_inj {a b : Int} : encK a = encK b ↔ a = b := ⟨fun h => Sum.inl.inj h, fun h => by rw [h]⟩
section
variable {K : PySem.W.Frag} {H : Hp} {φ : List Addr} {κ κ' : Type} [DecidableEq κ] [DecidableEq κ'] {enc : κ → κ'}
theorem rks_len : ∀ {kvs : List (κ × PV)} {ws : List (κ' × V)}, RKs K H φ enc kvs ws → ws.length = kvs.length
  | [], _, h => by cases h; rfl
  | p :: r, _, h => by obtain ⟨v, t, rfl, _, h3⟩ := h; simp [rks_len h3]
theorem rks_get (inj : ∀ {a b}, enc a = enc b ↔ a = b) {k : κ} {x : PV} : ∀ {kvs : List (κ × PV)} {ws : List (κ' × V)}, RKs K H φ enc kvs ws → getD kvs k = some x → ∃ v, valV ws (enc k) = some v ∧ RV K H φ x v
  | [], _, h, e => by cases e
  | p :: r, _, h, e => by
    obtain ⟨v, t, rfl, h2, h3⟩ := h
    unfold getD at e
    rw [List.find?_cons] at e
    by_cases c : p.1 = k
    · rw [decide_eq_true c] at e
      cases e
      exact ⟨v, valV_pos (by rw [c]), h2⟩
    · rw [decide_eq_false c] at e
      obtain ⟨w, e1, e2⟩ := rks_get inj (k := k) h3 e
      exact ⟨w, by rw [valV_neg (by intro z; exact c (inj.mp z))]; exact e1, e2⟩
theorem rks_any (inj : ∀ {a b}, enc a = enc b ↔ a = b) {k : κ} : ∀ {kvs : List (κ × PV)} {ws : List (κ' × V)}, RKs K H φ enc kvs ws → (ws.any fun p => decide (p.1 = enc k)) = kvs.any fun p => decide (p.1 = k)
  | [], _, h => by cases h; rfl
  | p :: r, _, h => by
    obtain ⟨v, t, rfl, h2, h3⟩ := h
    rw [List.any_cons, List.any_cons, rks_any inj h3]
    congr 1
    exact decide_eq_decide.mpr inj
theorem rks_rep (inj : ∀ {a b}, enc a = enc b ↔ a = b) {k : κ} {x : PV} {v : V} (q : RV K H φ x v) : ∀ {kvs : List (κ × PV)} {ws : List (κ' × V)}, RKs K H φ enc kvs ws →
    RKs K H φ enc (kvs.map fun p => if p.1 = k then (p.1, x) else p) (ws.map fun p => if p.1 = enc k then (p.1, v) else p)
  | [], _, h => by cases h; rfl
  | p :: r, _, h => by
    obtain ⟨u, t, rfl, h2, h3⟩ := h
    rw [List.map_cons, List.map_cons]
    by_cases c : p.1 = k
    · rw [if_pos c, if_pos (by rw [c])]
      exact ⟨v, _, rfl, q, rks_rep inj q h3⟩
    · rw [if_neg c, if_neg (by intro z; exact c (inj.mp z))]
      exact ⟨u, _, rfl, h2, rks_rep inj q h3⟩
theorem rks_snoc {k : κ} {x : PV} {v : V} (q : RV K H φ x v) : ∀ {kvs : List (κ × PV)} {ws : List (κ' × V)}, RKs K H φ enc kvs ws → RKs K H φ enc (kvs ++ [(k, x)]) (ws ++ [(enc k, v)])
  | [], _, h => by cases h; exact ⟨v, [], rfl, q, rfl⟩
  | p :: r, _, h => by
    obtain ⟨u, t, rfl, h2, h3⟩ := h
    exact ⟨u, _, rfl, h2, rks_snoc q h3⟩
theorem rks_put (inj : ∀ {a b}, enc a = enc b ↔ a = b) {k : κ} {x : PV} {v : V} (q : RV K H φ x v) {kvs : List (κ × PV)} {ws : List (κ' × V)} (h : RKs K H φ enc kvs ws) : RKs K H φ enc (putD kvs k x) (putK ws (enc k) v) := by
  unfold putD putK
  rw [rks_any inj h]
  by_cases c : (kvs.any fun p => decide (p.1 = k)) = true
  · rw [if_pos c, if_pos c]; exact rks_rep inj q h
  · rw [if_neg c, if_neg c]; exact rks_snoc q h
end
def sDNewT : SE := fun _ m => .ok (.ref m.length) (m ++ [.dct []])
def sDNewK : SE := fun _ m => .ok (.ref m.length) (m ++ [.dck []])
/-- d[x, y] = v -/
def xDPutT (sv sd : SE) (sk : SA) : SS := fun l m => R.then l (sv l m) fun v m1 => R.then l (sd l m1) fun x m2 => R.then l (sk l m2) fun ks m3 => match x, ks with
  | .ref n, [.int a, .int b] => match m3[n]? with
    | some (.dct kvs) => if kvs.length < 16777216 then .nx l (m3.set n (.dct (putD kvs [a, b] v))) else .bad
    | _ => .bad
  | _, _ => .bad
/-- d[i] = v -/
def xDPutK (sv sd sk : SE) : SS := fun l m => R.then l (sv l m) fun v m1 => R.then l (sd l m1) fun x m2 => R.then l (sk l m2) fun k m3 => match x, k with
  | .ref n, .int k => match m3[n]? with
    | some (.dck kvs) => if kvs.length < 16777216 then .nx l (m3.set n (.dck (putD kvs k v))) else .bad
    | _ => .bad
  | _, _ => .bad
/-- d[key] -/
def dgetv : PV → PV → MH → OR
  | .ref n, .tup [.int a, .int b], m => match m[n]? with
    | some (.dct kvs) => (getD kvs [a, b]).map fun x => (x, m)
    | _ => none
  | _, _, _ => none
theorem ints_of : ∀ {xs : List PV} {k : List Int}, ints? xs = some k → xs = k.map .int
  | [], _, h => by cases h; rfl
  | .int i :: xs, _, h => by
    unfold ints? at h
    cases hx : ints? xs with
    | none => rw [hx] at h; cases h
    | some ms => rw [hx] at h; cases h; rw [ints_of hx]; rfl
theorem kV_ints (k : List Int) : k.map V.int = (encT k).map kV := by
  unfold encT
  rw [List.map_map]
  rfl
section
variable {X : Cx} {W : XM} {pos pos' pt : Pos} {value o i : Expr} {sv sd sk : SE} {ska : SA} {es : List Expr} {k k2 : Nat}
theorem q_dnewT : QE X W (.Dict [] [] pos) sDNewT :=
  ⟨pe_imp pe_dnewT fun σ H Q ⟨φ, l, m, h1, h2, h3⟩ p n => by
    have e : Ext X.K φ H (φ ++ [p]) (upd H p (.dT [])) := ⟨⟨[p], rfl⟩, fun a ws w => sqt_upd_new n w⟩
    exact h3 (φ ++ [p]) _ _ e (h1.newO n e ⟨[], upd_same, rfl⟩) ⟨p, by simp [← h1.len], rfl⟩⟩
theorem q_dnewK : QE X W (.Dict [] [] pos) sDNewK :=
  ⟨pe_imp pe_dnewK fun σ H Q ⟨φ, l, m, h1, h2, h3⟩ p n => by
    have e : Ext X.K φ H (φ ++ [p]) (upd H p (.dK [])) := ⟨⟨[p], rfl⟩, fun a ws w => sqt_upd_new n w⟩
    exact h3 (φ ++ [p]) _ _ e (h1.newO n e ⟨[], upd_same, rfl⟩) ⟨p, by simp [← h1.len], rfl⟩⟩
theorem x_dputT (hr : Room k X.A) (hv : QE X W value sv) (ho : QE X W o sd) (hi : QA X W es ska) (hs : swapsWith value (some (.Subscript o (.Tuple es k2 pt) pos')) pos.line X.env = pure false := by rfl) :
    QS X W (.Assign [.Subscript o (.Tuple es k2 pt) pos'] value pos) (xDPutT sv sd ska) :=
  ⟨ps_imp (ps_dput (by have := hr.units; omega) ho.pe (pe_tup hi.pa) hv.pe hs) fun D σ H ⟨φ, l, m, h1, h2, h3⟩ => by
    refine ⟨φ, l, m, h1, h2, (PostS.then (rel := rV X.K) h2 h3).mono ?_⟩
    rintro v H1 ⟨φ1, x, m1, e1, a1, b1, c1, d1⟩
    refine ⟨φ1, l, m1, a1, b1, (PostS.then (rel := rV X.K) b1 d1).mono ?_⟩
    rintro w H2 ⟨φ2, y, m2, e2, a2, b2, c2, d2⟩
    refine ⟨φ2, l, m2, a2, b2, (PostS.then (rel := rA X.K) b2 d2).mono ?_⟩
    rintro us H3 ⟨φ3, ks, m3, e3, a3, b3, c3, d3⟩
    split at d3
    · rename_i n a b
      split at d3
      · rename_i kvs hm
        by_cases hl : kvs.length < 16777216
        · rw [if_pos hl] at d3
          obtain ⟨ad, ha, rfl⟩ := RV.ext e3 c2
          obtain ⟨ws, q1, q2⟩ := a3.obj n ad _ ha hm
          have eus : us = (encT [a, b]).map kV := by
            obtain ⟨u1, r1, rfl, t1, u2, r2, rfl, t2, t3⟩ := c3
            cases t1; cases t2; cases t3
            rfl
          refine ⟨by rw [c3.length]; show 2 ≤ sizeLine; decide, fun p hp => ?_⟩
          obtain ⟨x1, x2, x3⟩ := a3.newT hp c3
          have hne : ad ≠ p := ne_of_none q1 hp
          have q1' : upd H3 p (.tup us) ad = some (.dT ws) := by rw [upd_ne hne]; exact q1
          have hwl : ws.length < sizeLine := by rw [rks_len q2, sl_eq]; exact hl
          have cv : RV X.K (upd H3 p (.tup us)) φ3 x v := RV.ext x1 (RV.ext e3 (RV.ext e2 c1))
          obtain ⟨y1, y2⟩ := x2.setM ha hm rfl q1' (fun _ z => by cases z) (fun _ _ z => by cases z) rfl (o2 := .dct (putD kvs [a, b] x)) (u2 := .dT (putK ws (encT [a, b]) v)) fun e => ⟨_, upd_same, rks_put encT_inj (RV.ext e cv) (RKs.ext (x1.trans e) q2)⟩
          exact ⟨ad, _, rfl, DPut.t q1' (by rw [upd_same, eus]) hwl, d3 φ3 σ _ (x1.trans y1) y2 (b3.ext (x1.trans y1))⟩
        · rw [if_neg hl] at d3; exact d3.elim
      · exact d3.elim
    · exact d3.elim⟩
theorem x_dputK (hr : Room k X.A) (hv : QE X W value sv) (ho : QE X W o sd) (hi : QE X W i sk) (hs : swapsWith value (some (.Subscript o i pos')) pos.line X.env = pure false := by rfl) :
    QS X W (.Assign [.Subscript o i pos'] value pos) (xDPutK sv sd sk) :=
  ⟨ps_imp (ps_dput (by have := hr.units; omega) ho.pe hi.pe hv.pe hs) fun D σ H ⟨φ, l, m, h1, h2, h3⟩ => by
    refine ⟨φ, l, m, h1, h2, (PostS.then (rel := rV X.K) h2 h3).mono ?_⟩
    rintro v H1 ⟨φ1, x, m1, e1, a1, b1, c1, d1⟩
    refine ⟨φ1, l, m1, a1, b1, (PostS.then (rel := rV X.K) b1 d1).mono ?_⟩
    rintro w H2 ⟨φ2, y, m2, e2, a2, b2, c2, d2⟩
    refine ⟨φ2, l, m2, a2, b2, (PostS.then (rel := rV X.K) b2 d2).mono ?_⟩
    rintro u H3 ⟨φ3, ky, m3, e3, a3, b3, c3, d3⟩
    split at d3
    · rename_i n a
      split at d3
      · rename_i kvs hm
        by_cases hl : kvs.length < 16777216
        · rw [if_pos hl] at d3
          obtain ⟨ad, ha, rfl⟩ := RV.ext e3 c2
          obtain ⟨ws, q1, q2⟩ := a3.obj n ad _ ha hm
          cases c3
          have hwl : ws.length < sizeLine := by rw [rks_len q2, sl_eq]; exact hl
          obtain ⟨y1, y2⟩ := a3.setM ha hm rfl q1 (fun _ z => by cases z) (fun _ _ z => by cases z) rfl (o2 := .dck (putD kvs a x)) (u2 := .dK (putK ws (encK a) v)) fun e => ⟨_, upd_same, rks_put encK_inj (RV.ext e (RV.ext e3 (RV.ext e2 c1))) (RKs.ext e q2)⟩
          exact ⟨ad, _, rfl, (show DPut H3 ad (kV (encK a)) v _ from DPut.k q1 hwl), d3 φ3 σ _ y1 y2 (b3.ext y1)⟩
        · rw [if_neg hl] at d3; exact d3.elim
      · exact d3.elim
    · exact d3.elim⟩
/-! a dict's value at a key that is a tuple of any kind -/
def tDGetS (K : PySem.W.Frag) (td ty : TE) : TE := fun σ H Q => td σ H fun x H1 => ty σ H1 fun y H2 => ∃ (a b : Addr) (kvs : List (List Key × V)) (k : List Key) (v : V), x = .ref a ∧ y = .ref b ∧ H2 a = some (.dT kvs) ∧ SqT K H2 b (k.map kV) ∧ valV kvs k = some v ∧ Q v H2
theorem pe_dgetS {td ty : TE} (hu : X.A.units + 1 < cLine) (ho : PE X o td) (hi : PE X i ty) (hs : NoSl i) : PE X (.Subscript o i pos) (tDGetS X.K td ty) := by
  refine ⟨fun pins s σ H Q I h => ?_⟩
  refine subD_of PySem.F.slot_dict_getitem.lookup hs (thn (ho.run pins s σ H _ I h) fun u s1 ⟨x, H1, I1, rx, q1⟩ => thn (hi.run pins s1 σ H1 _ I1 q1) fun iv s2 ⟨y, H2, I2, ry, a, b, kvs, k, v, ex, ey, hd, hk, hv, q2⟩ => ?_)
  subst ex ey
  obtain rfl : u = Value.ref a := rx
  obtain rfl : iv = Value.ref b := ry
  obtain ⟨z, hsm, xs, rel, dd⟩ := dt_of I2.hok hd
  obtain ⟨its, r, ⟨ob, hob, hc, n, hdt⟩, _⟩ := I2.tuple hk
  obtain ⟨od, es, ep, hod, hx, _⟩ := id dd
  obtain ⟨w', hw, rw'⟩ := RelO.some_of (v := v) (o := (atKey xs k).map (·.2)) (by rw [← hv]; exact rel.val k)
  obtain ⟨p, hp, hp2⟩ := Option.map_eq_some_iff.mp hw
  have key : (tupleKind (mixKind X.prog X.w)).is s2.heap k b := ⟨ob, its.toArray, n, hob, hc, hdt, by simpa using items_are r⟩
  refine ⟨⟨od, hod, hx.1⟩, wpAny_getItem_heap (tupleKind_room_in1 hu) key dd hp ?_⟩
  rw [hp2]
  exact ⟨v, H2, I2.tok _, rw', q2⟩
theorem q_dget (hr : Room k X.A) (ho : QE X W o sd) (hi : QE X W i sk) (hs : NoSl i) : QE X W (.Subscript o i pos) (sOp dgetv sd sk) :=
  ⟨pe_imp (pe_dgetS (by have := hr.units; omega) ho.pe hi.pe hs) fun σ H Q h => (two h).mono fun v H1 h1 => Rdg.mono h1 fun w H2 ⟨φ, m, x, y, _, c1, c2, c3, c4⟩ => by
    unfold dgetv at c4
    split at c4
    · rename_i n a b
      split at c4
      · rename_i kvs hm
        cases hg : getD kvs [a, b] with
        | none => rw [hg] at c4; exact c4.elim
        | some z =>
          rw [hg] at c4
          obtain ⟨ad, ha, rfl⟩ := c2
          obtain ⟨ws, q1, q2⟩ := c1.obj n ad _ ha hm
          obtain ⟨bd, us, rfl, t1, t2⟩ := c3
          have eus : us = (encT [a, b]).map kV := by
            obtain ⟨u1, r1, rfl, t3, u2, r2, rfl, t4, t5⟩ := t2
            cases t3; cases t4; cases t5
            rfl
          rw [eus] at t1
          obtain ⟨u, e1, e2⟩ := rks_get encT_inj q2 hg
          exact ⟨ad, bd, ws, _, u, rfl, rfl, q1, t1, e1, c4 φ H2 u Ext.refl c1 e2⟩
      · exact c4.elim
    · exact c4.elim⟩
end
/-! ## sorted of a dict whose keys are pairs -/
def kD : Key → PyData
  | .inl i => .int i
  | .inr x => .str x
def kTD (k : List Key) : PyData := .tuple (k.map kD)
def rSortT : List V → Hp → VK → Prop := fun vs H Q => ∃ (a : Addr) (kvs : List (List Key × V)), vs = [.ref a] ∧ H a = some (.dT kvs) ∧ PySem.W.AllAlike (kvs.map fun p => kTD p.1) ∧ PySem.W.Sortable (kvs.map fun p => kTD p.1) ∧ (∀ p ∈ kvs, (kTD p.1).depth ≤ 60) ∧
  ∀ (zs : List (V × PyData)) (p : Addr), PySem.W.EachIs (fun (kv : List Key × V) (z : V × PyData) => ∃ b, z.1 = .ref b ∧ H b = some (.tup (kv.1.map kV)) ∧ z.2 = kTD kv.1) kvs zs → H p = none → Q (.ref p) (upd H p (.lst ((zs.mergeSort (PySem.W.dataLe false (·.2))).map (·.1))))
theorem each_paired {α β : Type} {R : α → β → Prop} {γ : Type} {S : α → γ → Prop} (f : β → γ) (h : ∀ a b, R a b → S a (f b)) : ∀ {as : List α} {bs : List β}, Paired R as bs → PySem.W.EachIs S as (bs.map f)
  | _, _, .nil => .nil
  | _, _, .cons h1 h2 => .cons (h _ _ h1) (each_paired f h h2)
theorem each_swap {α β γ : Type} {R : α → β → Prop} (f : β → γ) : ∀ {as : List α} {bs : List β}, PySem.W.EachIs R as bs → as.length = bs.length
  | _, _, h => h.length
theorem dp_keys {K : PySem.W.Frag} {H : Hp} : ∀ k : List Key, DpAll K H (k.map kV) (k.map kD)
  | [] => .nil
  | .inl i :: k => .cons (.int i) (dp_keys k)
  | .inr x :: k => .cons (.str x) (dp_keys k)
theorem each_dp {K : PySem.W.Frag} {H : Hp} : ∀ {kvs : List (List Key × V)} {zs : List (V × PyData)}, PySem.W.EachIs (fun (kv : List Key × V) (z : V × PyData) => ∃ b, z.1 = .ref b ∧ H b = some (.tup (kv.1.map kV)) ∧ z.2 = kTD kv.1) kvs zs → (∀ z ∈ zs, Dp K H z.1 z.2) ∧ zs.map (·.2) = kvs.map fun p => kTD p.1
  | _, _, .nil => ⟨fun z hz => (nomatch hz), rfl⟩
  | _, _, .cons (b := z) ⟨b, e1, e2, e3⟩ h2 => by
    obtain ⟨i1, i2⟩ := each_dp (K := K) h2
    refine ⟨fun y hy => ?_, by rw [List.map_cons, List.map_cons, e3, i2]⟩
    rcases List.mem_cons.mp hy with rfl | hy
    · rw [e1, e3]
      exact .tup (.inl (.inl e2)) (dp_keys _)
    · exact i1 y hy
theorem reads_keys {h : Heap} : ∀ {k : List Key} {its : List Value}, Vals (k.map kV) its → ReadsAll h its (k.map kD) []
  | [], _, r => by cases r; exact .nil
  | .inl i :: k, _, r => by
    rw [List.map_cons] at r
    cases r with
    | cons r1 r2 =>
      obtain ⟨t, rfl⟩ := r1
      exact .cons (as := []) (bs := []) (.int i t) (reads_keys r2)
  | .inr x :: k, _, r => by
    rw [List.map_cons] at r
    cases r with
    | cons r1 r2 =>
      obtain ⟨t, rfl⟩ := r1
      exact .cons (as := []) (bs := []) (.str x t) (reads_keys r2)
section
variable {X : Cx}
theorem each_readsT {pins : List (Addr × Obj)} {s : Shared} {σ : L2.St} {H : Hp} (I : Inv X pins σ H s) : ∀ {kvs : List (List Key × V)} {zs : List (V × PyData)} {us : List Value}, PySem.W.EachIs (fun (kv : List Key × V) (z : V × PyData) => ∃ b, z.1 = .ref b ∧ H b = some (.tup (kv.1.map kV)) ∧ z.2 = kTD kv.1) kvs zs →
    Vals (zs.map (·.1)) us → PySem.W.EachIs (fun u (z : V × PyData) => Reads s.heap u z.2 []) us zs
  | _, _, _, .nil, r => by cases r; exact .nil
  | _, _, _, .cons (b := z) ⟨b, e1, e2, e3⟩ h2, r => by
    rw [List.map_cons] at r
    cases r with
    | cons r1 r2 =>
      rw [e1] at r1
      cases r1
      obtain ⟨_, its, rv, o, ho, hc, n, hd⟩ := (show ObjOk X.prog X.w H s.heap b (.tup _) from I.hok b _ e2)
      refine .cons ?_ (each_readsT I h2 r2)
      rw [e3]
      exact .tuple ho hc hd (by simpa using reads_keys rv)
theorem cr_sortT {k : Nat} (hc : X.calm = true) (hr : Room k X.A) : CallR X (.builtin "sorted") rSortT := by
  intro pins s σ H vs us Q I r h
  obtain ⟨d, kvs, rfl, hd, hal, hso, hdp, q⟩ := h
  obtain ⟨u, rfl, rx⟩ := r.one
  cases rx
  obtain ⟨z, hs, ks, pr, o, es, ep, ho, hx, hdt, he, hn⟩ := (show ObjOk X.prog X.w H s.heap d (.dT kvs) from I.hok d _ hd)
  have l1 : es.size = ks.length := size_of_entries he
  have l2 : kvs.length = ks.length := Paired.length pr
  have ez := each_paired (S := fun (kv : List Key × V) (z : V × PyData) => ∃ b, z.1 = .ref b ∧ H b = some (.tup (kv.1.map kV)) ∧ z.2 = kTD kv.1) (fun x : List Key × Addr × Value => (V.ref x.2.1, kTD x.1)) (fun a b hab => ⟨_, rfl, hab.2.1, by rw [hab.1]⟩) pr
  obtain ⟨ed, e2⟩ := each_dp (K := X.K) ez
  refine Calls.call_function_entry PyProof.Rows.kind_sorted PyProof.Rows.plain_sorted PyProof.Rows.entry_sorted (PyProof.Rows.args_sorted1 _) ?_
  unfold Builtin.«sorted»
  refine wpAny_bind (m := checkCount "sorted" 1 1 _) (wpAny_pure ?_)
  refine wpAny_bind (PySem.W.kdu_collect (A := X.A.in1) (kdl_raw hs hx hdt) (I.ok.hd hc) ho (by omega) fun h' tk acc kp it => ?_)
  have ea : acc.toList = ks.map fun x => Value.ref x.2.1 := by
    refine List.ext_getElem? fun j => ?_
    have hl : acc.toList.length = ks.length := by rw [Array.length_toList, it.1]; exact l1
    rw [List.getElem?_map]
    by_cases hj : j < ks.length
    · have h1 : acc.toList[j]? = some acc.toList[j] := List.getElem?_eq_getElem (by omega)
      have h2 : ks[j]? = some ks[j] := List.getElem?_eq_getElem hj
      obtain ⟨en, hen, hv⟩ := it.2 j acc.toList[j] (by rw [← Array.getElem?_toList]; exact h1)
      have h3 := entry_at he j
      rw [hen, h2] at h3
      rw [h1, h2, hv, Option.some.inj h3]
      rfl
    · rw [List.getElem?_eq_none (by omega), List.getElem?_eq_none (by omega)]
      rfl
  have rv : Vals ((ks.map fun x => (V.ref x.2.1, kTD x.1)).map (·.1)) acc.toList := by
    rw [ea, List.map_map]
    clear ea ez ed e2 pr he hn l1 l2
    induction ks with
    | nil => exact .nil
    | cons x ks ih => exact .cons rfl ih
  have I1 : Inv X pins σ H { s with heap := h', toks := tk } := I.kept kp
  have hacc : acc.toList.length ≤ sizeLine := by rw [ea, List.length_map]; omega
  refine wpAny_bind (wpAny_newList ?_ hacc)
  have hoL : (h'.push (seqObj "list" acc.toList.toArray 0)).get? h'.objs.size = some (seqObj "list" acc.toList.toArray 0) := Heap.get?_push_size _ rfl
  show wpAny _ _ _ _ _ { s with heap := h'.push (seqObj "list" acc.toList.toArray 0), toks := tk }
  have er := (each_readsT I1 ez rv).mono fun u (z : V × PyData) q => (⟨[], PyProof.Rows.Reads.keeps (fun b o e => Heap.get?_push_of_some _ e) q, by simp⟩ : ∃ as, Reads (h'.push (seqObj "list" acc.toList.toArray 0)) u z.2 as ∧ h'.objs.size ∉ as)
  have hlen : (ks.map fun x : List Key × Addr × Value => (V.ref x.2.1, kTD x.1)).length ≤ sizeLine := by rw [List.length_map]; omega
  refine wpAny_bind (wpAny_holding (PySem.W.list_sort_data (A := X.A.in1) (s := { s with heap := h'.push (seqObj "list" acc.toList.toArray 0), toks := tk }) (R := fun u (z : V × PyData) => RelV z.1 u) (enc := fun z => z.2) (bs := ks.map fun x => (V.ref x.2.1, kTD x.1)) hoL (each_vals rv) er (by rw [e2]; exact hal) (by rw [e2]; exact hso) hlen (fun z hz => ?_) fun out ho2 hout => ?_))
  · have : z.2 ∈ (ks.map fun x : List Key × Addr × Value => (V.ref x.2.1, kTD x.1)).map (·.2) := List.mem_map.mpr ⟨z, hz, rfl⟩
    rw [e2] at this
    obtain ⟨p, hp, e⟩ := List.mem_map.mp this
    have h1 := hdp p hp
    rw [e] at h1
    have h2 := hr.un
    show X.A.units + 1 + 1 + z.2.depth < cLine
    omega
  · obtain ⟨e', he'⟩ := PyProof.Rows.sortedHeap_at (vs := acc.toList) (out := List.toArray out) hoL
    have hv := vals_each hout
    refine wpAny_pure ⟨_, rfl, .ref h'.objs.size, upd H h'.objs.size (.lst (((ks.map fun x : List Key × Addr × Value => (V.ref x.2.1, kTD x.1)).mergeSort (PySem.W.dataLe false (·.2))).map (·.1))), I1.laid (t' := tk) (fun b u e => ?_) (Nat.le_refl _) ⟨?_, out, e', hv, he'⟩, rfl, q _ _ ez (I1.hok.fresh (Nat.le_refl _))⟩
    · have hb : b < h'.objs.size := Heap.lt_size e
      rw [PyProof.Rows.sortedHeap_old (Nat.ne_of_lt hb) (by rw [PyProof.Rows.size_push']; exact Nat.lt_succ_of_lt hb)]
      exact Heap.get?_push_of_some _ e
    · rw [List.length_map, List.length_mergeSort]
      exact hlen
end
def keyPVs (kvs : List (List Int × PV)) : List PV := kvs.map fun p => .tup (p.1.map .int)
theorem toD_ints {m : MH} {n : Nat} : ∀ k : List Int, allO ((k.map PV.int).map (toD m (n + 1))) = some (k.map PyData.int)
  | [] => rfl
  | i :: k => by
    rw [List.map_cons, List.map_cons]
    show (allO ((k.map PV.int).map (toD m (n + 1)))).map (PyData.int i :: ·) = _
    rw [toD_ints k]
    rfl
theorem toD_key {m : MH} {k : List Int} : toD m 8 (.tup (k.map .int)) = some (.tuple (k.map .int)) := by
  show (allO ((k.map PV.int).map (toD m 7))).map PyData.tuple = _
  rw [toD_ints]
  rfl
theorem dOf_key {m : MH} {k : List Int} : dOf m (.tup (k.map .int)) = kTD (encT k) := by
  unfold dOf kTD encT
  rw [toD_key, List.map_map]
  rfl
open Classical in
noncomputable def sortedTv : List PV → MH → OR
  | [.ref n], m => match m[n]? with
    | some (.dct kvs) => if SortOk m (keyPVs kvs) then some (.ref m.length, m ++ [.lst (sortD m (keyPVs kvs))]) else none
    | _ => none
  | _, _ => none
theorem keys_data {K : PySem.W.Frag} {H : Hp} {φ : List Addr} {m : MH} : ∀ {kvs : List (List Int × PV)} {ws : List (List Key × V)} {zs : List (V × PyData)}, RKs K H φ encT kvs ws →
    PySem.W.EachIs (fun (kv : List Key × V) (z : V × PyData) => ∃ b, z.1 = .ref b ∧ H b = some (.tup (kv.1.map kV)) ∧ z.2 = kTD kv.1) ws zs → PySem.W.EachIs (fun (p : PV × PyData) (z : V × PyData) => RV K H φ p.1 z.1 ∧ p.2 = z.2) ((keyPVs kvs).map fun x => (x, dOf m x)) zs
  | [], _, _, h, e => by cases h; cases e; exact .nil
  | p :: r, _, _, h, e => by
    obtain ⟨v, t, rfl, h2, h3⟩ := h
    cases e with
    | cons e1 e2 =>
      obtain ⟨b, q1, q2, q3⟩ := e1
      refine .cons ⟨?_, ?_⟩ (keys_data h3 e2)
      · rw [q1]
        refine ⟨b, p.1.map V.int, rfl, .inl (.inl ?_), rvs_ints _⟩
        rw [q2, ← kV_ints]
      · rw [q3]
        exact dOf_key
theorem rks_keys {K : PySem.W.Frag} {H : Hp} {φ : List Addr} {κ κ' : Type} {enc : κ → κ'} : ∀ {kvs : List (κ × PV)} {ws : List (κ' × V)}, RKs K H φ enc kvs ws → ws.map (·.1) = kvs.map fun p => enc p.1
  | [], _, h => by cases h; rfl
  | p :: r, _, h => by obtain ⟨v, t, rfl, h2, h3⟩ := h; rw [List.map_cons, List.map_cons, rks_keys h3]
section
variable {X : Cx} {k : Nat}
theorem c_sortedT (hc : X.calm = true) (hr : Room k X.A) : CrQ X (.builtin "sorted") sortedTv := .of fun vs H Q φ m xs h1 h2 h4 => by
  unfold sortedTv at h4
  split at h4
  · obtain ⟨v, rfl, r⟩ := h2.one
    rename_i n
    split at h4
    · rename_i kvs hm
      obtain ⟨a, ha, rfl⟩ := r
      obtain ⟨ws, q1, q2⟩ := h1.obj n a _ ha hm
      by_cases ok : SortOk m (keyPVs kvs)
      · rw [if_pos ok] at h4
        have ek : (ws.map fun p => kTD p.1) = (keyPVs kvs).map (dOf m) := by
          have e : (ws.map fun p => kTD p.1) = (ws.map (·.1)).map kTD := by rw [List.map_map]; rfl
          rw [e, rks_keys q2]
          unfold keyPVs
          rw [List.map_map, List.map_map]
          refine List.map_congr_left fun p _ => ?_
          exact dOf_key.symm
        refine ⟨_, cr_sortT hc hr, a, ws, rfl, q1, by rw [ek]; exact ok.al, by rw [ek]; exact ok.so, fun p hp => ?_, fun zs p hz hn => ?_⟩
        · have : kTD p.1 ∈ ws.map fun p => kTD p.1 := List.mem_map.mpr ⟨p, hp, rfl⟩
          rw [ek] at this
          obtain ⟨x, hx, e⟩ := List.mem_map.mp this
          rw [← e]
          exact ok.dp x hx
        · have e4 := keys_data (m := m) q2 hz
          exact h4.newL h1 (rvs_each (PySem.W.sort_each e4 fun p hp q hq => by
            have h1 := e4.zip p hp
            have h2 := e4.zip q hq
            show PySem.W.dataLe false (fun z : PV × PyData => z.2) p.1 q.1 = PySem.W.dataLe false (fun z : V × PyData => z.2) p.2 q.2
            unfold PySem.W.dataLe PySem.W.sortLe
            dsimp only
            rw [h1.2, h2.2])) p hn
      · rw [if_neg ok] at h4
        exact h4.not.elim
    · exact h4.not.elim
  · exact h4.not.elim
/-! ## sum of a tuple or list of integers -/
def sumv : List PV → MH → OR
  | [.ref n], m => match seq? m n with
    | some xs => (ints? xs).map fun ns => (.int ns.sum, m)
    | none => none
  | [.tup xs], m => (ints? xs).map fun ns => (.int ns.sum, m)
  | _, _ => none
theorem cr_sumT (hc : X.calm = true) : CallR X (.builtin "sum") (fun vs H Q => ∃ (a : Addr) (ns : List Int), vs = [V.ref a] ∧ SqT X.K H a (ns.map V.int) ∧ Q (.int ns.sum) H) := by
  intro pins s σ H vs us Q I r h
  obtain ⟨a, ns, rfl, hs, q⟩ := h
  obtain ⟨its, rv, ht, _⟩ := I.tuple hs
  rw [Vals.ref1 r]
  obtain ⟨xs, e⟩ := rv.ints.allInts.items
  have hn : numsOf (intItems xs).toList = ns := by rw [← e]; exact rv.ints.numsOf
  rw [nums_intItems] at hn
  rw [e] at ht
  refine PySem.W.ktm_sumG (I.ok.hd hc) ht fun h' tk t' hk => ?_
  rw [preSum_eq, List.take_of_length_le (by simp), hn]
  exact ⟨.int _, H, I.kept hk, ⟨_, rfl⟩, q⟩
theorem c_sum (hc : X.calm = true) : CrQ X (.builtin "sum") sumv := .of fun vs H Q φ m xs h1 h2 h4 => by
  unfold sumv at h4
  split at h4
  · obtain ⟨v, rfl, r⟩ := h2.one
    rename_i n
    cases hq : seq? m n with
    | none => rw [hq] at h4; exact h4.not.elim
    | some xs =>
      rw [hq] at h4
      obtain ⟨a, ws, rfl, q1, q2⟩ := h1.seq r hq
      dsimp only at h4
      cases hi : ints? xs with
      | none => rw [hi] at h4; exact h4.not.elim
      | some ns =>
        rw [hi] at h4
        have e := ints_rvs hi q2
        subst e
        exact ⟨_, cr_sum hc, a, ns, rfl, q1, h4.same h1 rfl⟩
  · obtain ⟨v, rfl, r⟩ := h2.one
    rename_i xs
    obtain ⟨a, ws, rfl, q1, q2⟩ := r
    cases hi : ints? xs with
    | none => rw [hi] at h4; exact h4.not.elim
    | some ns =>
      rw [hi] at h4
      have e := ints_rvs hi q2
      subst e
      exact ⟨_, cr_sumT hc, a, ns, rfl, q1, h4.same h1 rfl⟩
  · exact h4.not.elim
end
/-! ## == and != of two dicts of the same entries -/
def datK (m : MH) (kvs : List (Int × PV)) : Prop := ∀ p ∈ kvs, ∃ d, toD m 8 p.2 = some d ∧ SeqAt.shaped d = true ∧ PyData.eqv d d = true
open Classical in
noncomputable def neDv : PV → PV → MH → OR
  | .ref i, .ref j, m => match m[i]?, m[j]? with
    | some (.dck k1), some (.dck k2) => if k1 = k2 ∧ datK m k1 then some (.bl false, m) else none
    | _, _ => none
  | _, _, _ => none
open Classical in
noncomputable def eqDv : PV → PV → MH → OR
  | .ref i, .ref j, m => match m[i]?, m[j]? with
    | some (.dck k1), some (.dck k2) => if k1 = k2 ∧ datK m k1 then some (.bl true, m) else none
    | _, _ => none
  | _, _, _ => none
theorem valueAt_get {κ : Type} [DecidableEq κ] : ∀ {vs : List (κ × Value)} {j : Nat} {k : κ} {v : Value}, (vs.map (·.1)).Nodup → vs[j]? = some (k, v) → valueAt vs k = some v
  | [], _, _, _, _, e => by cases e
  | p :: vs, 0, k, v, nd, e => by
    cases e
    simp [valueAt]
  | p :: vs, j + 1, k, v, nd, e => by
    rw [List.map_cons, List.nodup_cons] at nd
    have e : vs[j]? = some (k, v) := by simpa using e
    have hm : k ∈ vs.map (·.1) := List.mem_map.mpr ⟨_, List.mem_of_getElem? e, rfl⟩
    have hne : ¬ p.1 = k := fun z => nd.1 (z ▸ hm)
    have := valueAt_get nd.2 e
    unfold valueAt at this ⊢
    rw [List.find?_cons_of_neg (by simpa using hne)]
    exact this
/-- entries of two dicts whose data are the same, place by place -/
inductive SameK (K : PySem.W.Frag) (H : Hp) : List (Key × V) → List (Key × V) → Prop
  | nil : SameK K H [] []
  | cons {k : Key} {v w : V} {d : PyData} {a b : List (Key × V)} (h1 : Dp K H v d) (h2 : Dp K H w d) (h3 : SeqAt.shaped d = true) (h4 : PyData.eqv d d = true) (r : SameK K H a b) : SameK K H ((k, v) :: a) ((k, w) :: b)
section
variable {X : Cx}
theorem sameK_hits {pins : List (Addr × Obj)} {s : Shared} {σ : L2.St} {H : Hp} (I : Inv X pins σ H s) (hu : X.A.units + 65 < cLine) {all : List (Key × Value)} (nd : (all.map (·.1)).Nodup) : ∀ {a b : List (Key × V)} {x y : List (Key × Value)} (j : Nat), SameK X.K H a b → KV a x → KV b y → (∀ i, all[j + i]? = y[i]?) → PySem.W.KeqHits X.A.in1 s all x true
  | _, _, _, _, j, .nil, h1, _, _ => by cases h1; exact .nil
  | _, _, _, _, j, .cons (d := d) q1 q2 q3 q4 r, h1, h2, h => by
    cases h1 with
    | cons p1 p2 =>
      rename_i x xs
      cases h2 with
      | cons p3 p4 =>
        rename_i y ys
        obtain ⟨e1, r1⟩ := p1
        obtain ⟨e2, r2⟩ := p3
        obtain ⟨kx, vx⟩ := x
        obtain ⟨ky, vy⟩ := y
        cases e1; cases e2
        have hj := h 0
        have hv := valueAt_get nd (j := j) (by simpa using hj)
        obtain ⟨as, s1⟩ := Dp.reads I d _ _ q1 r1
        obtain ⟨bs, s2⟩ := Dp.reads I d _ _ q2 r2
        have e := PySem.W.keq_at (A := X.A) s1 s2 q3 q3 (show X.A.units + 1 + 64 < cLine by omega)
        rw [q4] at e
        exact PySem.W.KeqHits.hit (e := true) (b := true) hv e (sameK_hits I hu nd (j + 1) r p2 p4 fun i => by
          have := h (i + 1)
          rw [show j + 1 + i = j + (i + 1) by omega]
          simpa using this)
theorem sameK_len {K : PySem.W.Frag} {H : Hp} : ∀ {a b : List (Key × V)}, SameK K H a b → a.length = b.length
  | _, _, .nil => rfl
  | _, _, .cons _ _ _ _ r => by simp [sameK_len r]
theorem op_neK {k : Nat} (hr : Room k X.A) : OpR X (compareOp .NotEq) (fun x y H Q => ∃ a b w1 w2, x = .ref a ∧ y = .ref b ∧ H a = some (.dK w1) ∧ H b = some (.dK w2) ∧ SameK X.K H w1 w2 ∧ Q (.bl false) H) := by
  intro pins s σ H x y v u Q I rx ry h
  obtain ⟨a, b, w1, w2, rfl, rfl, ha, hb, hs, q⟩ := h
  obtain rfl : v = Value.ref a := rx
  obtain rfl : u = Value.ref b := ry
  obtain ⟨z1, m1, v1, k1, d1⟩ := dk_of I.hok ha
  obtain ⟨z2, m2, v2, k2, d2⟩ := dk_of I.hok hb
  have nd : (v2.map (·.1)).Nodup := by obtain ⟨_, _, _, _, _, _, _, _, nd⟩ := id d2; exact nd
  have hl : v1.length = v2.length := by rw [← Paired.length k1, ← Paired.length k2]; exact sameK_len hs
  have hun := hr.un
  refine PySem.W.keq_ne m1 m2 d1 d2 hr.units0 (fun _ => sameK_hits I (by omega) nd 0 hs k1 k2 fun i => by rw [Nat.zero_add]) ?_
  rw [hl]
  simp only [beq_self_eq_true, Bool.and_self, Bool.not_true]
  exact ⟨.bl false, H, I, rfl, q⟩
theorem op_eqK {k : Nat} (hr : Room k X.A) : OpR X (compareOp .Eq) (fun x y H Q => ∃ a b w1 w2, x = .ref a ∧ y = .ref b ∧ H a = some (.dK w1) ∧ H b = some (.dK w2) ∧ SameK X.K H w1 w2 ∧ Q (.bl true) H) := by
  intro pins s σ H x y v u Q I rx ry h
  obtain ⟨a, b, w1, w2, rfl, rfl, ha, hb, hs, q⟩ := h
  obtain rfl : v = Value.ref a := rx
  obtain rfl : u = Value.ref b := ry
  obtain ⟨z1, m1, v1, k1, d1⟩ := dk_of I.hok ha
  obtain ⟨z2, m2, v2, k2, d2⟩ := dk_of I.hok hb
  have nd : (v2.map (·.1)).Nodup := by obtain ⟨_, _, _, _, _, _, _, _, nd⟩ := id d2; exact nd
  have hl : v1.length = v2.length := by rw [← Paired.length k1, ← Paired.length k2]; exact sameK_len hs
  have hun := hr.un
  refine PySem.W.keq_eq m1 m2 d1 d2 hr.units0 (fun _ => sameK_hits I (by omega) nd 0 hs k1 k2 fun i => by rw [Nat.zero_add]) ?_
  rw [hl]
  simp only [beq_self_eq_true, Bool.and_self]
  exact ⟨.bl true, H, I, rfl, q⟩
theorem sameK_of {K : PySem.W.Frag} {H : Hp} {φ : List Addr} {m : MH} (h : RH K H φ m) : ∀ {kvs : List (Int × PV)} {w1 w2 : List (Key × V)}, datK m kvs → RKs K H φ encK kvs w1 → RKs K H φ encK kvs w2 → SameK K H w1 w2
  | [], _, _, _, a, b => by cases a; cases b; exact .nil
  | p :: r, _, _, d, a, b => by
    obtain ⟨v, t, rfl, a2, a3⟩ := a
    obtain ⟨w, u, rfl, b2, b3⟩ := b
    obtain ⟨e, e1, e2, e3⟩ := d p List.mem_cons_self
    exact .cons (dp_of h 8 _ _ e a2 e1) (dp_of h 8 _ _ e b2 e1) e2 e3 (sameK_of h (fun q hq => d q (List.mem_cons_of_mem _ hq)) a3 b3)
theorem o_neD {k : Nat} (hr : Room k X.A) : OpQ X (compareOp .NotEq) neDv := .of_eq fun v w H Q φ m x y h1 h2 h3 h4 => by
  unfold neDv at h4
  split at h4
  · split at h4
    · rename_i i j k1 k2 e1 e2
      by_cases c : k1 = k2 ∧ datK m k1
      · rw [if_pos c] at h4
        obtain ⟨rfl, hd⟩ := c
        obtain ⟨a, ha, rfl⟩ := h2
        obtain ⟨b, hb, rfl⟩ := h3
        obtain ⟨w1, q1, q2⟩ := h1.obj _ a _ ha e1
        obtain ⟨w2, q3, q4⟩ := h1.obj _ b _ hb e2
        exact ⟨_, op_neK hr, a, b, w1, w2, rfl, rfl, q1, q3, sameK_of h1 hd q2 q4, h4.same h1 rfl⟩
      · rw [if_neg c] at h4; exact h4.not.elim
    · exact h4.not.elim
  · exact h4.not.elim
theorem o_eqDk {k : Nat} (hr : Room k X.A) : OpQ X (compareOp .Eq) eqDv := .of_eq fun v w H Q φ m x y h1 h2 h3 h4 => by
  unfold eqDv at h4
  split at h4
  · split at h4
    · rename_i i j k1 k2 e1 e2
      by_cases c : k1 = k2 ∧ datK m k1
      · rw [if_pos c] at h4
        obtain ⟨rfl, hd⟩ := c
        obtain ⟨a, ha, rfl⟩ := h2
        obtain ⟨b, hb, rfl⟩ := h3
        obtain ⟨w1, q1, q2⟩ := h1.obj _ a _ ha e1
        obtain ⟨w2, q3, q4⟩ := h1.obj _ b _ hb e2
        exact ⟨_, op_eqK hr, a, b, w1, w2, rfl, rfl, q1, q3, sameK_of h1 hd q2 q4, h4.same h1 rfl⟩
      · rw [if_neg c] at h4; exact h4.not.elim
    · exact h4.not.elim
  · exact h4.not.elim
end
end SM

set_option Elab.async false
set_option linter.all false
set_option maxRecDepth 100000
set_option maxHeartbeats 4000000
namespace Lw
open PySem PySem.Spec PyProof.Rows L2 SM
def clsBody : Stmt → List Stmt
  | .ClassDef _ _ _ b _ _ _ _ _ _ _ => b
  | _ => []
def topS (i : Nat) : Stmt := PySem.Challenge.pw_homingtrue_k11_flights.main.body.getD i (.Pass ⟨0, 0, 0, 0⟩)
/-! ### _law_draw -/
abbrev s_law_draw : Stmt := topS 13
theorem sc_law_draw : FnScope ["box", "many", "at"] ["box", "many"] (defScope s_law_draw) := ⟨rfl, rfl, rfl, by decide +kernel, rfl, by decide +kernel, by decide +kernel⟩
noncomputable def b_law_draw : SS := (xSeq (xSet 2 (sOp ixv (sVar 0) (sC (.int 1)))) (xSeq (xAsg (sOp addv (sVar 2) (sC (.int 1))) (gSubS (sVar 0) (sC (.int 1)))) (xSeq (xIf (tBool (sOp ltv (sVar 2) (sCall lenv (aCons (sOp ixv (sVar 0) (sC (.int 0))) aNil)))) (xRet (sOp modv (sCall intv (aCons (sOp ixv (sOp ixv (sVar 0) (sC (.int 0))) (sVar 2)) aNil)) (sVar 1))) xNil) (xRet (sC (.int 0))))))
noncomputable def f_law_draw : FS := fnS 2 3 b_law_draw
/-! ### _law_number -/
abbrev s_law_number : Stmt := topS 17
theorem sc_law_number : FnScope ["box", "size"] ["box", "size"] (defScope s_law_number) := ⟨rfl, rfl, rfl, by decide +kernel, rfl, by decide +kernel, by decide +kernel⟩
noncomputable def b_law_number : SS := (xRet (sOp subv (sOp modv (sOp addv (sOp mulvS (sCallU 2 f_law_draw (aCons (sVar 0) (aCons (sC (.int 1000)) aNil))) (sC (.int 1000))) (sCallU 2 f_law_draw (aCons (sVar 0) (aCons (sC (.int 1000)) aNil)))) (sOp addv (sOp mulvS (sC (.int 2)) (sVar 1)) (sC (.int 1)))) (sVar 1)))
noncomputable def f_law_number : FS := fnS 2 2 b_law_number
/-! ### _law_run -/
abbrev s_law_run : Stmt := topS 15
theorem sc_law_run : FnScope ["box", "many", "chars", "text", "k"] ["box", "many", "chars"] (defScope s_law_run) := ⟨rfl, rfl, rfl, by decide +kernel, rfl, by decide +kernel, by decide +kernel⟩
noncomputable def law_run_l1 : SS := (xSet 3 (sOp addv (sVar 3) (sOp ixv (sVar 2) (sCallU 2 f_law_draw (aCons (sVar 0) (aCons (sCall lenv (aCons (sVar 2) aNil)) aNil))))))
noncomputable def b_law_run : SS := (xSeq (xSet 3 (sC (.str []))) (xSeq (xFor (iRng1S (sVar 1)) (gNm 4) (law_run_l1)) (xRet (sVar 3))))
noncomputable def f_law_run : FS := fnS 3 5 b_law_run
/-! ### _law_word -/
abbrev s_law_word : Stmt := topS 16
theorem sc_law_word : FnScope ["box", "taken", "word", "turn"] ["box", "taken"] (defScope s_law_word) := ⟨rfl, rfl, rfl, by decide +kernel, rfl, by decide +kernel, by decide +kernel⟩
noncomputable def law_word_l1 : SS := (xIf (tOrS (tBool (sOp inS (sVar 2) (sVar 1))) (tBool (sOp inS (sVar 2) (sLst (aCons (sC (.str [108, 111, 102, 116])) (aCons (sC (.str [97, 116])) (aCons (sC (.str [98, 105, 114, 100])) (aCons (sC (.str [111, 102])) (aCons (sC (.str [121, 101, 97, 114])) (aCons (sC (.str [114, 97, 99, 101])) (aCons (sC (.str [102, 114, 111, 109])) (aCons (sC (.str [115, 116, 97, 114, 116])) (aCons (sC (.str [99, 108, 111, 115, 101])) (aCons (sC (.str [100, 97, 114, 107])) (aCons (sC (.str [116, 111])) aNil))))))))))))))) (xSet 2 (sOp addv (sSl (sVar 2) oNone (oSome (sC (.int 7)))) (sOp ixv (sC (.str [97, 98, 99, 100, 101, 102, 103, 104, 105, 106, 107, 108])) (sVar 3)))) xNil)
noncomputable def b_law_word : SS := (xSeq (xSet 2 (sCallU 3 f_law_run (aCons (sVar 0) (aCons (sOp addv (sC (.int 1)) (sCallU 2 f_law_draw (aCons (sVar 0) (aCons (sC (.int 6)) aNil)))) (aCons (sC (.str [97, 98, 99, 100, 101, 102, 103, 104, 105, 106, 107, 108, 109, 110, 111, 112, 113, 114, 115, 116, 117, 118, 119, 120, 121, 122])) aNil))))) (xSeq (xFor (iRng1S (sC (.int 12))) (gNm 3) (law_word_l1)) (xRet (sVar 2))))
noncomputable def f_law_word : FS := fnS 2 4 b_law_word
/-! ### _law_club -/
abbrev s_law_club : Stmt := topS 18
theorem sc_law_club : FnScope ["box", "lofts", "birds", "races", "names", "rows", "size", "k", "rings", "ring", "places", "loft", "x", "y", "start", "close", "dusk", "dawn"] ["box", "lofts", "birds", "races"] (defScope s_law_club) := ⟨rfl, rfl, rfl, by decide +kernel, rfl, by decide +kernel, by decide +kernel⟩
noncomputable def law_club_l1 : SS := (xSeq (xExpr (sMeth isLst appendv (sVar 4) (aCons (sCallU 2 f_law_word (aCons (sVar 0) (aCons (sVar 4) aNil))) aNil))) (xExpr (sMeth isLst appendv (sOp ixv (sVar 5) (sC (.int 0))) (aCons (sTup (aCons (sOp ixv (sVar 4) (sUn negv (sC (.int 1)))) (aCons (sCallU 2 f_law_number (aCons (sVar 0) (aCons (sVar 6) aNil))) (aCons (sCallU 2 f_law_number (aCons (sVar 0) (aCons (sVar 6) aNil))) aNil)))) aNil))))
noncomputable def law_club_l2 : SS := (xSeq (xSet 9 (sOp addv (sC (.int 1)) (sCallU 2 f_law_draw (aCons (sVar 0) (aCons (sC (.int 999)) aNil))))) (xIf (tBool (sOp ninS (sVar 9) (sVar 8))) (xSeq (xExpr (sMeth isLst appendv (sVar 8) (aCons (sVar 9) aNil))) (xExpr (sMeth isLst appendv (sOp ixv (sVar 5) (sC (.int 1))) (aCons (sTup (aCons (sVar 9) (aCons (sCallU 2 f_law_draw (aCons (sVar 0) (aCons (sCall lenv (aCons (sOp ixv (sVar 5) (sC (.int 0))) aNil)) aNil))) (aCons (sCallU 2 f_law_draw (aCons (sVar 0) (aCons (sC (.int 100)) aNil))) aNil)))) aNil)))) xNil))
noncomputable def law_club_l3 : SS := (xSeq (xSet 12 (sCallU 2 f_law_number (aCons (sVar 0) (aCons (sVar 6) aNil)))) (xSeq (xSet 13 (sCallU 2 f_law_number (aCons (sVar 0) (aCons (sVar 6) aNil)))) (xIf (tBool (sOp ninS (sTup (aCons (sVar 12) (aCons (sVar 13) aNil))) (sVar 10))) (xSeq (xExpr (sMeth isLst appendv (sVar 4) (aCons (sCallU 2 f_law_word (aCons (sVar 0) (aCons (sVar 4) aNil))) aNil))) (xSeq (xSet 14 (sOp ixv (sLst (aCons (sCallU 2 f_law_draw (aCons (sVar 0) (aCons (sC (.int 1000)) aNil))) (aCons (sOp mulvS (sC (.int 3)) (sCallU 2 f_law_draw (aCons (sVar 0) (aCons (sC (.int 1000)) aNil)))) aNil))) (sCallU 2 f_law_draw (aCons (sVar 0) (aCons (sC (.int 2)) aNil))))) (xSeq (xSet 15 (sOp addv (sOp addv (sVar 14) (sC (.int 1))) (sOp mulvS (sCallU 2 f_law_draw (aCons (sVar 0) (aCons (sOp ixv (sLst (aCons (sC (.int 30)) (aCons (sC (.int 1000)) aNil))) (sCallU 2 f_law_draw (aCons (sVar 0) (aCons (sC (.int 2)) aNil)))) aNil))) (sOp ixv (sLst (aCons (sC (.int 1)) (aCons (sC (.int 4)) aNil))) (sCallU 2 f_law_draw (aCons (sVar 0) (aCons (sC (.int 2)) aNil))))))) (xSeq (xSet 16 (sOp addv (sCallU 2 f_law_draw (aCons (sVar 0) (aCons (sC (.int 1000)) aNil))) (sOp mulvS (sC (.int 400)) (sCallU 2 f_law_draw (aCons (sVar 0) (aCons (sC (.int 2)) aNil)))))) (xSeq (xSet 17 (sOp ixv (sLst (aCons (sCallU 2 f_law_draw (aCons (sVar 0) (aCons (sC (.int 1000)) aNil))) (aCons (sVar 16) aNil))) (sOp fdivv (sCallU 2 f_law_draw (aCons (sVar 0) (aCons (sC (.int 6)) aNil))) (sC (.int 5))))) (xExpr (sMeth isLst appendv (sOp ixv (sVar 5) (sC (.int 2))) (aCons (sTup (aCons (sOp ixv (sVar 4) (sUn negv (sC (.int 1)))) (aCons (sVar 12) (aCons (sVar 13) (aCons (sVar 14) (aCons (sVar 15) (aCons (sVar 16) (aCons (sVar 17) aNil)))))))) aNil)))))))) xNil)))
noncomputable def b_law_club : SS := (xSeq (xSet 4 (sLst aNil)) (xSeq (xSet 5 (sLst (aCons (sLst aNil) (aCons (sLst aNil) (aCons (sLst aNil) aNil))))) (xSeq (xSet 6 (sOp ixv (sLst (aCons (sC (.int 3)) (aCons (sC (.int 50)) (aCons (sC (.int 9999)) aNil)))) (sCallU 2 f_law_draw (aCons (sVar 0) (aCons (sC (.int 3)) aNil))))) (xSeq (xFor (iRng1S (sOp addv (sC (.int 1)) (sCallU 2 f_law_draw (aCons (sVar 0) (aCons (sVar 1) aNil))))) (gNm 7) (law_club_l1)) (xSeq (xSet 8 (sLst aNil)) (xSeq (xFor (iRng1S (sCallU 2 f_law_draw (aCons (sVar 0) (aCons (sOp addv (sVar 2) (sC (.int 1))) aNil)))) (gNm 7) (law_club_l2)) (xSeq (xSet 10 (sLc (iSeq (sOp ixv (sVar 5) (sC (.int 0)))) (gNm 11) tYesS (sSl (sVar 11) (oSome (sC (.int 1))) oNone) [11])) (xSeq (xFor (iRng1S (sOp addv (sC (.int 1)) (sCallU 2 f_law_draw (aCons (sVar 0) (aCons (sVar 3) aNil))))) (gNm 7) (law_club_l3)) (xRet (sTup (aCons (sCall tuplev (aCons (sOp ixv (sVar 5) (sC (.int 0))) aNil)) (aCons (sCall tuplev (aCons (sOp ixv (sVar 5) (sC (.int 1))) aNil)) (aCons (sCall tuplev (aCons (sOp ixv (sVar 5) (sC (.int 2))) aNil)) aNil)))))))))))))
noncomputable def f_law_club : FS := fnS 4 18 b_law_club
/-! ### _law_cell -/
abbrev s_law_cell : Stmt := topS 11
theorem sc_law_cell : FnScope ["script", "k"] ["script", "k"] (defScope s_law_cell) := ⟨rfl, rfl, rfl, by decide +kernel, rfl, by decide +kernel, by decide +kernel⟩
noncomputable def b_law_cell : SS := (xSeq (xIf (tBool (sOp ltv (sVar 1) (sCall lenv (aCons (sVar 0) aNil)))) (xRet (sOp ixv (sVar 0) (sVar 1))) xNil) (xRet (sC (.int 0))))
noncomputable def f_law_cell : FS := fnS 2 2 b_law_cell
/-! ### _law_digits -/
abbrev s_law_digits : Stmt := topS 12
theorem sc_law_digits : FnScope ["script", "first", "last", "digits", "k", "cell", "turn", "seed"] ["script", "first", "last"] (defScope s_law_digits) := ⟨rfl, rfl, rfl, by decide +kernel, rfl, by decide +kernel, by decide +kernel⟩
noncomputable def law_digits_l1 : SS := (xIf (tBool (sOp gtv (sVar 5) (sC (.int 0)))) (xSeq (xExpr (sMeth isLst appendv (sVar 3) (aCons (sOp modv (sCall intv (aCons (sVar 5) aNil)) (sC (.int 1000))) aNil))) (xSet 5 (sOp fdivv (sVar 5) (sC (.int 1000))))) xNil)
noncomputable def law_digits_l2 : SS := (xSeq (xSet 7 (sOp modv (sCall intv (aCons (sOp addv (sOp addv (sOp mulvS (sVar 7) (sC (.int 16807))) (sOp mulvS (sC (.int 7)) (sVar 6))) (sC (.int 1))) aNil)) (sC (.int 2147483647)))) (xExpr (sMeth isLst appendv (sVar 3) (aCons (sOp modv (sCall intv (aCons (sOp fdivv (sVar 7) (sC (.int 997))) aNil)) (sC (.int 1000))) aNil))))
noncomputable def law_digits_l3 : SS := (xSeq (xSet 5 (sCallU 2 f_law_cell (aCons (sVar 0) (aCons (sVar 4) aNil)))) (xSeq (xIf (tBool (sOp ltv (sVar 5) (sC (.int 0)))) (xSet 5 (sOp subv (sC (.int 1)) (sOp mulvS (sC (.int 2)) (sVar 5)))) xNil) (xIf (tBool (sOp gev (sVar 5) (sOp powv (sC (.int 10)) (sC (.int 18))))) (xFor (iRng1S (sC (.int 60))) (gNm 6) (law_digits_l1)) (xSeq (xSet 7 (sOp modv (sCall intv (aCons (sOp addv (sOp addv (sOp mulvS (sVar 5) (sC (.int 48271))) (sOp mulvS (sVar 4) (sC (.int 69621)))) (sC (.int 11))) aNil)) (sC (.int 2147483647)))) (xFor (iRng1S (sC (.int 12))) (gNm 6) (law_digits_l2))))))
noncomputable def b_law_digits : SS := (xSeq (xSet 3 (sLst aNil)) (xSeq (xFor (iRng2S (sVar 1) (sVar 2)) (gNm 4) (law_digits_l3)) (xRet (sVar 3))))
noncomputable def f_law_digits : FS := fnS 3 8 b_law_digits
/-! ### _law_is_dark -/
abbrev s_law_is_dark : Stmt := topS 22
theorem sc_law_is_dark : FnScope ["race", "minute", "of_day"] ["race", "minute"] (defScope s_law_is_dark) := ⟨rfl, rfl, rfl, by decide +kernel, rfl, by decide +kernel, by decide +kernel⟩
noncomputable def b_law_is_dark : SS := (xSeq (xSet 2 (sOp modv (sVar 1) (sC (.int 1440)))) (xSeq (xIf (tBool (sOp lev (sOp ixv (sVar 0) (sC (.int 5))) (sOp ixv (sVar 0) (sC (.int 6))))) (xRet (sChain lev ltv (sOp ixv (sVar 0) (sC (.int 5))) (sVar 2) (sOp ixv (sVar 0) (sC (.int 6))))) xNil) (xRet (sOrV (sOp gev (sVar 2) (sOp ixv (sVar 0) (sC (.int 5)))) (sOp ltv (sVar 2) (sOp ixv (sVar 0) (sC (.int 6))))))))
noncomputable def f_law_is_dark : FS := fnS 2 3 b_law_is_dark
/-! ### _law_less -/
abbrev s_law_less : Stmt := topS 21
theorem sc_law_less : FnScope ["one", "other"] ["one", "other"] (defScope s_law_less) := ⟨rfl, rfl, rfl, by decide +kernel, rfl, by decide +kernel, by decide +kernel⟩
noncomputable def b_law_less : SS := (xRet (sOp ltv (sOp mulvS (sOp ixv (sVar 0) (sC (.int 0))) (sOp ixv (sVar 1) (sC (.int 1)))) (sOp mulvS (sOp ixv (sVar 1) (sC (.int 0))) (sOp ixv (sVar 0) (sC (.int 1))))))
noncomputable def f_law_less : FS := fnS 2 2 b_law_less
/-! ### _law_low -/
abbrev s_law_low : Stmt := topS 19
theorem sc_law_low : FnScope ["p", "q", "left", "right", "turn"] ["p", "q"] (defScope s_law_low) := ⟨rfl, rfl, rfl, by decide +kernel, rfl, by decide +kernel, by decide +kernel⟩
noncomputable def law_low_l1 : SS := (xIf (tBool (sOp gtv (sVar 2) (sC (.int 0)))) (xPar 2 3 (sOp modv (sCall intv (aCons (sVar 3) aNil)) (sVar 2)) (sVar 2)) xNil)
noncomputable def b_law_low : SS := (xSeq (xIf (tBool (sOp ltv (sVar 1) (sC (.int 0)))) (xSeq (xSet 0 (sUn negv (sVar 0))) (xSet 1 (sUn negv (sVar 1)))) xNil) (xSeq (xSet 2 (sCall absv (aCons (sVar 0) aNil))) (xSeq (xSet 3 (sVar 1)) (xSeq (xFor (iRng1S (sC (.int 200))) (gNm 4) (law_low_l1)) (xRet (sTup (aCons (sOp fdivv (sVar 0) (sVar 3)) (aCons (sOp fdivv (sVar 1) (sVar 3)) aNil))))))))
noncomputable def f_law_low : FS := fnS 2 5 b_law_low
/-! ### _law_plus -/
abbrev s_law_plus : Stmt := topS 20
theorem sc_law_plus : FnScope ["one", "other"] ["one", "other"] (defScope s_law_plus) := ⟨rfl, rfl, rfl, by decide +kernel, rfl, by decide +kernel, by decide +kernel⟩
noncomputable def b_law_plus : SS := (xRet (sCallU 2 f_law_low (aCons (sOp addv (sOp mulvS (sOp ixv (sVar 0) (sC (.int 0))) (sOp ixv (sVar 1) (sC (.int 1)))) (sOp mulvS (sOp ixv (sVar 1) (sC (.int 0))) (sOp ixv (sVar 0) (sC (.int 1))))) (aCons (sOp mulvS (sOp ixv (sVar 0) (sC (.int 1))) (sOp ixv (sVar 1) (sC (.int 1)))) aNil))))
noncomputable def f_law_plus : FS := fnS 2 2 b_law_plus
/-! ### _law_dark -/
abbrev s_law_dark : Stmt := topS 23
theorem sc_law_dark : FnScope ["race", "first", "last", "total", "whole", "minute", "left", "right"] ["race", "first", "last"] (defScope s_law_dark) := ⟨rfl, rfl, rfl, by decide +kernel, rfl, by decide +kernel, by decide +kernel⟩
noncomputable def law_dark_l1 : SS := (xIf (tAndS (tBool (sOp gev (sOp mulvS (sVar 5) (sOp ixv (sVar 1) (sC (.int 1)))) (sOp ixv (sVar 1) (sC (.int 0))))) (tBool (sOp lev (sOp mulvS (sOp addv (sVar 5) (sC (.int 1))) (sOp ixv (sVar 2) (sC (.int 1)))) (sOp ixv (sVar 2) (sC (.int 0)))))) (xSet 4 (sOp addv (sVar 4) (sCall intv (aCons (sCallU 2 f_law_is_dark (aCons (sVar 0) (aCons (sVar 5) aNil))) aNil)))) (xIf (tTru (sCallU 2 f_law_is_dark (aCons (sVar 0) (aCons (sVar 5) aNil)))) (xSeq (xSet 6 (sTup (aCons (sVar 5) (aCons (sC (.int 1)) aNil)))) (xSeq (xSet 7 (sTup (aCons (sOp addv (sVar 5) (sC (.int 1))) (aCons (sC (.int 1)) aNil)))) (xSeq (xIf (tTru (sCallU 2 f_law_less (aCons (sVar 6) (aCons (sVar 1) aNil)))) (xSet 6 (sVar 1)) xNil) (xSeq (xIf (tTru (sCallU 2 f_law_less (aCons (sVar 2) (aCons (sVar 7) aNil)))) (xSet 7 (sVar 2)) xNil) (xIf (tTru (sCallU 2 f_law_less (aCons (sVar 6) (aCons (sVar 7) aNil)))) (xSet 3 (sCallU 2 f_law_plus (aCons (sVar 3) (aCons (sCallU 2 f_law_plus (aCons (sVar 7) (aCons (sTup (aCons (sOp subv (sC (.int 0)) (sOp ixv (sVar 6) (sC (.int 0)))) (aCons (sOp ixv (sVar 6) (sC (.int 1))) aNil))) aNil))) aNil)))) xNil))))) xNil))
noncomputable def b_law_dark : SS := (xSeq (xSet 3 (sTup (aCons (sC (.int 0)) (aCons (sC (.int 1)) aNil)))) (xSeq (xSet 4 (sC (.int 0))) (xSeq (xFor (iRng2S (sOp fdivv (sOp ixv (sVar 1) (sC (.int 0))) (sOp ixv (sVar 1) (sC (.int 1)))) (sOp addv (sOp fdivv (sOp ixv (sVar 2) (sC (.int 0))) (sOp ixv (sVar 2) (sC (.int 1)))) (sC (.int 1)))) (gNm 5) (law_dark_l1)) (xRet (sCallU 2 f_law_plus (aCons (sVar 3) (aCons (sTup (aCons (sVar 4) (aCons (sC (.int 1)) aNil))) aNil)))))))
noncomputable def f_law_dark : FS := fnS 3 8 b_law_dark
/-! ### _law_flight -/
abbrev s_law_flight : Stmt := topS 24
theorem sc_law_flight : FnScope ["race", "time", "start", "dark"] ["race", "time"] (defScope s_law_flight) := ⟨rfl, rfl, rfl, by decide +kernel, rfl, by decide +kernel, by decide +kernel⟩
noncomputable def b_law_flight : SS := (xSeq (xSet 2 (sTup (aCons (sOp ixv (sVar 0) (sC (.int 3))) (aCons (sC (.int 1)) aNil)))) (xSeq (xSet 3 (sCallU 3 f_law_dark (aCons (sVar 0) (aCons (sVar 2) (aCons (sVar 1) aNil))))) (xRet (sCallU 2 f_law_plus (aCons (sCallU 2 f_law_plus (aCons (sVar 1) (aCons (sTup (aCons (sOp subv (sC (.int 0)) (sOp ixv (sVar 0) (sC (.int 3)))) (aCons (sC (.int 1)) aNil))) aNil))) (aCons (sTup (aCons (sOp subv (sC (.int 0)) (sOp ixv (sVar 3) (sC (.int 0)))) (aCons (sOp ixv (sVar 3) (sC (.int 1))) aNil))) aNil))))))
noncomputable def f_law_flight : FS := fnS 2 4 b_law_flight
/-! ### _law_same -/
abbrev s_law_same : Stmt := topS 14
theorem sc_law_same : FnScope ["actual", "due", "k"] ["actual", "due"] (defScope s_law_same) := ⟨rfl, rfl, rfl, by decide +kernel, rfl, by decide +kernel, by decide +kernel⟩
noncomputable def law_same_l1 (F : FS) : SS := (xIf (tNotS (tTru (sCallU 2 F (aCons (sOp ixv (sVar 0) (sVar 2)) (aCons (sOp ixv (sVar 1) (sVar 2)) aNil))))) (xRet (sC (.bl false))) xNil)
noncomputable def b_law_same (F : FS) : SS := (xSeq (xIf (tOrS (tTru (sIsi "list" (sVar 1))) (tTru (sIsi "tuple" (sVar 1)))) (xSeq (xIf (tOrS (tBool (sOp nev (sIsi "list" (sVar 1)) (sIsi "list" (sVar 0)))) (tBool (sOp nev (sIsi "tuple" (sVar 1)) (sIsi "tuple" (sVar 0))))) (xRet (sC (.bl false))) xNil) (xSeq (xIf (tBool (sOp nev (sCall lenv (aCons (sVar 0) aNil)) (sCall lenv (aCons (sVar 1) aNil)))) (xRet (sC (.bl false))) xNil) (xSeq (xFor (iRng1S (sCall lenv (aCons (sVar 1) aNil))) (gNm 2) (law_same_l1 F)) (xRet (sC (.bl true)))))) xNil) (xSeq (xIf (tBool (sOp isNv (sVar 1) (sC .non))) (xRet (sOp isNv (sVar 0) (sC .non))) xNil) (xSeq (xIf (tTru (sIsi "bool" (sVar 1))) (xRet (sAndV (sIsi "bool" (sVar 0)) (sOp eqv (sVar 0) (sVar 1)))) xNil) (xSeq (xIf (tTru (sIsi "str" (sVar 1))) (xRet (sAndV (sIsi "str" (sVar 0)) (sOp eqv (sVar 0) (sVar 1)))) xNil) (xRet (sAndV (sIsi "int" (sVar 0)) (sAndV (sNotV (sIsi "bool" (sVar 0))) (sOp eqv (sVar 0) (sVar 1)))))))))
noncomputable def f_law_same : Nat → FS
  | 0 => fun _ _ => .bad
  | n + 1 => fnS 2 3 (b_law_same (f_law_same n))
/-! ### dark_of_day -/
abbrev s_dark_of_day : Stmt := topS 8
theorem sc_dark_of_day : FnScope ["dusk", "dawn", "end"] ["dusk", "dawn", "end"] (defScope s_dark_of_day) := ⟨rfl, rfl, rfl, by decide +kernel, rfl, by decide +kernel, by decide +kernel⟩
noncomputable def b_dark_of_day : SS := (xSeq (xIf (tBool (sOp lev (sVar 0) (sVar 1))) (xRet (sCall max2v (aCons (sC (.int 0)) (aCons (sOp subv (sCall min2v (aCons (sVar 2) (aCons (sVar 1) aNil))) (sVar 0)) aNil)))) xNil) (xRet (sOp addv (sCall min2v (aCons (sVar 2) (aCons (sVar 1) aNil))) (sCall max2v (aCons (sC (.int 0)) (aCons (sOp subv (sVar 2) (sVar 0)) aNil))))))
noncomputable def f_dark_of_day : FS := fnS 3 3 b_dark_of_day
/-! ### lowest -/
abbrev s_lowest : Stmt := topS 2
theorem sc_lowest : FnScope ["p", "q", "common"] ["p", "q"] (defScope s_lowest) := ⟨rfl, rfl, rfl, by decide +kernel, rfl, by decide +kernel, by decide +kernel⟩
noncomputable def b_lowest : SS := (xSeq (xSet 2 (sCall gcdv (aCons (sVar 0) (aCons (sVar 1) aNil)))) (xSeq (xIf (tBool (sOp ltv (sVar 1) (sC (.int 0)))) (xSet 2 (sUn negv (sVar 2))) xNil) (xRet (sTup (aCons (sOp fdivv (sVar 0) (sVar 2)) (aCons (sOp fdivv (sVar 1) (sVar 2)) aNil))))))
noncomputable def f_lowest : FS := fnS 2 3 b_lowest
/-! ### dark_until -/
abbrev s_dark_until : Stmt := topS 7
theorem sc_dark_until : FnScope ["race", "time", "dusk", "dawn", "p", "q", "days", "whole"] ["race", "time"] (defScope s_dark_until) := ⟨rfl, rfl, rfl, by decide +kernel, rfl, by decide +kernel, by decide +kernel⟩
noncomputable def b_dark_until : SS := (xSeq (xPar 2 3 (sOp ixv (sVar 0) (sC (.int 5))) (sOp ixv (sVar 0) (sC (.int 6)))) (xSeq (xAsg (sVar 1) (gTupS 2 (gConsS (gNm 4) (gConsS (gNm 5) gNilS)))) (xSeq (xSet 6 (sOp fdivv (sVar 4) (sOp mulvS (sC (.int 1440)) (sVar 5)))) (xSeq (xSet 7 (sOp mulvS (sOp mulvS (sVar 6) (sOp modv (sOp subv (sVar 3) (sVar 2)) (sC (.int 1440)))) (sVar 5))) (xRet (sCallU 2 f_lowest (aCons (sOp addv (sVar 7) (sCallU 3 f_dark_of_day (aCons (sOp mulvS (sVar 2) (sVar 5)) (aCons (sOp mulvS (sVar 3) (sVar 5)) (aCons (sOp subv (sVar 4) (sOp mulvS (sOp mulvS (sVar 6) (sC (.int 1440))) (sVar 5))) aNil))))) (aCons (sVar 5) aNil))))))))
noncomputable def f_dark_until : FS := fnS 2 8 b_dark_until
/-! ### minus -/
abbrev s_minus : Stmt := topS 3
theorem sc_minus : FnScope ["one", "other", "p", "q", "r", "s"] ["one", "other"] (defScope s_minus) := ⟨rfl, rfl, rfl, by decide +kernel, rfl, by decide +kernel, by decide +kernel⟩
noncomputable def b_minus : SS := (xSeq (xAsg (sVar 0) (gTupS 2 (gConsS (gNm 2) (gConsS (gNm 3) gNilS)))) (xSeq (xAsg (sVar 1) (gTupS 2 (gConsS (gNm 4) (gConsS (gNm 5) gNilS)))) (xRet (sCallU 2 f_lowest (aCons (sOp subv (sOp mulvS (sVar 2) (sVar 5)) (sOp mulvS (sVar 4) (sVar 3))) (aCons (sOp mulvS (sVar 3) (sVar 5)) aNil))))))
noncomputable def f_minus : FS := fnS 2 6 b_minus
/-! ### dark_part -/
abbrev s_dark_part : Stmt := topS 6
theorem sc_dark_part : FnScope ["race", "first", "last"] ["race", "first", "last"] (defScope s_dark_part) := ⟨rfl, rfl, rfl, by decide +kernel, rfl, by decide +kernel, by decide +kernel⟩
noncomputable def b_dark_part : SS := (xRet (sCallU 2 f_minus (aCons (sCallU 2 f_dark_until (aCons (sVar 0) (aCons (sVar 2) aNil))) (aCons (sCallU 2 f_dark_until (aCons (sVar 0) (aCons (sVar 1) aNil))) aNil))))
noncomputable def f_dark_part : FS := fnS 3 3 b_dark_part
/-! ### flight -/
abbrev s_flight : Stmt := topS 9
theorem sc_flight : FnScope ["race", "time", "start"] ["race", "time"] (defScope s_flight) := ⟨rfl, rfl, rfl, by decide +kernel, rfl, by decide +kernel, by decide +kernel⟩
noncomputable def b_flight : SS := (xSeq (xSet 2 (sTup (aCons (sOp ixv (sVar 0) (sC (.int 3))) (aCons (sC (.int 1)) aNil)))) (xRet (sCallU 2 f_minus (aCons (sCallU 2 f_minus (aCons (sVar 1) (aCons (sVar 2) aNil))) (aCons (sCallU 3 f_dark_part (aCons (sVar 0) (aCons (sVar 2) (aCons (sVar 1) aNil)))) aNil)))))
noncomputable def f_flight : FS := fnS 2 3 b_flight
/-! ### law -/
abbrev s_law : Stmt := topS 25
theorem sc_law : FnScope ["script", "box", "club", "race", "time", "before", "turn", "q", "more", "told"] ["script"] (defScope s_law) := ⟨rfl, rfl, rfl, by decide +kernel, rfl, by decide +kernel, by decide +kernel⟩
noncomputable def law_l1 : SS := (xSeq (xSet 7 (sOp addv (sC (.int 1)) (sCallU 2 f_law_draw (aCons (sVar 1) (aCons (sC (.int 12)) aNil))))) (xSeq (xSet 8 (sCallU 2 f_law_low (aCons (sOp addv (sOp mulvS (sCallU 2 f_law_draw (aCons (sVar 1) (aCons (sC (.int 1000)) aNil))) (sVar 7)) (sCallU 2 f_law_draw (aCons (sVar 1) (aCons (sVar 7) aNil)))) (aCons (sVar 7) aNil)))) (xSeq (xSet 4 (sCallU 2 f_law_plus (aCons (sVar 4) (aCons (sVar 8) aNil)))) (xSeq (xSet 9 (sCallU 2 f_flight (aCons (sVar 3) (aCons (sVar 4) aNil)))) (xSeq (xIf (tOrS (tNotS (tTru (sCallU 2 (f_law_same 8) (aCons (sVar 9) (aCons (sCallU 2 f_law_flight (aCons (sVar 3) (aCons (sVar 4) aNil))) aNil))))) (tTru (sCallU 2 f_law_less (aCons (sVar 9) (aCons (sVar 5) aNil))))) (xRet (sC (.bl false))) xNil) (xSeq (xIf (tTru (sCallU 2 f_law_less (aCons (sCallU 2 f_law_plus (aCons (sVar 5) (aCons (sVar 8) aNil))) (aCons (sVar 9) aNil)))) (xRet (sC (.bl false))) xNil) (xSet 5 (sVar 9))))))))
noncomputable def law_l2 : SS := (xSeq (xSet 4 (sTup (aCons (sOp ixv (sVar 3) (sC (.int 3))) (aCons (sC (.int 1)) aNil)))) (xSeq (xSet 5 (sTup (aCons (sC (.int 0)) (aCons (sC (.int 1)) aNil)))) (xFor (iRng1S (sC (.int 4))) (gNm 6) (law_l1))))
noncomputable def b_law : SS := (xSeq (xSet 1 (sLst (aCons (sCallU 3 f_law_digits (aCons (sVar 0) (aCons (sC (.int 0)) (aCons (sC (.int 63)) aNil)))) (aCons (sC (.int 0)) aNil)))) (xSeq (xSet 2 (sCallU 4 f_law_club (aCons (sVar 1) (aCons (sC (.int 2)) (aCons (sC (.int 0)) (aCons (sC (.int 2)) aNil)))))) (xSeq (xFor (iSeq (sOp ixv (sVar 2) (sC (.int 2)))) (gNm 3) (law_l2)) (xRet (sC (.bl true))))))
noncomputable def f_law : FS := fnS 1 10 b_law
section
variable {P : Program} {w : World} {K : PySem.W.Frag} {mg : Str → Option Value} {base : Heap}
theorem ok_law_draw {f : Addr} {fd : FuncData} (F : Fun K "_law_draw" "_law_draw" s_law_draw f fd) (m_len : mg "len" = none) (m_int : mg "int" = none) : FnOk P w K mg base CX0 1 f fd ["box", "many"] (SpQ K 2 f_law_draw) :=
  okQ F sc_law_draw b_law_draw fun cdv A outer s H E hr => by
    have nd := sc_law_draw.nd
    exact (x_cons (x_set 2 nd (q_ix (q_var 0) q_int (fun _ _ => rfl))) (x_cons (x_asg (q_bin o_add (q_var 2) q_int) (g_sub (q_var 0) q_int)) (x_cons (x_if (t_cmp o_lt (q_var 2) (q_callB c_len (by rfl) m_len PySem.boot_len (a_cons (q_ix (q_var 0) q_int (fun _ _ => rfl)) a_nil)) (nomark _)) (x_one (x_ret (q_bin o_mod (q_callTy c_int (by rfl) m_int (by decide +kernel) (a_cons (q_ix (q_ix (q_var 0) q_int (fun _ _ => rfl)) (q_var 2) (fun _ _ => rfl)) a_nil)) (q_var 1)))) x_nil) (x_one (x_ret q_int)))))
theorem ok_law_number {f : Addr} {fd : FuncData} (F : Fun K "_law_number" "_law_number" s_law_number f fd) (C_law_draw : Cal P w K mg base "_law_draw" 2 1 f_law_draw) : FnOk P w K mg base CX0 2 f fd ["box", "size"] (SpQ K 2 f_law_number) :=
  okQ F sc_law_number b_law_number fun cdv A outer s H E hr => by
    have nd := sc_law_number.nd
    exact (x_one (x_ret (q_bin o_sub (q_bin o_mod (q_bin o_add (q_bin o_mulS (q_call C_law_draw hr (by decide) (by rfl) (a_cons (q_var 0) (a_cons q_int a_nil))) q_int) (q_call C_law_draw hr (by decide) (by rfl) (a_cons (q_var 0) (a_cons q_int a_nil)))) (q_bin o_add (q_bin o_mulS q_int (q_var 1)) q_int)) (q_var 1))))
theorem ok_law_run {f : Addr} {fd : FuncData} (F : Fun K "_law_run" "_law_run" s_law_run f fd) (C_law_draw : Cal P w K mg base "_law_draw" 2 1 f_law_draw) (m_range : mg "range" = none) (m_len : mg "len" = none) : FnOk P w K mg base CX0 2 f fd ["box", "many", "chars"] (SpQ K 3 f_law_run) :=
  okQ F sc_law_run b_law_run fun cdv A outer s H E hr => by
    have nd := sc_law_run.nd
    exact (x_cons (x_set 3 nd (q_strc [])) (x_cons (x_for PassesOwn.never rfl (i_rng1 (by rfl) m_range (q_var 1)) (g_name 4 nd) (x_one (x_set 3 nd (q_bin o_add (q_var 3) (q_ix (q_var 2) (q_call C_law_draw hr (by decide) (by rfl) (a_cons (q_var 0) (a_cons (q_callB c_len (by rfl) m_len PySem.boot_len (a_cons (q_var 2) a_nil)) a_nil))) (fun _ _ => rfl)))))) (x_one (x_ret (q_var 3)))))
theorem ok_law_word {f : Addr} {fd : FuncData} (F : Fun K "_law_word" "_law_word" s_law_word f fd) (C_law_draw : Cal P w K mg base "_law_draw" 2 1 f_law_draw) (C_law_run : Cal P w K mg base "_law_run" 3 2 f_law_run) (m_range : mg "range" = none) : FnOk P w K mg base CX0 3 f fd ["box", "taken"] (SpQ K 2 f_law_word) :=
  okQ F sc_law_word b_law_word fun cdv A outer s H E hr => by
    have nd := sc_law_word.nd
    exact (x_cons (x_set 2 nd (q_call C_law_run hr (by decide) (by rfl) (a_cons (q_var 0) (a_cons (q_bin o_add q_int (q_call C_law_draw hr (by decide) (by rfl) (a_cons (q_var 0) (a_cons q_int a_nil)))) (a_cons (q_strc [97, 98, 99, 100, 101, 102, 103, 104, 105, 106, 107, 108, 109, 110, 111, 112, 113, 114, 115, 116, 117, 118, 119, 120, 121, 122]) a_nil))))) (x_cons (x_for PassesOwn.never rfl (i_rng1 (by rfl) m_range q_int) (g_name 3 nd) (x_one (x_if (t_w (w_or (t_cmp (o_inS hr) (q_var 2) (q_var 1) (by rfl)) (w_or1 (t_cmp (o_inS hr) (q_var 2) (q_lst (a_cons (q_strc [108, 111, 102, 116]) (a_cons (q_strc [97, 116]) (a_cons (q_strc [98, 105, 114, 100]) (a_cons (q_strc [111, 102]) (a_cons (q_strc [121, 101, 97, 114]) (a_cons (q_strc [114, 97, 99, 101]) (a_cons (q_strc [102, 114, 111, 109]) (a_cons (q_strc [115, 116, 97, 114, 116]) (a_cons (q_strc [99, 108, 111, 115, 101]) (a_cons (q_strc [100, 97, 114, 107]) (a_cons (q_strc [116, 111]) a_nil)))))))))))) (by rfl))))) (x_one (x_set 2 nd (q_bin o_add (q_slice (q_var 2) p_none (p_some q_int)) (q_ix (q_strc [97, 98, 99, 100, 101, 102, 103, 104, 105, 106, 107, 108]) (q_var 3) (fun _ _ => rfl))))) x_nil))) (x_one (x_ret (q_var 2)))))
theorem ok_law_club {f : Addr} {fd : FuncData} (F : Fun K "_law_club" "_law_club" s_law_club f fd) (C_law_draw : Cal P w K mg base "_law_draw" 2 1 f_law_draw) (C_law_word : Cal P w K mg base "_law_word" 2 3 f_law_word) (C_law_number : Cal P w K mg base "_law_number" 2 2 f_law_number) (m_range : mg "range" = none) (m_len : mg "len" = none) (m_tuple : mg "tuple" = none) : FnOk P w K mg base CX0 4 f fd ["box", "lofts", "birds", "races"] (SpQ K 4 f_law_club) :=
  okQ F sc_law_club b_law_club fun cdv A outer s H E hr => by
    have nd := sc_law_club.nd
    exact (x_cons (x_set 4 nd (q_lst a_nil)) (x_cons (x_set 5 nd (q_lst (a_cons (q_lst a_nil) (a_cons (q_lst a_nil) (a_cons (q_lst a_nil) a_nil))))) (x_cons (x_set 6 nd (q_ix (q_lst (a_cons q_int (a_cons q_int (a_cons q_int a_nil)))) (q_call C_law_draw hr (by decide) (by rfl) (a_cons (q_var 0) (a_cons q_int a_nil))) (fun _ _ => rfl))) (x_cons (x_for PassesOwn.never rfl (i_rng1 (by rfl) m_range (q_bin o_add q_int (q_call C_law_draw hr (by decide) (by rfl) (a_cons (q_var 0) (a_cons (q_var 1) a_nil))))) (g_name 7 nd) (x_cons (x_expr (q_m ty_list PySem.F.plainAttrs_list PySem.F.slot_list_append PySem.F.type_list_append m_append (q_var 4) (a_cons (q_call C_law_word hr (by decide) (by rfl) (a_cons (q_var 0) (a_cons (q_var 4) a_nil))) a_nil))) (x_one (x_expr (q_m ty_list PySem.F.plainAttrs_list PySem.F.slot_list_append PySem.F.type_list_append m_append (q_ix (q_var 5) q_int (fun _ _ => rfl)) (a_cons (q_tup (a_cons (q_ix (q_var 4) (q_un o_neg q_int) (fun _ _ => rfl)) (a_cons (q_call C_law_number hr (by decide) (by rfl) (a_cons (q_var 0) (a_cons (q_var 6) a_nil))) (a_cons (q_call C_law_number hr (by decide) (by rfl) (a_cons (q_var 0) (a_cons (q_var 6) a_nil))) a_nil)))) a_nil)))))) (x_cons (x_set 8 nd (q_lst a_nil)) (x_cons (x_for PassesOwn.never rfl (i_rng1 (by rfl) m_range (q_call C_law_draw hr (by decide) (by rfl) (a_cons (q_var 0) (a_cons (q_bin o_add (q_var 2) q_int) a_nil)))) (g_name 7 nd) (x_cons (x_set 9 nd (q_bin o_add q_int (q_call C_law_draw hr (by decide) (by rfl) (a_cons (q_var 0) (a_cons q_int a_nil))))) (x_one (x_if (t_cmp (o_ninS hr) (q_var 9) (q_var 8) (by rfl)) (x_cons (x_expr (q_m ty_list PySem.F.plainAttrs_list PySem.F.slot_list_append PySem.F.type_list_append m_append (q_var 8) (a_cons (q_var 9) a_nil))) (x_one (x_expr (q_m ty_list PySem.F.plainAttrs_list PySem.F.slot_list_append PySem.F.type_list_append m_append (q_ix (q_var 5) q_int (fun _ _ => rfl)) (a_cons (q_tup (a_cons (q_var 9) (a_cons (q_call C_law_draw hr (by decide) (by rfl) (a_cons (q_var 0) (a_cons (q_callB c_len (by rfl) m_len PySem.boot_len (a_cons (q_ix (q_var 5) q_int (fun _ _ => rfl)) a_nil)) a_nil))) (a_cons (q_call C_law_draw hr (by decide) (by rfl) (a_cons (q_var 0) (a_cons q_int a_nil))) a_nil)))) a_nil))))) x_nil)))) (x_cons (x_setLc 10 (own := [("loft", 11)]) rfl nd (by rfl) (by rfl) (by rfl) (i_seq (q_ix (q_var 5) q_int (fun _ _ => rfl))) (blkOk_by (own := [("loft", 11)]) (N := ["box", "lofts", "birds", "races", "names", "rows", "size", "k", "rings", "ring", "places", "loft", "x", "y", "start", "close", "dusk", "dawn"]) (sc := defScope s_law_club) (by decide +kernel)) (fun _ _ _ _ _ => n_name 11 nd (by decide)) (fun _ _ _ _ _ => ts_nil) (fun _ _ _ _ _ => (q_slice (q_var 11) (p_some q_int) p_none))) (x_cons (x_for PassesOwn.never rfl (i_rng1 (by rfl) m_range (q_bin o_add q_int (q_call C_law_draw hr (by decide) (by rfl) (a_cons (q_var 0) (a_cons (q_var 3) a_nil))))) (g_name 7 nd) (x_cons (x_set 12 nd (q_call C_law_number hr (by decide) (by rfl) (a_cons (q_var 0) (a_cons (q_var 6) a_nil)))) (x_cons (x_set 13 nd (q_call C_law_number hr (by decide) (by rfl) (a_cons (q_var 0) (a_cons (q_var 6) a_nil)))) (x_one (x_if (t_cmp (o_ninS hr) (q_tup (a_cons (q_var 12) (a_cons (q_var 13) a_nil))) (q_var 10) (by rfl)) (x_cons (x_expr (q_m ty_list PySem.F.plainAttrs_list PySem.F.slot_list_append PySem.F.type_list_append m_append (q_var 4) (a_cons (q_call C_law_word hr (by decide) (by rfl) (a_cons (q_var 0) (a_cons (q_var 4) a_nil))) a_nil))) (x_cons (x_set 14 nd (q_ix (q_lst (a_cons (q_call C_law_draw hr (by decide) (by rfl) (a_cons (q_var 0) (a_cons q_int a_nil))) (a_cons (q_bin o_mulS q_int (q_call C_law_draw hr (by decide) (by rfl) (a_cons (q_var 0) (a_cons q_int a_nil)))) a_nil))) (q_call C_law_draw hr (by decide) (by rfl) (a_cons (q_var 0) (a_cons q_int a_nil))) (fun _ _ => rfl))) (x_cons (x_set 15 nd (q_bin o_add (q_bin o_add (q_var 14) q_int) (q_bin o_mulS (q_call C_law_draw hr (by decide) (by rfl) (a_cons (q_var 0) (a_cons (q_ix (q_lst (a_cons q_int (a_cons q_int a_nil))) (q_call C_law_draw hr (by decide) (by rfl) (a_cons (q_var 0) (a_cons q_int a_nil))) (fun _ _ => rfl)) a_nil))) (q_ix (q_lst (a_cons q_int (a_cons q_int a_nil))) (q_call C_law_draw hr (by decide) (by rfl) (a_cons (q_var 0) (a_cons q_int a_nil))) (fun _ _ => rfl))))) (x_cons (x_set 16 nd (q_bin o_add (q_call C_law_draw hr (by decide) (by rfl) (a_cons (q_var 0) (a_cons q_int a_nil))) (q_bin o_mulS q_int (q_call C_law_draw hr (by decide) (by rfl) (a_cons (q_var 0) (a_cons q_int a_nil)))))) (x_cons (x_set 17 nd (q_ix (q_lst (a_cons (q_call C_law_draw hr (by decide) (by rfl) (a_cons (q_var 0) (a_cons q_int a_nil))) (a_cons (q_var 16) a_nil))) (q_bin o_fdiv (q_call C_law_draw hr (by decide) (by rfl) (a_cons (q_var 0) (a_cons q_int a_nil))) q_int) (fun _ _ => rfl))) (x_one (x_expr (q_m ty_list PySem.F.plainAttrs_list PySem.F.slot_list_append PySem.F.type_list_append m_append (q_ix (q_var 5) q_int (fun _ _ => rfl)) (a_cons (q_tup (a_cons (q_ix (q_var 4) (q_un o_neg q_int) (fun _ _ => rfl)) (a_cons (q_var 12) (a_cons (q_var 13) (a_cons (q_var 14) (a_cons (q_var 15) (a_cons (q_var 16) (a_cons (q_var 17) a_nil)))))))) a_nil))))))))) x_nil))))) (x_one (x_ret (q_tup (a_cons (q_callTy c_tuple (by rfl) m_tuple (by decide +kernel) (a_cons (q_ix (q_var 5) q_int (fun _ _ => rfl)) a_nil)) (a_cons (q_callTy c_tuple (by rfl) m_tuple (by decide +kernel) (a_cons (q_ix (q_var 5) q_int (fun _ _ => rfl)) a_nil)) (a_cons (q_callTy c_tuple (by rfl) m_tuple (by decide +kernel) (a_cons (q_ix (q_var 5) q_int (fun _ _ => rfl)) a_nil)) a_nil))))))))))))))
theorem ok_law_cell {f : Addr} {fd : FuncData} (F : Fun K "_law_cell" "_law_cell" s_law_cell f fd) (m_len : mg "len" = none) : FnOk P w K mg base CX0 1 f fd ["script", "k"] (SpQ K 2 f_law_cell) :=
  okQ F sc_law_cell b_law_cell fun cdv A outer s H E hr => by
    have nd := sc_law_cell.nd
    exact (x_cons (x_if (t_cmp o_lt (q_var 1) (q_callB c_len (by rfl) m_len PySem.boot_len (a_cons (q_var 0) a_nil)) (nomark _)) (x_one (x_ret (q_ix (q_var 0) (q_var 1) (fun _ _ => rfl)))) x_nil) (x_one (x_ret q_int)))
theorem ok_law_digits {f : Addr} {fd : FuncData} (F : Fun K "_law_digits" "_law_digits" s_law_digits f fd) (C_law_cell : Cal P w K mg base "_law_cell" 2 1 f_law_cell) (m_range : mg "range" = none) (m_int : mg "int" = none) : FnOk P w K mg base CX0 2 f fd ["script", "first", "last"] (SpQ K 3 f_law_digits) :=
  okQ F sc_law_digits b_law_digits fun cdv A outer s H E hr => by
    have nd := sc_law_digits.nd
    exact (x_cons (x_set 3 nd (q_lst a_nil)) (x_cons (x_for PassesOwn.never rfl (i_rng2 (by rfl) m_range (q_var 1) (q_var 2)) (g_name 4 nd) (x_cons (x_set 5 nd (q_call C_law_cell hr (by decide) (by rfl) (a_cons (q_var 0) (a_cons (q_var 4) a_nil)))) (x_cons (x_if (t_cmp o_lt (q_var 5) q_int (nomark _)) (x_one (x_set 5 nd (q_bin o_sub q_int (q_bin o_mulS q_int (q_var 5))))) x_nil) (x_one (x_if (t_cmp o_ge (q_var 5) (q_bin o_pow q_int q_int) (nomark _)) (x_one (x_for PassesOwn.never rfl (i_rng1 (by rfl) m_range q_int) (g_name 6 nd) (x_one (x_if (t_cmp o_gt (q_var 5) q_int (nomark _)) (x_cons (x_expr (q_m ty_list PySem.F.plainAttrs_list PySem.F.slot_list_append PySem.F.type_list_append m_append (q_var 3) (a_cons (q_bin o_mod (q_callTy c_int (by rfl) m_int (by decide +kernel) (a_cons (q_var 5) a_nil)) q_int) a_nil))) (x_one (x_set 5 nd (q_bin o_fdiv (q_var 5) q_int)))) x_nil)))) (x_cons (x_set 7 nd (q_bin o_mod (q_callTy c_int (by rfl) m_int (by decide +kernel) (a_cons (q_bin o_add (q_bin o_add (q_bin o_mulS (q_var 5) q_int) (q_bin o_mulS (q_var 4) q_int)) q_int) a_nil)) q_int)) (x_one (x_for PassesOwn.never rfl (i_rng1 (by rfl) m_range q_int) (g_name 6 nd) (x_cons (x_set 7 nd (q_bin o_mod (q_callTy c_int (by rfl) m_int (by decide +kernel) (a_cons (q_bin o_add (q_bin o_add (q_bin o_mulS (q_var 7) q_int) (q_bin o_mulS q_int (q_var 6))) q_int) a_nil)) q_int)) (x_one (x_expr (q_m ty_list PySem.F.plainAttrs_list PySem.F.slot_list_append PySem.F.type_list_append m_append (q_var 3) (a_cons (q_bin o_mod (q_callTy c_int (by rfl) m_int (by decide +kernel) (a_cons (q_bin o_fdiv (q_var 7) q_int) a_nil)) q_int) a_nil))))))))))))) (x_one (x_ret (q_var 3)))))
theorem ok_law_is_dark {f : Addr} {fd : FuncData} (F : Fun K "_law_is_dark" "_law_is_dark" s_law_is_dark f fd) : FnOk P w K mg base CX0 1 f fd ["race", "minute"] (SpQ K 2 f_law_is_dark) :=
  okQ F sc_law_is_dark b_law_is_dark fun cdv A outer s H E hr => by
    have nd := sc_law_is_dark.nd
    exact (x_cons (x_set 2 nd (q_bin o_mod (q_var 1) q_int)) (x_cons (x_if (t_cmp o_le (q_ix (q_var 0) q_int (fun _ _ => rfl)) (q_ix (q_var 0) q_int (fun _ _ => rfl)) (nomark _)) (x_one (x_ret (q_chain o_le o_lt (q_ix (q_var 0) q_int (fun _ _ => rfl)) (q_var 2) (q_ix (q_var 0) q_int (fun _ _ => rfl))))) x_nil) (x_one (x_ret (q_or (q_cmp o_ge (q_var 2) (q_ix (q_var 0) q_int (fun _ _ => rfl)) (nomark _)) (q_bo1 (q_cmp o_lt (q_var 2) (q_ix (q_var 0) q_int (fun _ _ => rfl)) (nomark _))))))))
theorem ok_law_less {f : Addr} {fd : FuncData} (F : Fun K "_law_less" "_law_less" s_law_less f fd) : FnOk P w K mg base CX0 1 f fd ["one", "other"] (SpQ K 2 f_law_less) :=
  okQ F sc_law_less b_law_less fun cdv A outer s H E hr => by
    have nd := sc_law_less.nd
    exact (x_one (x_ret (q_cmp o_lt (q_bin o_mulS (q_ix (q_var 0) q_int (fun _ _ => rfl)) (q_ix (q_var 1) q_int (fun _ _ => rfl))) (q_bin o_mulS (q_ix (q_var 1) q_int (fun _ _ => rfl)) (q_ix (q_var 0) q_int (fun _ _ => rfl))) (nomark _))))
theorem ok_law_low {f : Addr} {fd : FuncData} (F : Fun K "_law_low" "_law_low" s_law_low f fd) (m_abs : mg "abs" = none) (m_range : mg "range" = none) (m_int : mg "int" = none) : FnOk P w K mg base CX0 1 f fd ["p", "q"] (SpQ K 2 f_law_low) :=
  okQ F sc_law_low b_law_low fun cdv A outer s H E hr => by
    have nd := sc_law_low.nd
    exact (x_cons (x_if (t_cmp o_lt (q_var 1) q_int (nomark _)) (x_cons (x_set 0 nd (q_un o_neg (q_var 0))) (x_one (x_set 1 nd (q_un o_neg (q_var 1))))) x_nil) (x_cons (x_set 2 nd (q_callB c_abs (by rfl) m_abs (by decide +kernel) (a_cons (q_var 0) a_nil))) (x_cons (x_set 3 nd (q_var 1)) (x_cons (x_for PassesOwn.never rfl (i_rng1 (by rfl) m_range q_int) (g_name 4 nd) (x_one (x_if (t_cmp o_gt (q_var 2) q_int (nomark _)) (x_one (x_par 2 3 rfl nd (q_bin o_mod (q_callTy c_int (by rfl) m_int (by decide +kernel) (a_cons (q_var 3) a_nil)) (q_var 2)) (q_var 2))) x_nil))) (x_one (x_ret (q_tup (a_cons (q_bin o_fdiv (q_var 0) (q_var 3)) (a_cons (q_bin o_fdiv (q_var 1) (q_var 3)) a_nil)))))))))
theorem ok_law_plus {f : Addr} {fd : FuncData} (F : Fun K "_law_plus" "_law_plus" s_law_plus f fd) (C_law_low : Cal P w K mg base "_law_low" 2 1 f_law_low) : FnOk P w K mg base CX0 2 f fd ["one", "other"] (SpQ K 2 f_law_plus) :=
  okQ F sc_law_plus b_law_plus fun cdv A outer s H E hr => by
    have nd := sc_law_plus.nd
    exact (x_one (x_ret (q_call C_law_low hr (by decide) (by rfl) (a_cons (q_bin o_add (q_bin o_mulS (q_ix (q_var 0) q_int (fun _ _ => rfl)) (q_ix (q_var 1) q_int (fun _ _ => rfl))) (q_bin o_mulS (q_ix (q_var 1) q_int (fun _ _ => rfl)) (q_ix (q_var 0) q_int (fun _ _ => rfl)))) (a_cons (q_bin o_mulS (q_ix (q_var 0) q_int (fun _ _ => rfl)) (q_ix (q_var 1) q_int (fun _ _ => rfl))) a_nil)))))
theorem ok_law_dark {f : Addr} {fd : FuncData} (F : Fun K "_law_dark" "_law_dark" s_law_dark f fd) (C_law_is_dark : Cal P w K mg base "_law_is_dark" 2 1 f_law_is_dark) (C_law_less : Cal P w K mg base "_law_less" 2 1 f_law_less) (C_law_plus : Cal P w K mg base "_law_plus" 2 2 f_law_plus) (m_range : mg "range" = none) (m_int : mg "int" = none) : FnOk P w K mg base CX0 3 f fd ["race", "first", "last"] (SpQ K 3 f_law_dark) :=
  okQ F sc_law_dark b_law_dark fun cdv A outer s H E hr => by
    have nd := sc_law_dark.nd
    exact (x_cons (x_set 3 nd (q_tup (a_cons q_int (a_cons q_int a_nil)))) (x_cons (x_set 4 nd q_int) (x_cons (x_for PassesOwn.never rfl (i_rng2 (by rfl) m_range (q_bin o_fdiv (q_ix (q_var 1) q_int (fun _ _ => rfl)) (q_ix (q_var 1) q_int (fun _ _ => rfl))) (q_bin o_add (q_bin o_fdiv (q_ix (q_var 2) q_int (fun _ _ => rfl)) (q_ix (q_var 2) q_int (fun _ _ => rfl))) q_int)) (g_name 5 nd) (x_one (x_if (t_w (w_and (t_cmp o_ge (q_bin o_mulS (q_var 5) (q_ix (q_var 1) q_int (fun _ _ => rfl))) (q_ix (q_var 1) q_int (fun _ _ => rfl)) (nomark _)) (w_and1 (t_cmp o_le (q_bin o_mulS (q_bin o_add (q_var 5) q_int) (q_ix (q_var 2) q_int (fun _ _ => rfl))) (q_ix (q_var 2) q_int (fun _ _ => rfl)) (nomark _))))) (x_one (x_set 4 nd (q_bin o_add (q_var 4) (q_callTy c_int (by rfl) m_int (by decide +kernel) (a_cons (q_call C_law_is_dark hr (by decide) (by rfl) (a_cons (q_var 0) (a_cons (q_var 5) a_nil))) a_nil))))) (x_one (x_if (t_val (q_call C_law_is_dark hr (by decide) (by rfl) (a_cons (q_var 0) (a_cons (q_var 5) a_nil)))) (x_cons (x_set 6 nd (q_tup (a_cons (q_var 5) (a_cons q_int a_nil)))) (x_cons (x_set 7 nd (q_tup (a_cons (q_bin o_add (q_var 5) q_int) (a_cons q_int a_nil)))) (x_cons (x_if (t_val (q_call C_law_less hr (by decide) (by rfl) (a_cons (q_var 6) (a_cons (q_var 1) a_nil)))) (x_one (x_set 6 nd (q_var 1))) x_nil) (x_cons (x_if (t_val (q_call C_law_less hr (by decide) (by rfl) (a_cons (q_var 2) (a_cons (q_var 7) a_nil)))) (x_one (x_set 7 nd (q_var 2))) x_nil) (x_one (x_if (t_val (q_call C_law_less hr (by decide) (by rfl) (a_cons (q_var 6) (a_cons (q_var 7) a_nil)))) (x_one (x_set 3 nd (q_call C_law_plus hr (by decide) (by rfl) (a_cons (q_var 3) (a_cons (q_call C_law_plus hr (by decide) (by rfl) (a_cons (q_var 7) (a_cons (q_tup (a_cons (q_bin o_sub q_int (q_ix (q_var 6) q_int (fun _ _ => rfl))) (a_cons (q_ix (q_var 6) q_int (fun _ _ => rfl)) a_nil))) a_nil))) a_nil))))) x_nil)))))) x_nil))))) (x_one (x_ret (q_call C_law_plus hr (by decide) (by rfl) (a_cons (q_var 3) (a_cons (q_tup (a_cons (q_var 4) (a_cons q_int a_nil))) a_nil))))))))
theorem ok_law_flight {f : Addr} {fd : FuncData} (F : Fun K "_law_flight" "_law_flight" s_law_flight f fd) (C_law_dark : Cal P w K mg base "_law_dark" 3 3 f_law_dark) (C_law_plus : Cal P w K mg base "_law_plus" 2 2 f_law_plus) : FnOk P w K mg base CX0 4 f fd ["race", "time"] (SpQ K 2 f_law_flight) :=
  okQ F sc_law_flight b_law_flight fun cdv A outer s H E hr => by
    have nd := sc_law_flight.nd
    exact (x_cons (x_set 2 nd (q_tup (a_cons (q_ix (q_var 0) q_int (fun _ _ => rfl)) (a_cons q_int a_nil)))) (x_cons (x_set 3 nd (q_call C_law_dark hr (by decide) (by rfl) (a_cons (q_var 0) (a_cons (q_var 2) (a_cons (q_var 1) a_nil))))) (x_one (x_ret (q_call C_law_plus hr (by decide) (by rfl) (a_cons (q_call C_law_plus hr (by decide) (by rfl) (a_cons (q_var 1) (a_cons (q_tup (a_cons (q_bin o_sub q_int (q_ix (q_var 0) q_int (fun _ _ => rfl))) (a_cons q_int a_nil))) a_nil))) (a_cons (q_tup (a_cons (q_bin o_sub q_int (q_ix (q_var 3) q_int (fun _ _ => rfl))) (a_cons (q_ix (q_var 3) q_int (fun _ _ => rfl)) a_nil))) a_nil)))))))
theorem ok_law_same {f : Addr} {fd : FuncData} (F : Fun K "_law_same" "_law_same" s_law_same f fd) (hm : mg "_law_same" = some (.ref f)) (hb : Binds K fd ["actual", "due"] []) (m_isinstance : mg "isinstance" = none) (m_list : mg "list" = none) (m_tuple : mg "tuple" = none) (m_len : mg "len" = none) (m_range : mg "range" = none) (m_bool : mg "bool" = none) (m_str : mg "str" = none) (m_int : mg "int" = none) : ∀ n : Nat, FnOk P w K mg base CX0 (1 + n) f fd ["actual", "due"] (SpQ K 2 (f_law_same n))
  | 0 => ⟨fun _ _ _ _ h => h.1, fun A outer s H args us vs Q E hr e0 hb hv ⟨_, φ, m, xs, h1, h2, h3⟩ => h3.elim⟩
  | n + 1 => by
    have C_law_same : Cal P w K mg base "_law_same" 2 (1 + n) (f_law_same n) := cal_mk rfl (ok_law_same F hm hb m_isinstance m_list m_tuple m_len m_range m_bool m_str m_int n) F hm hb
    exact okQ F sc_law_same (b_law_same (f_law_same n)) fun cdv A outer s H E hr => by
      have nd := sc_law_same.nd
      exact (x_cons (x_if (t_w (w_or (t_val (q_isi (T := "list") (by decide) (by rfl) m_isinstance (by rfl) m_list (by decide +kernel) (q_var 1))) (w_or1 (t_val (q_isi (T := "tuple") (by decide) (by rfl) m_isinstance (by rfl) m_tuple (by decide +kernel) (q_var 1)))))) (x_cons (x_if (t_w (w_or (t_cmp (o_ne hr) (q_isi (T := "list") (by decide) (by rfl) m_isinstance (by rfl) m_list (by decide +kernel) (q_var 1)) (q_isi (T := "list") (by decide) (by rfl) m_isinstance (by rfl) m_list (by decide +kernel) (q_var 0)) (nomark _)) (w_or1 (t_cmp (o_ne hr) (q_isi (T := "tuple") (by decide) (by rfl) m_isinstance (by rfl) m_tuple (by decide +kernel) (q_var 1)) (q_isi (T := "tuple") (by decide) (by rfl) m_isinstance (by rfl) m_tuple (by decide +kernel) (q_var 0)) (nomark _))))) (x_one (x_ret q_bl)) x_nil) (x_cons (x_if (t_cmp (o_ne hr) (q_callB c_len (by rfl) m_len PySem.boot_len (a_cons (q_var 0) a_nil)) (q_callB c_len (by rfl) m_len PySem.boot_len (a_cons (q_var 1) a_nil)) (nomark _)) (x_one (x_ret q_bl)) x_nil) (x_cons (x_for PassesOwn.never rfl (i_rng1 (by rfl) m_range (q_callB c_len (by rfl) m_len PySem.boot_len (a_cons (q_var 1) a_nil))) (g_name 2 nd) (x_one (x_if (t_not (t_val (q_call C_law_same hr (Nat.le_refl _) (by rfl) (a_cons (q_ix (q_var 0) (q_var 2) (fun _ _ => rfl)) (a_cons (q_ix (q_var 1) (q_var 2) (fun _ _ => rfl)) a_nil))))) (x_one (x_ret q_bl)) x_nil))) (x_one (x_ret q_bl))))) x_nil) (x_cons (x_if (t_cmp o_is (q_var 1) q_non (nomark _)) (x_one (x_ret (q_cmp o_is (q_var 0) q_non (nomark _)))) x_nil) (x_cons (x_if (t_val (q_isi (T := "bool") (by decide) (by rfl) m_isinstance (by rfl) m_bool (by decide +kernel) (q_var 1))) (x_one (x_ret (q_and (q_isi (T := "bool") (by decide) (by rfl) m_isinstance (by rfl) m_bool (by decide +kernel) (q_var 0)) (q_bo1 (q_cmp (o_eq hr) (q_var 0) (q_var 1) (nomark _)))))) x_nil) (x_cons (x_if (t_val (q_isi (T := "str") (by decide) (by rfl) m_isinstance (by rfl) m_str (by decide +kernel) (q_var 1))) (x_one (x_ret (q_and (q_isi (T := "str") (by decide) (by rfl) m_isinstance (by rfl) m_str (by decide +kernel) (q_var 0)) (q_bo1 (q_cmp (o_eq hr) (q_var 0) (q_var 1) (nomark _)))))) x_nil) (x_one (x_ret (q_and (q_isi (T := "int") (by decide) (by rfl) m_isinstance (by rfl) m_int (by decide +kernel) (q_var 0)) (q_and (q_not (q_isi (T := "bool") (by decide) (by rfl) m_isinstance (by rfl) m_bool (by decide +kernel) (q_var 0))) (q_bo1 (q_cmp (o_eq hr) (q_var 0) (q_var 1) (nomark _)))))))))))
theorem ok_dark_of_day {f : Addr} {fd : FuncData} (F : Fun K "dark_of_day" "dark_of_day" s_dark_of_day f fd) (m_min : mg "min" = none) (m_max : mg "max" = none) : FnOk P w K mg base CX0 1 f fd ["dusk", "dawn", "end"] (SpQ K 3 f_dark_of_day) :=
  okQ F sc_dark_of_day b_dark_of_day fun cdv A outer s H E hr => by
    have nd := sc_dark_of_day.nd
    exact (x_cons (x_if (t_cmp o_le (q_var 0) (q_var 1) (nomark _)) (x_one (x_ret (q_callB (c_max2 rfl) (by rfl) m_max (by decide +kernel) (a_cons q_int (a_cons (q_bin o_sub (q_callB (c_min2 rfl) (by rfl) m_min (by decide +kernel) (a_cons (q_var 2) (a_cons (q_var 1) a_nil))) (q_var 0)) a_nil))))) x_nil) (x_one (x_ret (q_bin o_add (q_callB (c_min2 rfl) (by rfl) m_min (by decide +kernel) (a_cons (q_var 2) (a_cons (q_var 1) a_nil))) (q_callB (c_max2 rfl) (by rfl) m_max (by decide +kernel) (a_cons q_int (a_cons (q_bin o_sub (q_var 2) (q_var 0)) a_nil)))))))
theorem ok_lowest {f : Addr} {fd : FuncData} (F : Fun K "lowest" "lowest" s_lowest f fd) (m_gcd : mg "gcd" = some (.builtin "math.gcd")) : FnOk P w K mg base CX0 1 f fd ["p", "q"] (SpQ K 2 f_lowest) :=
  okQ F sc_lowest b_lowest fun cdv A outer s H E hr => by
    have nd := sc_lowest.nd
    exact (x_cons (x_set 2 nd (q_callF c_gcd (by rfl) m_gcd (a_cons (q_var 0) (a_cons (q_var 1) a_nil)))) (x_cons (x_if (t_cmp o_lt (q_var 1) q_int (nomark _)) (x_one (x_set 2 nd (q_un o_neg (q_var 2)))) x_nil) (x_one (x_ret (q_tup (a_cons (q_bin o_fdiv (q_var 0) (q_var 2)) (a_cons (q_bin o_fdiv (q_var 1) (q_var 2)) a_nil)))))))
theorem ok_dark_until {f : Addr} {fd : FuncData} (F : Fun K "dark_until" "dark_until" s_dark_until f fd) (C_dark_of_day : Cal P w K mg base "dark_of_day" 3 1 f_dark_of_day) (C_lowest : Cal P w K mg base "lowest" 2 1 f_lowest) {t_DAY : Tok} (m_DAY : mg "DAY" = some (.int 1440 t_DAY)) : FnOk P w K mg base CX0 2 f fd ["race", "time"] (SpQ K 2 f_dark_until) :=
  okQ F sc_dark_until b_dark_until fun cdv A outer s H E hr => by
    have nd := sc_dark_until.nd
    exact (x_cons (x_par 2 3 rfl nd (q_ix (q_var 0) q_int (fun _ _ => rfl)) (q_ix (q_var 0) q_int (fun _ _ => rfl))) (x_cons (x_asg (q_var 1) (g_tup (n := 2) rfl (gs_cons (g_name 4 nd) (gs_cons (g_name 5 nd) gs_nil)))) (x_cons (x_set 6 nd (q_bin o_fdiv (q_var 4) (q_bin o_mulS (q_globI (by rfl) m_DAY) (q_var 5)))) (x_cons (x_set 7 nd (q_bin o_mulS (q_bin o_mulS (q_var 6) (q_bin o_mod (q_bin o_sub (q_var 3) (q_var 2)) (q_globI (by rfl) m_DAY))) (q_var 5))) (x_one (x_ret (q_call C_lowest hr (by decide) (by rfl) (a_cons (q_bin o_add (q_var 7) (q_call C_dark_of_day hr (by decide) (by rfl) (a_cons (q_bin o_mulS (q_var 2) (q_var 5)) (a_cons (q_bin o_mulS (q_var 3) (q_var 5)) (a_cons (q_bin o_sub (q_var 4) (q_bin o_mulS (q_bin o_mulS (q_var 6) (q_globI (by rfl) m_DAY)) (q_var 5))) a_nil))))) (a_cons (q_var 5) a_nil)))))))))
theorem ok_minus {f : Addr} {fd : FuncData} (F : Fun K "minus" "minus" s_minus f fd) (C_lowest : Cal P w K mg base "lowest" 2 1 f_lowest) : FnOk P w K mg base CX0 2 f fd ["one", "other"] (SpQ K 2 f_minus) :=
  okQ F sc_minus b_minus fun cdv A outer s H E hr => by
    have nd := sc_minus.nd
    exact (x_cons (x_asg (q_var 0) (g_tup (n := 2) rfl (gs_cons (g_name 2 nd) (gs_cons (g_name 3 nd) gs_nil)))) (x_cons (x_asg (q_var 1) (g_tup (n := 2) rfl (gs_cons (g_name 4 nd) (gs_cons (g_name 5 nd) gs_nil)))) (x_one (x_ret (q_call C_lowest hr (by decide) (by rfl) (a_cons (q_bin o_sub (q_bin o_mulS (q_var 2) (q_var 5)) (q_bin o_mulS (q_var 4) (q_var 3))) (a_cons (q_bin o_mulS (q_var 3) (q_var 5)) a_nil)))))))
theorem ok_dark_part {f : Addr} {fd : FuncData} (F : Fun K "dark_part" "dark_part" s_dark_part f fd) (C_dark_until : Cal P w K mg base "dark_until" 2 2 f_dark_until) (C_minus : Cal P w K mg base "minus" 2 2 f_minus) : FnOk P w K mg base CX0 3 f fd ["race", "first", "last"] (SpQ K 3 f_dark_part) :=
  okQ F sc_dark_part b_dark_part fun cdv A outer s H E hr => by
    have nd := sc_dark_part.nd
    exact (x_one (x_ret (q_call C_minus hr (by decide) (by rfl) (a_cons (q_call C_dark_until hr (by decide) (by rfl) (a_cons (q_var 0) (a_cons (q_var 2) a_nil))) (a_cons (q_call C_dark_until hr (by decide) (by rfl) (a_cons (q_var 0) (a_cons (q_var 1) a_nil))) a_nil)))))
theorem ok_flight {f : Addr} {fd : FuncData} (F : Fun K "flight" "flight" s_flight f fd) (C_minus : Cal P w K mg base "minus" 2 2 f_minus) (C_dark_part : Cal P w K mg base "dark_part" 3 3 f_dark_part) : FnOk P w K mg base CX0 4 f fd ["race", "time"] (SpQ K 2 f_flight) :=
  okQ F sc_flight b_flight fun cdv A outer s H E hr => by
    have nd := sc_flight.nd
    exact (x_cons (x_set 2 nd (q_tup (a_cons (q_ix (q_var 0) q_int (fun _ _ => rfl)) (a_cons q_int a_nil)))) (x_one (x_ret (q_call C_minus hr (by decide) (by rfl) (a_cons (q_call C_minus hr (by decide) (by rfl) (a_cons (q_var 1) (a_cons (q_var 2) a_nil))) (a_cons (q_call C_dark_part hr (by decide) (by rfl) (a_cons (q_var 0) (a_cons (q_var 2) (a_cons (q_var 1) a_nil)))) a_nil))))))
theorem ok_law {f : Addr} {fd : FuncData} (F : Fun K "law" "law" s_law f fd) (C_law_digits : Cal P w K mg base "_law_digits" 3 2 f_law_digits) (C_law_club : Cal P w K mg base "_law_club" 4 4 f_law_club) (C_law_draw : Cal P w K mg base "_law_draw" 2 1 f_law_draw) (C_law_low : Cal P w K mg base "_law_low" 2 1 f_law_low) (C_law_plus : Cal P w K mg base "_law_plus" 2 2 f_law_plus) (C_flight : Cal P w K mg base "flight" 2 4 f_flight) (C_law_flight : Cal P w K mg base "_law_flight" 2 4 f_law_flight) (C_law_same : Cal P w K mg base "_law_same" 2 9 (f_law_same 8)) (C_law_less : Cal P w K mg base "_law_less" 2 1 f_law_less) (m_range : mg "range" = none) : FnOk P w K mg base CX0 10 f fd ["script"] (SpQ K 1 f_law) :=
  okQ F sc_law b_law fun cdv A outer s H E hr => by
    have nd := sc_law.nd
    exact (x_cons (x_set 1 nd (q_lst (a_cons (q_call C_law_digits hr (by decide) (by rfl) (a_cons (q_var 0) (a_cons q_int (a_cons q_int a_nil)))) (a_cons q_int a_nil)))) (x_cons (x_set 2 nd (q_call C_law_club hr (by decide) (by rfl) (a_cons (q_var 1) (a_cons q_int (a_cons q_int (a_cons q_int a_nil)))))) (x_cons (x_for PassesOwn.never rfl (i_seq (q_ix (q_var 2) q_int (fun _ _ => rfl))) (g_name 3 nd) (x_cons (x_set 4 nd (q_tup (a_cons (q_ix (q_var 3) q_int (fun _ _ => rfl)) (a_cons q_int a_nil)))) (x_cons (x_set 5 nd (q_tup (a_cons q_int (a_cons q_int a_nil)))) (x_one (x_for PassesOwn.never rfl (i_rng1 (by rfl) m_range q_int) (g_name 6 nd) (x_cons (x_set 7 nd (q_bin o_add q_int (q_call C_law_draw hr (by decide) (by rfl) (a_cons (q_var 1) (a_cons q_int a_nil))))) (x_cons (x_set 8 nd (q_call C_law_low hr (by decide) (by rfl) (a_cons (q_bin o_add (q_bin o_mulS (q_call C_law_draw hr (by decide) (by rfl) (a_cons (q_var 1) (a_cons q_int a_nil))) (q_var 7)) (q_call C_law_draw hr (by decide) (by rfl) (a_cons (q_var 1) (a_cons (q_var 7) a_nil)))) (a_cons (q_var 7) a_nil)))) (x_cons (x_set 4 nd (q_call C_law_plus hr (by decide) (by rfl) (a_cons (q_var 4) (a_cons (q_var 8) a_nil)))) (x_cons (x_set 9 nd (q_call C_flight hr (by decide) (by rfl) (a_cons (q_var 3) (a_cons (q_var 4) a_nil)))) (x_cons (x_if (t_w (w_or (t_not (t_val (q_call C_law_same hr (by decide) (by rfl) (a_cons (q_var 9) (a_cons (q_call C_law_flight hr (by decide) (by rfl) (a_cons (q_var 3) (a_cons (q_var 4) a_nil))) a_nil))))) (w_or1 (t_val (q_call C_law_less hr (by decide) (by rfl) (a_cons (q_var 9) (a_cons (q_var 5) a_nil))))))) (x_one (x_ret q_bl)) x_nil) (x_cons (x_if (t_val (q_call C_law_less hr (by decide) (by rfl) (a_cons (q_call C_law_plus hr (by decide) (by rfl) (a_cons (q_var 5) (a_cons (q_var 8) a_nil))) (a_cons (q_var 9) a_nil)))) (x_one (x_ret q_bl)) x_nil) (x_one (x_set 5 nd (q_var 9)))))))))))))) (x_one (x_ret q_bl)))))
end
theorem all_mk {l : PySem.W.OpenLaw} {w : World} {K : PySem.W.Frag} {h : Heap} {mg : Str → Option Value} {fa : Addr} (X : K.In h) (G : h.Ns mainGlobals mg) (hfa : mg "law" = some (.ref fa))
    {f0 : Addr} {od0 an0 : Option Addr} {sl0 : Array (Option Value)} {oc0 kV0 dc0 pm0 cd0 ct0 : Value}
    (a0 : PySem.W.nsIn K mainGlobals "_law_draw" = some (some (.ref f0))) (l0 : K.lookup f0 = some ⟨oc0, od0, .func (PySem.W.fnOf "_law_draw" "_law_draw" (defArgs s_law_draw) (defBody s_law_draw) (defScope s_law_draw) .none kV0 dc0 pm0 an0 cd0 ct0), sl0⟩) (c0 : PySem.W.codeIn K cd0 "_law_draw" = true) (k0 : PySem.W.keepIn K (.ref f0) = true)
    {f1 : Addr} {od1 an1 : Option Addr} {sl1 : Array (Option Value)} {oc1 kV1 dc1 pm1 cd1 ct1 : Value}
    (a1 : PySem.W.nsIn K mainGlobals "_law_number" = some (some (.ref f1))) (l1 : K.lookup f1 = some ⟨oc1, od1, .func (PySem.W.fnOf "_law_number" "_law_number" (defArgs s_law_number) (defBody s_law_number) (defScope s_law_number) .none kV1 dc1 pm1 an1 cd1 ct1), sl1⟩) (c1 : PySem.W.codeIn K cd1 "_law_number" = true) (k1 : PySem.W.keepIn K (.ref f1) = true)
    {f2 : Addr} {od2 an2 : Option Addr} {sl2 : Array (Option Value)} {oc2 kV2 dc2 pm2 cd2 ct2 : Value}
    (a2 : PySem.W.nsIn K mainGlobals "_law_run" = some (some (.ref f2))) (l2 : K.lookup f2 = some ⟨oc2, od2, .func (PySem.W.fnOf "_law_run" "_law_run" (defArgs s_law_run) (defBody s_law_run) (defScope s_law_run) .none kV2 dc2 pm2 an2 cd2 ct2), sl2⟩) (c2 : PySem.W.codeIn K cd2 "_law_run" = true) (k2 : PySem.W.keepIn K (.ref f2) = true)
    {f3 : Addr} {od3 an3 : Option Addr} {sl3 : Array (Option Value)} {oc3 kV3 dc3 pm3 cd3 ct3 : Value}
    (a3 : PySem.W.nsIn K mainGlobals "_law_word" = some (some (.ref f3))) (l3 : K.lookup f3 = some ⟨oc3, od3, .func (PySem.W.fnOf "_law_word" "_law_word" (defArgs s_law_word) (defBody s_law_word) (defScope s_law_word) .none kV3 dc3 pm3 an3 cd3 ct3), sl3⟩) (c3 : PySem.W.codeIn K cd3 "_law_word" = true) (k3 : PySem.W.keepIn K (.ref f3) = true)
    {f4 : Addr} {od4 an4 : Option Addr} {sl4 : Array (Option Value)} {oc4 kV4 dc4 pm4 cd4 ct4 : Value}
    (a4 : PySem.W.nsIn K mainGlobals "_law_club" = some (some (.ref f4))) (l4 : K.lookup f4 = some ⟨oc4, od4, .func (PySem.W.fnOf "_law_club" "_law_club" (defArgs s_law_club) (defBody s_law_club) (defScope s_law_club) .none kV4 dc4 pm4 an4 cd4 ct4), sl4⟩) (c4 : PySem.W.codeIn K cd4 "_law_club" = true) (k4 : PySem.W.keepIn K (.ref f4) = true)
    {f5 : Addr} {od5 an5 : Option Addr} {sl5 : Array (Option Value)} {oc5 kV5 dc5 pm5 cd5 ct5 : Value}
    (a5 : PySem.W.nsIn K mainGlobals "_law_cell" = some (some (.ref f5))) (l5 : K.lookup f5 = some ⟨oc5, od5, .func (PySem.W.fnOf "_law_cell" "_law_cell" (defArgs s_law_cell) (defBody s_law_cell) (defScope s_law_cell) .none kV5 dc5 pm5 an5 cd5 ct5), sl5⟩) (c5 : PySem.W.codeIn K cd5 "_law_cell" = true) (k5 : PySem.W.keepIn K (.ref f5) = true)
    {f6 : Addr} {od6 an6 : Option Addr} {sl6 : Array (Option Value)} {oc6 kV6 dc6 pm6 cd6 ct6 : Value}
    (a6 : PySem.W.nsIn K mainGlobals "_law_digits" = some (some (.ref f6))) (l6 : K.lookup f6 = some ⟨oc6, od6, .func (PySem.W.fnOf "_law_digits" "_law_digits" (defArgs s_law_digits) (defBody s_law_digits) (defScope s_law_digits) .none kV6 dc6 pm6 an6 cd6 ct6), sl6⟩) (c6 : PySem.W.codeIn K cd6 "_law_digits" = true) (k6 : PySem.W.keepIn K (.ref f6) = true)
    {f7 : Addr} {od7 an7 : Option Addr} {sl7 : Array (Option Value)} {oc7 kV7 dc7 pm7 cd7 ct7 : Value}
    (a7 : PySem.W.nsIn K mainGlobals "_law_is_dark" = some (some (.ref f7))) (l7 : K.lookup f7 = some ⟨oc7, od7, .func (PySem.W.fnOf "_law_is_dark" "_law_is_dark" (defArgs s_law_is_dark) (defBody s_law_is_dark) (defScope s_law_is_dark) .none kV7 dc7 pm7 an7 cd7 ct7), sl7⟩) (c7 : PySem.W.codeIn K cd7 "_law_is_dark" = true) (k7 : PySem.W.keepIn K (.ref f7) = true)
    {f8 : Addr} {od8 an8 : Option Addr} {sl8 : Array (Option Value)} {oc8 kV8 dc8 pm8 cd8 ct8 : Value}
    (a8 : PySem.W.nsIn K mainGlobals "_law_less" = some (some (.ref f8))) (l8 : K.lookup f8 = some ⟨oc8, od8, .func (PySem.W.fnOf "_law_less" "_law_less" (defArgs s_law_less) (defBody s_law_less) (defScope s_law_less) .none kV8 dc8 pm8 an8 cd8 ct8), sl8⟩) (c8 : PySem.W.codeIn K cd8 "_law_less" = true) (k8 : PySem.W.keepIn K (.ref f8) = true)
    {f9 : Addr} {od9 an9 : Option Addr} {sl9 : Array (Option Value)} {oc9 kV9 dc9 pm9 cd9 ct9 : Value}
    (a9 : PySem.W.nsIn K mainGlobals "_law_low" = some (some (.ref f9))) (l9 : K.lookup f9 = some ⟨oc9, od9, .func (PySem.W.fnOf "_law_low" "_law_low" (defArgs s_law_low) (defBody s_law_low) (defScope s_law_low) .none kV9 dc9 pm9 an9 cd9 ct9), sl9⟩) (c9 : PySem.W.codeIn K cd9 "_law_low" = true) (k9 : PySem.W.keepIn K (.ref f9) = true)
    {f10 : Addr} {od10 an10 : Option Addr} {sl10 : Array (Option Value)} {oc10 kV10 dc10 pm10 cd10 ct10 : Value}
    (a10 : PySem.W.nsIn K mainGlobals "_law_plus" = some (some (.ref f10))) (l10 : K.lookup f10 = some ⟨oc10, od10, .func (PySem.W.fnOf "_law_plus" "_law_plus" (defArgs s_law_plus) (defBody s_law_plus) (defScope s_law_plus) .none kV10 dc10 pm10 an10 cd10 ct10), sl10⟩) (c10 : PySem.W.codeIn K cd10 "_law_plus" = true) (k10 : PySem.W.keepIn K (.ref f10) = true)
    {f11 : Addr} {od11 an11 : Option Addr} {sl11 : Array (Option Value)} {oc11 kV11 dc11 pm11 cd11 ct11 : Value}
    (a11 : PySem.W.nsIn K mainGlobals "_law_dark" = some (some (.ref f11))) (l11 : K.lookup f11 = some ⟨oc11, od11, .func (PySem.W.fnOf "_law_dark" "_law_dark" (defArgs s_law_dark) (defBody s_law_dark) (defScope s_law_dark) .none kV11 dc11 pm11 an11 cd11 ct11), sl11⟩) (c11 : PySem.W.codeIn K cd11 "_law_dark" = true) (k11 : PySem.W.keepIn K (.ref f11) = true)
    {f12 : Addr} {od12 an12 : Option Addr} {sl12 : Array (Option Value)} {oc12 kV12 dc12 pm12 cd12 ct12 : Value}
    (a12 : PySem.W.nsIn K mainGlobals "_law_flight" = some (some (.ref f12))) (l12 : K.lookup f12 = some ⟨oc12, od12, .func (PySem.W.fnOf "_law_flight" "_law_flight" (defArgs s_law_flight) (defBody s_law_flight) (defScope s_law_flight) .none kV12 dc12 pm12 an12 cd12 ct12), sl12⟩) (c12 : PySem.W.codeIn K cd12 "_law_flight" = true) (k12 : PySem.W.keepIn K (.ref f12) = true)
    {f13 : Addr} {od13 an13 : Option Addr} {sl13 : Array (Option Value)} {oc13 kV13 dc13 pm13 cd13 ct13 : Value}
    (a13 : PySem.W.nsIn K mainGlobals "_law_same" = some (some (.ref f13))) (l13 : K.lookup f13 = some ⟨oc13, od13, .func (PySem.W.fnOf "_law_same" "_law_same" (defArgs s_law_same) (defBody s_law_same) (defScope s_law_same) .none kV13 dc13 pm13 an13 cd13 ct13), sl13⟩) (c13 : PySem.W.codeIn K cd13 "_law_same" = true) (k13 : PySem.W.keepIn K (.ref f13) = true)
    {f14 : Addr} {od14 an14 : Option Addr} {sl14 : Array (Option Value)} {oc14 kV14 dc14 pm14 cd14 ct14 : Value}
    (a14 : PySem.W.nsIn K mainGlobals "dark_of_day" = some (some (.ref f14))) (l14 : K.lookup f14 = some ⟨oc14, od14, .func (PySem.W.fnOf "dark_of_day" "dark_of_day" (defArgs s_dark_of_day) (defBody s_dark_of_day) (defScope s_dark_of_day) .none kV14 dc14 pm14 an14 cd14 ct14), sl14⟩) (c14 : PySem.W.codeIn K cd14 "dark_of_day" = true) (k14 : PySem.W.keepIn K (.ref f14) = true)
    {f15 : Addr} {od15 an15 : Option Addr} {sl15 : Array (Option Value)} {oc15 kV15 dc15 pm15 cd15 ct15 : Value}
    (a15 : PySem.W.nsIn K mainGlobals "lowest" = some (some (.ref f15))) (l15 : K.lookup f15 = some ⟨oc15, od15, .func (PySem.W.fnOf "lowest" "lowest" (defArgs s_lowest) (defBody s_lowest) (defScope s_lowest) .none kV15 dc15 pm15 an15 cd15 ct15), sl15⟩) (c15 : PySem.W.codeIn K cd15 "lowest" = true) (k15 : PySem.W.keepIn K (.ref f15) = true)
    {f16 : Addr} {od16 an16 : Option Addr} {sl16 : Array (Option Value)} {oc16 kV16 dc16 pm16 cd16 ct16 : Value}
    (a16 : PySem.W.nsIn K mainGlobals "dark_until" = some (some (.ref f16))) (l16 : K.lookup f16 = some ⟨oc16, od16, .func (PySem.W.fnOf "dark_until" "dark_until" (defArgs s_dark_until) (defBody s_dark_until) (defScope s_dark_until) .none kV16 dc16 pm16 an16 cd16 ct16), sl16⟩) (c16 : PySem.W.codeIn K cd16 "dark_until" = true) (k16 : PySem.W.keepIn K (.ref f16) = true)
    {f17 : Addr} {od17 an17 : Option Addr} {sl17 : Array (Option Value)} {oc17 kV17 dc17 pm17 cd17 ct17 : Value}
    (a17 : PySem.W.nsIn K mainGlobals "minus" = some (some (.ref f17))) (l17 : K.lookup f17 = some ⟨oc17, od17, .func (PySem.W.fnOf "minus" "minus" (defArgs s_minus) (defBody s_minus) (defScope s_minus) .none kV17 dc17 pm17 an17 cd17 ct17), sl17⟩) (c17 : PySem.W.codeIn K cd17 "minus" = true) (k17 : PySem.W.keepIn K (.ref f17) = true)
    {f18 : Addr} {od18 an18 : Option Addr} {sl18 : Array (Option Value)} {oc18 kV18 dc18 pm18 cd18 ct18 : Value}
    (a18 : PySem.W.nsIn K mainGlobals "dark_part" = some (some (.ref f18))) (l18 : K.lookup f18 = some ⟨oc18, od18, .func (PySem.W.fnOf "dark_part" "dark_part" (defArgs s_dark_part) (defBody s_dark_part) (defScope s_dark_part) .none kV18 dc18 pm18 an18 cd18 ct18), sl18⟩) (c18 : PySem.W.codeIn K cd18 "dark_part" = true) (k18 : PySem.W.keepIn K (.ref f18) = true)
    {f19 : Addr} {od19 an19 : Option Addr} {sl19 : Array (Option Value)} {oc19 kV19 dc19 pm19 cd19 ct19 : Value}
    (a19 : PySem.W.nsIn K mainGlobals "flight" = some (some (.ref f19))) (l19 : K.lookup f19 = some ⟨oc19, od19, .func (PySem.W.fnOf "flight" "flight" (defArgs s_flight) (defBody s_flight) (defScope s_flight) .none kV19 dc19 pm19 an19 cd19 ct19), sl19⟩) (c19 : PySem.W.codeIn K cd19 "flight" = true) (k19 : PySem.W.keepIn K (.ref f19) = true)
    {f20 : Addr} {od20 an20 : Option Addr} {sl20 : Array (Option Value)} {oc20 kV20 dc20 pm20 cd20 ct20 : Value}
    (a20 : PySem.W.nsIn K mainGlobals "law" = some (some (.ref f20))) (l20 : K.lookup f20 = some ⟨oc20, od20, .func (PySem.W.fnOf "law" "law" (defArgs s_law) (defBody s_law) (defScope s_law) .none kV20 dc20 pm20 an20 cd20 ct20), sl20⟩) (c20 : PySem.W.codeIn K cd20 "law" = true) (k20 : PySem.W.keepIn K (.ref f20) = true)
    (z_len : PySem.W.nsIn K mainGlobals "len" = some none)
    (z_int : PySem.W.nsIn K mainGlobals "int" = some none)
    (z_range : PySem.W.nsIn K mainGlobals "range" = some none)
    (z_tuple : PySem.W.nsIn K mainGlobals "tuple" = some none)
    (z_abs : PySem.W.nsIn K mainGlobals "abs" = some none)
    (z_isinstance : PySem.W.nsIn K mainGlobals "isinstance" = some none)
    (z_list : PySem.W.nsIn K mainGlobals "list" = some none)
    (z_bool : PySem.W.nsIn K mainGlobals "bool" = some none)
    (z_str : PySem.W.nsIn K mainGlobals "str" = some none)
    (z_min : PySem.W.nsIn K mainGlobals "min" = some none)
    (z_max : PySem.W.nsIn K mainGlobals "max" = some none)
    (z_gcd : PySem.W.nsIn K mainGlobals "gcd" = some (some (.builtin "math.gcd")))
    {t_DAY : Tok} (z_DAY : PySem.W.nsIn K mainGlobals "DAY" = some (some (.int 1440 t_DAY)))
    : ∃ fd : FuncData, (∀ (s : Shared) (v : Value), BindsTo s fd ⟨[v], []⟩ [("script", v)]) ∧ ∀ base : Heap, K.In base → base.Ns mainGlobals mg → FnOk l.prog w K mg base CX0 10 fa fd ["script"] (SpQ K 1 f_law) := by
  have e := hfa.symm.trans (PySem.W.mg_of X G a20)
  cases e
  have m_len := PySem.W.mg_none_of X G z_len
  have m_int := PySem.W.mg_none_of X G z_int
  have m_range := PySem.W.mg_none_of X G z_range
  have m_tuple := PySem.W.mg_none_of X G z_tuple
  have m_abs := PySem.W.mg_none_of X G z_abs
  have m_isinstance := PySem.W.mg_none_of X G z_isinstance
  have m_list := PySem.W.mg_none_of X G z_list
  have m_bool := PySem.W.mg_none_of X G z_bool
  have m_str := PySem.W.mg_none_of X G z_str
  have m_min := PySem.W.mg_none_of X G z_min
  have m_max := PySem.W.mg_none_of X G z_max
  have m_gcd := PySem.W.mg_of X G z_gcd
  have m_DAY := PySem.W.mg_of X G z_DAY
  have F0 := fun_mk (st := s_law_draw) l0 c0 k0
  have g0 := PySem.W.mg_of X G a0
  have b0 := F0.binds (ps := ["box", "many"]) fun _ _ _ _ _ _ us hl => match us, hl with | [_, _], _ => rfl
  have F1 := fun_mk (st := s_law_number) l1 c1 k1
  have g1 := PySem.W.mg_of X G a1
  have b1 := F1.binds (ps := ["box", "size"]) fun _ _ _ _ _ _ us hl => match us, hl with | [_, _], _ => rfl
  have F2 := fun_mk (st := s_law_run) l2 c2 k2
  have g2 := PySem.W.mg_of X G a2
  have b2 := F2.binds (ps := ["box", "many", "chars"]) fun _ _ _ _ _ _ us hl => match us, hl with | [_, _, _], _ => rfl
  have F3 := fun_mk (st := s_law_word) l3 c3 k3
  have g3 := PySem.W.mg_of X G a3
  have b3 := F3.binds (ps := ["box", "taken"]) fun _ _ _ _ _ _ us hl => match us, hl with | [_, _], _ => rfl
  have F4 := fun_mk (st := s_law_club) l4 c4 k4
  have g4 := PySem.W.mg_of X G a4
  have b4 := F4.binds (ps := ["box", "lofts", "birds", "races"]) fun _ _ _ _ _ _ us hl => match us, hl with | [_, _, _, _], _ => rfl
  have F5 := fun_mk (st := s_law_cell) l5 c5 k5
  have g5 := PySem.W.mg_of X G a5
  have b5 := F5.binds (ps := ["script", "k"]) fun _ _ _ _ _ _ us hl => match us, hl with | [_, _], _ => rfl
  have F6 := fun_mk (st := s_law_digits) l6 c6 k6
  have g6 := PySem.W.mg_of X G a6
  have b6 := F6.binds (ps := ["script", "first", "last"]) fun _ _ _ _ _ _ us hl => match us, hl with | [_, _, _], _ => rfl
  have F7 := fun_mk (st := s_law_is_dark) l7 c7 k7
  have g7 := PySem.W.mg_of X G a7
  have b7 := F7.binds (ps := ["race", "minute"]) fun _ _ _ _ _ _ us hl => match us, hl with | [_, _], _ => rfl
  have F8 := fun_mk (st := s_law_less) l8 c8 k8
  have g8 := PySem.W.mg_of X G a8
  have b8 := F8.binds (ps := ["one", "other"]) fun _ _ _ _ _ _ us hl => match us, hl with | [_, _], _ => rfl
  have F9 := fun_mk (st := s_law_low) l9 c9 k9
  have g9 := PySem.W.mg_of X G a9
  have b9 := F9.binds (ps := ["p", "q"]) fun _ _ _ _ _ _ us hl => match us, hl with | [_, _], _ => rfl
  have F10 := fun_mk (st := s_law_plus) l10 c10 k10
  have g10 := PySem.W.mg_of X G a10
  have b10 := F10.binds (ps := ["one", "other"]) fun _ _ _ _ _ _ us hl => match us, hl with | [_, _], _ => rfl
  have F11 := fun_mk (st := s_law_dark) l11 c11 k11
  have g11 := PySem.W.mg_of X G a11
  have b11 := F11.binds (ps := ["race", "first", "last"]) fun _ _ _ _ _ _ us hl => match us, hl with | [_, _, _], _ => rfl
  have F12 := fun_mk (st := s_law_flight) l12 c12 k12
  have g12 := PySem.W.mg_of X G a12
  have b12 := F12.binds (ps := ["race", "time"]) fun _ _ _ _ _ _ us hl => match us, hl with | [_, _], _ => rfl
  have F13 := fun_mk (st := s_law_same) l13 c13 k13
  have g13 := PySem.W.mg_of X G a13
  have b13 := F13.binds (ps := ["actual", "due"]) fun _ _ _ _ _ _ us hl => match us, hl with | [_, _], _ => rfl
  have F14 := fun_mk (st := s_dark_of_day) l14 c14 k14
  have g14 := PySem.W.mg_of X G a14
  have b14 := F14.binds (ps := ["dusk", "dawn", "end"]) fun _ _ _ _ _ _ us hl => match us, hl with | [_, _, _], _ => rfl
  have F15 := fun_mk (st := s_lowest) l15 c15 k15
  have g15 := PySem.W.mg_of X G a15
  have b15 := F15.binds (ps := ["p", "q"]) fun _ _ _ _ _ _ us hl => match us, hl with | [_, _], _ => rfl
  have F16 := fun_mk (st := s_dark_until) l16 c16 k16
  have g16 := PySem.W.mg_of X G a16
  have b16 := F16.binds (ps := ["race", "time"]) fun _ _ _ _ _ _ us hl => match us, hl with | [_, _], _ => rfl
  have F17 := fun_mk (st := s_minus) l17 c17 k17
  have g17 := PySem.W.mg_of X G a17
  have b17 := F17.binds (ps := ["one", "other"]) fun _ _ _ _ _ _ us hl => match us, hl with | [_, _], _ => rfl
  have F18 := fun_mk (st := s_dark_part) l18 c18 k18
  have g18 := PySem.W.mg_of X G a18
  have b18 := F18.binds (ps := ["race", "first", "last"]) fun _ _ _ _ _ _ us hl => match us, hl with | [_, _, _], _ => rfl
  have F19 := fun_mk (st := s_flight) l19 c19 k19
  have g19 := PySem.W.mg_of X G a19
  have b19 := F19.binds (ps := ["race", "time"]) fun _ _ _ _ _ _ us hl => match us, hl with | [_, _], _ => rfl
  have F20 := fun_mk (st := s_law) l20 c20 k20
  have g20 := PySem.W.mg_of X G a20
  have b20 := F20.binds (ps := ["script"]) fun _ _ _ _ _ _ us hl => match us, hl with | [_], _ => rfl
  refine ⟨PySem.W.fnOf "law" "law" (defArgs s_law) (defBody s_law) (defScope s_law) .none kV20 dc20 pm20 an20 cd20 ct20, fun s v => .of_eq rfl, fun base _ _ => ?_⟩
  have C_law_draw : Cal l.prog w K mg base "_law_draw" 2 1 f_law_draw := cal_mk rfl (ok_law_draw F0 m_len m_int) F0 g0 b0
  have C_law_number : Cal l.prog w K mg base "_law_number" 2 2 f_law_number := cal_mk rfl (ok_law_number F1 C_law_draw) F1 g1 b1
  have C_law_run : Cal l.prog w K mg base "_law_run" 3 2 f_law_run := cal_mk rfl (ok_law_run F2 C_law_draw m_range m_len) F2 g2 b2
  have C_law_word : Cal l.prog w K mg base "_law_word" 2 3 f_law_word := cal_mk rfl (ok_law_word F3 C_law_draw C_law_run m_range) F3 g3 b3
  have C_law_club : Cal l.prog w K mg base "_law_club" 4 4 f_law_club := cal_mk rfl (ok_law_club F4 C_law_draw C_law_word C_law_number m_range m_len m_tuple) F4 g4 b4
  have C_law_cell : Cal l.prog w K mg base "_law_cell" 2 1 f_law_cell := cal_mk rfl (ok_law_cell F5 m_len) F5 g5 b5
  have C_law_digits : Cal l.prog w K mg base "_law_digits" 3 2 f_law_digits := cal_mk rfl (ok_law_digits F6 C_law_cell m_range m_int) F6 g6 b6
  have C_law_is_dark : Cal l.prog w K mg base "_law_is_dark" 2 1 f_law_is_dark := cal_mk rfl (ok_law_is_dark F7 ) F7 g7 b7
  have C_law_less : Cal l.prog w K mg base "_law_less" 2 1 f_law_less := cal_mk rfl (ok_law_less F8 ) F8 g8 b8
  have C_law_low : Cal l.prog w K mg base "_law_low" 2 1 f_law_low := cal_mk rfl (ok_law_low F9 m_abs m_range m_int) F9 g9 b9
  have C_law_plus : Cal l.prog w K mg base "_law_plus" 2 2 f_law_plus := cal_mk rfl (ok_law_plus F10 C_law_low) F10 g10 b10
  have C_law_dark : Cal l.prog w K mg base "_law_dark" 3 3 f_law_dark := cal_mk rfl (ok_law_dark F11 C_law_is_dark C_law_less C_law_plus m_range m_int) F11 g11 b11
  have C_law_flight : Cal l.prog w K mg base "_law_flight" 2 4 f_law_flight := cal_mk rfl (ok_law_flight F12 C_law_dark C_law_plus) F12 g12 b12
  have C_law_same : Cal l.prog w K mg base "_law_same" 2 9 (f_law_same 8) := cal_mk rfl (ok_law_same F13 g13 b13 m_isinstance m_list m_tuple m_len m_range m_bool m_str m_int 8) F13 g13 b13
  have C_dark_of_day : Cal l.prog w K mg base "dark_of_day" 3 1 f_dark_of_day := cal_mk rfl (ok_dark_of_day F14 m_min m_max) F14 g14 b14
  have C_lowest : Cal l.prog w K mg base "lowest" 2 1 f_lowest := cal_mk rfl (ok_lowest F15 m_gcd) F15 g15 b15
  have C_dark_until : Cal l.prog w K mg base "dark_until" 2 2 f_dark_until := cal_mk rfl (ok_dark_until F16 C_dark_of_day C_lowest m_DAY) F16 g16 b16
  have C_minus : Cal l.prog w K mg base "minus" 2 2 f_minus := cal_mk rfl (ok_minus F17 C_lowest) F17 g17 b17
  have C_dark_part : Cal l.prog w K mg base "dark_part" 3 3 f_dark_part := cal_mk rfl (ok_dark_part F18 C_dark_until C_minus) F18 g18 b18
  have C_flight : Cal l.prog w K mg base "flight" 2 4 f_flight := cal_mk rfl (ok_flight F19 C_minus C_dark_part) F19 g19 b19
  exact ok_law F20 C_law_digits C_law_club C_law_draw C_law_low C_law_plus C_flight C_law_flight C_law_same C_law_less m_range
/-- what is left: the law's own reckoning -/
def Goal : Prop := ∀ ns : List Int, ns.length ≤ 63 → ∃ m', f_law [.ref 0] [.frz (ns.map .int)] = .ok (.bl true) m'
end Lw

set_option Elab.async false
set_option linter.all false
set_option maxRecDepth 100000
set_option maxHeartbeats 400000
namespace Lw
open PySem PySem.Spec PyProof.Rows L2 SM
local macro_rules | `(tactic| walk_at "w1") => `(tactic| try simp -dsimp only [wp_fn, s_nil, s_brk, s_cnt, s_expr, s_ret, s_retN, s_if, s_asn, s_par, s_asg, g_nm, g_nil, g_cons, g_tupT, g_subW,
  w_v0, w_vS, w_c, w_op, w_un, w_anil, w_acons, w_tup, w_lst, w_call, w_callU, w_isi, w_meth, w_tru, w_bool, w_notS, w_andS, w_orS, w_ifx, w_andV, w_orV, w_notV, w_chain,
  wp_ok, wp_bad, wp_some, wp_none, wp_liftif, wp_if, asB_b, wp_noex,
  add_ii, sub_ii, mul_ii, fdiv_ii, mod_ii, pow_ii, neg_i, cmp_ii, lt_ii, le_ii, gt_ii, ge_ii, le_cc, muls_ii, muls_si, ins_cs, iadd_ii, isub_ii, w_onone, w_osome, w_sl, sl_s, sl_t, s_aug, eq_ss, len_s, ix_s, add_ss, str_s, tuple_t, list_t, is_n, not_n, non_n, non_i, non_b, non_s, non_t, non_r, abs_i, max_ii, min_ii, int_i, int_b, gcd_ii, len_t, ix_t, eq_v, ne_v, eq_ii, eq_bb, eq_nn, eq_in, eq_ni, iv_n_list, iv_n_tuple, iv_n_bool, iv_n_str, iv_n_int, okt_n, iv_b_list, iv_b_tuple, iv_b_bool, iv_b_str, iv_b_int, okt_b, iv_i_list, iv_i_tuple, iv_i_bool, iv_i_str, iv_i_int, okt_i, iv_s_list, iv_s_tuple, iv_s_bool, iv_s_str, iv_s_int, okt_s, iv_t_list, iv_t_tuple, iv_t_bool, iv_t_str, iv_t_int, okt_t, iv_r_list, iv_r_tuple, iv_r_bool, iv_r_str, iv_r_int, tru_b, tru_i, tru_n, tru_t, Option.map_some, Option.map_none,
  List.map_cons, List.map_nil, List.length_cons, List.length_nil, List.set_cons_zero, List.set_cons_succ, List.cons_append, List.nil_append, List.replicate, Nat.reduceAdd, Nat.reduceSub, Nat.reduceLeDiff, true_and, and_true, decide_eq_true_eq, reduceIte, Bool.false_eq_true, Bool.not_true, Bool.not_false, decide_true, decide_false])
local macro_rules | `(tactic| walk_at "wp") => `(tactic| try simp -dsimp only [s_seq, wp_fn, s_nil, s_brk, s_cnt, s_expr, s_ret, s_retN, s_if, s_asn, s_par, s_asg, g_nm, g_nil, g_cons, g_tupT, g_subW,
  w_v0, w_vS, w_c, w_op, w_un, w_anil, w_acons, w_tup, w_lst, w_call, w_callU, w_isi, w_meth, w_tru, w_bool, w_notS, w_andS, w_orS, w_ifx, w_andV, w_orV, w_notV, w_chain,
  wp_ok, wp_bad, wp_some, wp_none, wp_liftif, wp_if, asB_b, wp_noex,
  add_ii, sub_ii, mul_ii, fdiv_ii, mod_ii, pow_ii, neg_i, cmp_ii, lt_ii, le_ii, gt_ii, ge_ii, le_cc, muls_ii, muls_si, ins_cs, iadd_ii, isub_ii, w_onone, w_osome, w_sl, sl_s, sl_t, s_aug, eq_ss, len_s, ix_s, add_ss, str_s, tuple_t, list_t, is_n, not_n, non_n, non_i, non_b, non_s, non_t, non_r, abs_i, max_ii, min_ii, int_i, int_b, gcd_ii, len_t, ix_t, eq_v, ne_v, eq_ii, eq_bb, eq_nn, eq_in, eq_ni, iv_n_list, iv_n_tuple, iv_n_bool, iv_n_str, iv_n_int, okt_n, iv_b_list, iv_b_tuple, iv_b_bool, iv_b_str, iv_b_int, okt_b, iv_i_list, iv_i_tuple, iv_i_bool, iv_i_str, iv_i_int, okt_i, iv_s_list, iv_s_tuple, iv_s_bool, iv_s_str, iv_s_int, okt_s, iv_t_list, iv_t_tuple, iv_t_bool, iv_t_str, iv_t_int, okt_t, iv_r_list, iv_r_tuple, iv_r_bool, iv_r_str, iv_r_int, tru_b, tru_i, tru_n, tru_t, Option.map_some, Option.map_none,
  List.map_cons, List.map_nil, List.length_cons, List.length_nil, List.set_cons_zero, List.set_cons_succ, List.cons_append, List.nil_append, List.replicate, Nat.reduceAdd, Nat.reduceSub, Nat.reduceLeDiff, true_and, and_true, decide_eq_true_eq, reduceIte, Bool.false_eq_true, Bool.not_true, Bool.not_false, decide_true, decide_false])
local macro_rules | `(tactic| walk_at "sq") => `(tactic| (rw [s_seq]; walk_at "w1"))
set_option exponentiation.threshold 5000 in
theorem big_of {n : Nat} (h : n < 1606938044258990275541962092341162602522202993782792835301376) : n < big := Nat.lt_of_lt_of_le h (by rw [big_eq]; decide)
theorem fmod_pos {a b : Int} (h : 0 < b) : a.fmod b = a % b := Int.fmod_eq_emod_of_nonneg a (by omega)
theorem fdiv_pos {a b : Int} (h : 0 < b) : a.fdiv b = a / b := Int.fdiv_eq_ediv_of_nonneg a (by omega)
/-! the fraction in lowest terms -/
def lowv (p q : Int) : PV := let g : Int := (Nat.gcd p.natAbs q.natAbs : Nat); if q < 0 then .tup [.int (-p / g), .int (-q / g)] else .tup [.int (p / g), .int (q / g)]
theorem fdiv_neg_dvd {p g : Int} (hg : 0 < g) (hd : g ∣ p) : p.fdiv (-g) = -p / g := by
  obtain ⟨c, rfl⟩ := hd
  have e1 : g * c = (-g) * (-c) := by rw [Int.neg_mul_neg]
  have e2 : -(g * c) = g * (-c) := by rw [Int.mul_neg]
  rw [e2, Int.mul_ediv_cancel_left _ (by omega), e1, Int.mul_fdiv_cancel_left _ (by omega)]
theorem gcd_pos' {p q : Int} (hq : q ≠ 0) : 0 < ((Nat.gcd p.natAbs q.natAbs : Nat) : Int) := by
  have : 0 < Nat.gcd p.natAbs q.natAbs := Nat.gcd_pos_of_pos_right _ (by omega)
  omega
theorem lowest_ok {p q : Int} {m : MH} (hq : q ≠ 0) (hb : q.natAbs < 2 ^ 200) : WP (f_lowest [.int p, .int q] m) (fun x m' => x = lowv p q ∧ m' = m) NoE := by
  have hg := gcd_pos' (p := p) hq
  have hgle : Nat.gcd p.natAbs q.natAbs ≤ q.natAbs := Nat.gcd_le_right _ (by omega)
  have d1 : ((Nat.gcd p.natAbs q.natAbs : Nat) : Int) ∣ p := Int.ofNat_dvd_left.mpr (Nat.gcd_dvd_left _ _)
  have d2 : ((Nat.gcd p.natAbs q.natAbs : Nat) : Int) ∣ q := Int.ofNat_dvd_left.mpr (Nat.gcd_dvd_right _ _)
  unfold f_lowest b_lowest lowv
  walk_at "wp"
  generalize hG : ((Nat.gcd p.natAbs q.natAbs : Nat) : Int) = g at *
  have hb1 : g.natAbs < big := big_of (by omega)
  have hb2 : (-g).natAbs < big := by rw [Int.natAbs_neg]; exact hb1
  have n1 : g ≠ 0 := by omega
  have n2 : -g ≠ 0 := by omega
  by_cases h : q < 0
  · rw [if_pos h, if_pos h]
    walk_at "wp"
    rw [if_pos ⟨n2, hb2⟩, if_pos ⟨n2, hb2⟩, fdiv_neg_dvd hg d1, fdiv_neg_dvd hg d2]
  · rw [if_neg h, if_neg h]
    walk_at "wp"
    rw [if_pos ⟨n1, hb1⟩, if_pos ⟨n1, hb1⟩, fdiv_pos hg, fdiv_pos hg]
/-! the law's own: Euclid's way in 200 turns -/
def eu0 : Nat → Nat × Nat → Nat × Nat
  | 0, s => s
  | n + 1, s => let t := eu0 n s; if 0 < t.1 then (t.2 % t.1, t.1) else t
@[irreducible] def eu (n : Nat) (s : Nat × Nat) : Nat × Nat := eu0 n s
theorem eu_0 (s : Nat × Nat) : eu 0 s = s := by unfold eu; rfl
theorem eu_succ (n : Nat) (s : Nat × Nat) : eu (n + 1) s = if 0 < (eu n s).1 then ((eu n s).2 % (eu n s).1, (eu n s).1) else eu n s := by unfold eu; rfl
theorem eu_gcd (s : Nat × Nat) : ∀ n, Nat.gcd (eu n s).1 (eu n s).2 = Nat.gcd s.1 s.2
  | 0 => by rw [eu_0]
  | n + 1 => by
    rw [eu_succ]
    split
    · rw [← eu_gcd s n, Nat.gcd_rec (eu n s).1 (eu n s).2]
    · exact eu_gcd s n
theorem eu_zero : ∀ (k : Nat) (s : Nat × Nat) (n : Nat), (eu n s).1 < 2 ^ k → (eu (n + 2 * k) s).1 = 0
  | 0, s, n, h => by have : (eu n s).1 = 0 := by omega
                     simpa using this
  | k + 1, s, n, h => by
    have e : n + 2 * (k + 1) = (n + 2) + 2 * k := by omega
    rw [e]
    refine eu_zero k s (n + 2) ?_
    rw [eu_succ (n + 1), eu_succ n]
    by_cases h1 : 0 < (eu n s).1
    · rw [if_pos h1]
      dsimp only
      have hlt : (eu n s).2 % (eu n s).1 < (eu n s).1 := Nat.mod_lt _ h1
      by_cases h2 : 0 < (eu n s).2 % (eu n s).1
      · rw [if_pos h2]
        dsimp only
        generalize (eu n s).2 % (eu n s).1 = x at *
        generalize (eu n s).1 = a at *
        have h3 : a % x < x := Nat.mod_lt _ h2
        have h4 : a % x + x ≤ a := by
          have := Nat.div_add_mod a x
          have h5 : 1 ≤ a / x := (Nat.one_le_div_iff h2).mpr (by omega)
          have h6 : x * 1 ≤ x * (a / x) := Nat.mul_le_mul_left x h5
          omega
        have : 2 ^ (k + 1) = 2 * 2 ^ k := by rw [Nat.pow_succ]; omega
        omega
      · rw [if_neg h2]
        have : (eu n s).2 % (eu n s).1 = 0 := by omega
        rw [this]
        exact Nat.two_pow_pos k
    · rw [if_neg h1]
      rw [if_neg h1]
      have : (eu n s).1 = 0 := by omega
      rw [this]
      exact Nat.two_pow_pos k
theorem eu_end (n a b : Nat) (hn : n = 0 + 2 * 100) (h : a < 2 ^ 100) : (eu n (a, b)).1 = 0 ∧ (eu n (a, b)).2 = Nat.gcd a b := by
  have h0 : (eu n (a, b)).1 = 0 := by rw [hn]; exact eu_zero 100 (a, b) 0 (by rw [eu_0]; exact h)
  have := eu_gcd (a, b) n
  rw [h0, Nat.gcd_zero_left] at this
  exact ⟨h0, this⟩
theorem low_ok {p q : Int} {m : MH} (hq : q ≠ 0) (hp : p.natAbs < 2 ^ 100) (hb : q.natAbs < 2 ^ 200) : WP (f_law_low [.int p, .int q] m) (fun x m' => x = lowv p q ∧ m' = m) NoE := by
  have hg := gcd_pos' (p := p) hq
  have hgle : Nat.gcd p.natAbs q.natAbs ≤ q.natAbs := Nat.gcd_le_right _ (by omega)
  unfold f_law_low b_law_low
  walk_at "w1"
  refine s_cut (mid := fun l m' => ∃ P Q : Int, 0 < Q ∧ P.natAbs = p.natAbs ∧ Q.natAbs = q.natAbs ∧ lowv p q = .tup [.int (P / (Nat.gcd p.natAbs q.natAbs : Nat)), .int (Q / (Nat.gcd p.natAbs q.natAbs : Nat))] ∧ l = [some (.int P), some (.int Q), none, none, none] ∧ m' = m) ?_ ?_
  · walk_at "wp"
    by_cases hn : q < 0
    · rw [if_pos hn]
      walk_at "wp"
      exact ⟨-p, -q, by omega, by omega, by omega, by unfold lowv; rw [if_pos hn], rfl⟩
    · rw [if_neg hn]
      exact ⟨p, q, by omega, rfl, rfl, by unfold lowv; rw [if_neg hn], rfl⟩
  rintro _ m ⟨P, Q, hQ, eP, eQ, elow, rfl, rfl⟩
  walk_at "sq"
  walk_at "sq"
  walk_at "sq"
  refine s_for1 (j := 200) (0 + 2 * 100) rfl rfl (by decide) (by decide) (fun i l m' => ∃ x4, l = [some (.int P), some (.int Q), some (.int ((eu i (P.natAbs, Q.natAbs)).1 : Nat)), some (.int ((eu i (P.natAbs, Q.natAbs)).2 : Nat)), x4] ∧ m' = m) ⟨none, ?_, rfl⟩ ?_ ?_
  · have e1 : (if P < 0 then -P else P) = ((P.natAbs : Nat) : Int) := by split <;> omega
    have e2 : Q = ((Q.natAbs : Nat) : Int) := by omega
    rw [eu_0, e1]
    exact congrArg (fun z : Int => [some (PV.int P), some (.int Q), some (.int ((P.natAbs : Nat) : Int)), some (.int z), none]) e2
  · rintro i l m' hx ⟨x4, rfl, rfl⟩
    unfold law_low_l1
    walk_at "wp"
    rw [eu_succ]
    generalize eu i (P.natAbs, Q.natAbs) = t at *
    by_cases h0 : 0 < t.1
    · have h0' : (0 : Int) < (t.1 : Nat) := by omega
      have h0'' : ((t.1 : Nat) : Int) ≠ 0 := by omega
      rw [if_pos h0', if_pos h0]
      walk_at "wp"
      rw [if_pos h0'', fmod_pos h0']
      exact ⟨_, by rw [Int.natCast_emod]⟩
    · have h0' : ¬ (0 : Int) < (t.1 : Nat) := by omega
      rw [if_neg h0', if_neg h0]
      exact ⟨_, rfl⟩
  · rintro l m' ⟨x4, rfl, rfl⟩
    obtain ⟨z1, z2⟩ := eu_end _ P.natAbs Q.natAbs rfl (by rw [eP]; exact hp)
    rw [z1, z2, eP, eQ]
    walk_at "wp"
    have n1 : ((Nat.gcd p.natAbs q.natAbs : Nat) : Int) ≠ 0 := by omega
    have hb1 : ((Nat.gcd p.natAbs q.natAbs : Nat) : Int).natAbs < big := big_of (by rw [Int.natAbs_natCast]; omega)
    rw [if_pos ⟨n1, hb1⟩, if_pos ⟨n1, hb1⟩, fdiv_pos hg, fdiv_pos hg]
    exact elow.symm
/-! ## fractions -/
def fpv (a b : Int) : PV := .tup [.int a, .int b]
structure Fq (a b : Int) : Prop where
  pos : 0 < b
  red : Nat.gcd a.natAbs b.natAbs = 1
theorem Fq.one (a : Int) : Fq a 1 := ⟨by decide, by simp⟩
theorem lowv_red {p q : Int} (hq : 0 < q) : ∃ a b, lowv p q = fpv a b ∧ Fq a b ∧ a * q = p * b ∧ a.natAbs ≤ p.natAbs ∧ b ≤ q := by
  have hg := gcd_pos' (p := p) (q := q) (by omega)
  obtain ⟨a, ea⟩ : ((Nat.gcd p.natAbs q.natAbs : Nat) : Int) ∣ p := Int.ofNat_dvd_left.mpr (Nat.gcd_dvd_left _ _)
  obtain ⟨b, eb⟩ : ((Nat.gcd p.natAbs q.natAbs : Nat) : Int) ∣ q := Int.ofNat_dvd_left.mpr (Nat.gcd_dvd_right _ _)
  have e1 : p / ((Nat.gcd p.natAbs q.natAbs : Nat) : Int) = a := by
    generalize ((Nat.gcd p.natAbs q.natAbs : Nat) : Int) = g at *
    rw [ea, Int.mul_ediv_cancel_left _ (by omega)]
  have e2 : q / ((Nat.gcd p.natAbs q.natAbs : Nat) : Int) = b := by
    generalize ((Nat.gcd p.natAbs q.natAbs : Nat) : Int) = g at *
    rw [eb, Int.mul_ediv_cancel_left _ (by omega)]
  have hb : 0 < b := by
    rw [← e2]
    exact Int.ediv_pos_of_pos_of_dvd (by omega) (by omega) ⟨b, eb⟩
  refine ⟨a, b, ?_, ⟨hb, ?_⟩, ?_, ?_, ?_⟩
  · unfold lowv fpv
    rw [if_neg (by omega), e1, e2]
  · have h1 : p.natAbs = Nat.gcd p.natAbs q.natAbs * a.natAbs := by
      have := congrArg Int.natAbs ea
      rwa [Int.natAbs_mul, Int.natAbs_natCast] at this
    have h2 : q.natAbs = Nat.gcd p.natAbs q.natAbs * b.natAbs := by
      have := congrArg Int.natAbs eb
      rwa [Int.natAbs_mul, Int.natAbs_natCast] at this
    have h3 : Nat.gcd p.natAbs q.natAbs = Nat.gcd p.natAbs q.natAbs * Nat.gcd a.natAbs b.natAbs := by
      rw [← Nat.gcd_mul_left, ← h1, ← h2]
    have h4 : 0 < Nat.gcd p.natAbs q.natAbs := by omega
    exact (Nat.eq_of_mul_eq_mul_left h4 (by rw [Nat.mul_one]; exact h3)).symm
  · generalize ((Nat.gcd p.natAbs q.natAbs : Nat) : Int) = g at *
    rw [ea, eb]
    grind
  · rw [← e1]
    exact Int.natAbs_ediv_le_natAbs _ _
  · rw [← e2]
    exact Int.ediv_le_self _ (by omega)
theorem Fq.uniq {a b c d : Int} (h : Fq a b) (h2 : Fq c d) (e : a * d = c * b) : a = c ∧ b = d := by
  have hb := h.pos
  have hd := h2.pos
  have en : a.natAbs * d.natAbs = c.natAbs * b.natAbs := by rw [← Int.natAbs_mul, ← Int.natAbs_mul, e]
  have d1 : b.natAbs ∣ d.natAbs := by
    have : Nat.Coprime b.natAbs a.natAbs := by rw [Nat.coprime_comm]; exact h.red
    exact this.dvd_of_dvd_mul_left ⟨c.natAbs, by rw [en, Nat.mul_comm]⟩
  have d2 : d.natAbs ∣ b.natAbs := by
    have : Nat.Coprime d.natAbs c.natAbs := by rw [Nat.coprime_comm]; exact h2.red
    exact this.dvd_of_dvd_mul_left ⟨a.natAbs, by rw [← en, Nat.mul_comm]⟩
  have e2 : b.natAbs = d.natAbs := Nat.dvd_antisymm d1 d2
  have e3 : b = d := by omega
  subst e3
  exact ⟨Int.eq_of_mul_eq_mul_right (by omega) e, rfl⟩
theorem lowv_eq {p q a b : Int} (hq : 0 < q) (h : Fq a b) (e : a * q = p * b) : lowv p q = fpv a b := by
  obtain ⟨a', b', h1, h2, h3, _, _⟩ := lowv_red (p := p) hq
  rw [h1]
  have := h2.uniq h (Int.eq_of_mul_eq_mul_right (a := q) (by omega) (by grind))
  rw [this.1, this.2]
theorem lowv_congr {p q r s : Int} (hq : 0 < q) (hs : 0 < s) (e : p * s = r * q) : lowv p q = lowv r s := by
  obtain ⟨a, b, h1, h2, h3, _, _⟩ := lowv_red (p := r) hs
  rw [h1]
  exact lowv_eq hq h2 (Int.eq_of_mul_eq_mul_right (a := s) (by omega) (by grind))
theorem lt_red {a1 b1 a2 b2 N1 D1 N2 D2 : Int} (hb1 : 0 < b1) (hb2 : 0 < b2) (hD1 : 0 < D1) (hD2 : 0 < D2) (h1 : a1 * D1 = N1 * b1) (h2 : a2 * D2 = N2 * b2) : a1 * b2 < a2 * b1 ↔ N1 * D2 < N2 * D1 := by
  have p1 : 0 < D1 * D2 := Int.mul_pos hD1 hD2
  have p2 : 0 < b1 * b2 := Int.mul_pos hb1 hb2
  have e1 : a1 * b2 * (D1 * D2) = N1 * D2 * (b1 * b2) := by grind
  have e2 : a2 * b1 * (D1 * D2) = N2 * D1 * (b1 * b2) := by grind
  constructor
  · intro h
    have := Int.mul_lt_mul_of_pos_right h p1
    rw [e1, e2] at this
    exact Int.lt_of_mul_lt_mul_right this (by omega)
  · intro h
    have := Int.mul_lt_mul_of_pos_right h p2
    rw [← e1, ← e2] at this
    exact Int.lt_of_mul_lt_mul_right this (by omega)
theorem mulb {a b : Int} (h1 : a.natAbs < 18446744073709551616) (h2 : b.natAbs < 18446744073709551616) : (a * b).natAbs < 2 ^ 200 := by
  rw [Int.natAbs_mul]
  have : a.natAbs * b.natAbs ≤ 18446744073709551616 * 18446744073709551616 := Nat.mul_le_mul (by omega) (by omega)
  omega
theorem mulb2 {a b : Int} (h1 : a.natAbs < 281474976710656) (h2 : b.natAbs < 281474976710656) : (a * b).natAbs < 2 ^ 97 := by
  rw [Int.natAbs_mul]
  have : a.natAbs * b.natAbs ≤ 281474976710656 * 281474976710656 := Nat.mul_le_mul (by omega) (by omega)
  omega
/-! the heap of the reckoning -/
theorem seq_of_lst {m : MH} {n : Nat} {xs : List PV} (h : m[n]? = some (.lst xs)) : seq? m n = some xs := by unfold seq?; rw [h]
theorem seq_of_frz {m : MH} {n : Nat} {xs : List PV} (h : m[n]? = some (.frz xs)) : seq? m n = some xs := by unfold seq?; rw [h]
theorem lst_of {m : MH} {n : Nat} {xs : List PV} (h : m[n]? = some (.lst xs)) : lst? m n = some xs := by unfold lst?; rw [h]
theorem get_new {m : MH} {o : MO} : (m ++ [o])[m.length]? = some o := by simp
theorem set_new {m : MH} {o u : MO} : (m ++ [o]).set m.length u = m ++ [u] := by simp [List.set_append]
theorem get_old {m : MH} {o u : MO} {n : Nat} (h : m[n]? = some u) : (m ++ [o])[n]? = some u := by
  rw [List.getElem?_append_left (List.getElem?_eq_some_iff.mp h).1]; exact h
theorem atI_nn {α : Type} {xs : List α} {i : Int} (h : 0 ≤ i) (h2 : i < xs.length) : atI xs i = xs[i.toNat]? := by
  unfold atI ixN
  rw [if_pos h, if_pos h2]
  rfl
theorem cell_ok {m : MH} {r : Nat} {ns : List Int} {k : Int} (h : seq? m r = some (ns.map .int)) (hk : 0 ≤ k) :
    WP (f_law_cell [.ref r, .int k] m) (fun x m' => x = .int (ns.getD k.toNat 0) ∧ m' = m) NoE := by
  unfold f_law_cell b_law_cell
  walk_at "wp"
  rw [len_r h]
  walk_at "wp"
  rw [List.length_map]
  by_cases hl : k < ns.length
  · rw [if_pos hl]
    walk_at "wp"
    rw [ix_r h, atI_nn hk (by rw [List.length_map]; exact hl), List.getElem?_map, List.getElem?_eq_getElem (by omega)]
    walk_at "wp"
    rw [List.getD_eq_getElem?_getD, List.getElem?_eq_getElem (by omega)]
    rfl
  · rw [if_neg hl]
    walk_at "wp"
    rw [List.getD_eq_getElem?_getD, List.getElem?_eq_none (by omega)]
    rfl
/-- a list of drawn digits -/
def Dig (ds : List Int) : Prop := ∀ d ∈ ds, 0 ≤ d ∧ d < 1000
theorem Dig.snoc {ds : List Int} (h : Dig ds) (x : Int) : Dig (ds ++ [x % 1000]) := by
  intro d hd
  rcases List.mem_append.mp hd with q | q
  · exact h d q
  · rw [List.mem_singleton] at q
    subst q
    exact ⟨Int.emod_nonneg _ (by decide), Int.emod_lt_of_pos _ (by decide)⟩
theorem append_new {m : MH} {ds : List Int} {v : Int} (h : ds.length < 16777216) : appendv (.ref m.length) [.int v] (m ++ [.lst (ds.map .int)]) = some (.non, m ++ [.lst ((ds ++ [v]).map .int)]) := by
  unfold appendv
  dsimp only
  rw [lst_of get_new]
  dsimp only
  rw [if_pos (by rw [List.length_map]; exact h), set_new, List.map_append]
  rfl
theorem isLst_new {m : MH} {xs : List PV} : isLst (m ++ [.lst xs]) (.ref m.length) = true := by
  show (seq? (m ++ [.lst xs]) m.length).isSome = true
  rw [seq_of_lst get_new]
  rfl
theorem digits_ok {m : MH} {r : Nat} {ns : List Int} (h : m[r]? = some (.frz (ns.map .int))) :
    WP (f_law_digits [.ref r, .int 0, .int 63] m) (fun x m' => ∃ ds, x = .ref m.length ∧ m' = m ++ [.lst (ds.map .int)] ∧ Dig ds ∧ ds.length ≤ 3780) NoE := by
  unfold f_law_digits b_law_digits
  walk_at "w1"
  walk_at "sq"
  rw [s_seq]
  refine s_for2 (i := 0) (j := 63) 63 rfl rfl rfl (by decide) (fun i l m' => ∃ ds x4 x5 x6 x7, l = [some (.ref r), some (.int 0), some (.int 63), some (.ref m.length), x4, x5, x6, x7] ∧ m' = m ++ [.lst (ds.map .int)] ∧ Dig ds ∧ ds.length ≤ 60 * i) ⟨[], none, none, none, none, rfl, rfl, (fun _ h => by cases h), by simp⟩ ?_ ?_
  · rintro i l m' hi ⟨ds, x4, x5, x6, x7, rfl, rfl, hd, hl⟩
    unfold law_digits_l3
    walk_at "w1"
    walk_at "sq"
    refine (cell_ok (ns := ns) (seq_of_frz (get_old h)) (by omega)).mono ?_
    rintro _ _ ⟨rfl, rfl⟩
    walk_at "w1"
    generalize ns.getD (0 + (i : Int)).toNat 0 = c
    refine s_cut (mid := fun l m' => ∃ c, 0 ≤ c ∧ l = [some (.ref r), some (.int 0), some (.int 63), some (.ref m.length), some (.int (0 + (i : Int))), some (.int c), x6, x7] ∧ m' = m ++ [.lst (ds.map .int)]) ?_ ?_
    · walk_at "w1"
      by_cases h0 : c < 0
      · rw [if_pos h0]
        walk_at "w1"
        rw [if_pos (.inl (.inl (by decide)))]
        exact ⟨1 - 2 * c, by omega, rfl⟩
      · rw [if_neg h0]
        exact ⟨c, by omega, rfl⟩
    rintro _ _ ⟨c, hc, rfl, rfl⟩
    walk_at "w1"
    rw [if_pos (by decide)]
    simp only [Int.reduceToNat, Int.reducePow]
    by_cases hbig : 1000000000000000000 ≤ c
    · rw [if_pos hbig]
      refine s_for1 (j := 60) 60 rfl rfl (by decide) (by decide) (fun j l m' => ∃ ds' c' x6, l = [some (.ref r), some (.int 0), some (.int 63), some (.ref m.length), some (.int (0 + (i : Int))), some (.int c'), x6, x7] ∧ m' = m ++ [.lst (ds'.map .int)] ∧ Dig ds' ∧ ds'.length ≤ 60 * i + j ∧ 0 ≤ c') ⟨ds, c, x6, rfl, rfl, hd, by omega, hc⟩ ?_ ?_
      · rintro j l m' hj ⟨ds', c', x6, rfl, rfl, hd', hl', hc'⟩
        unfold law_digits_l1
        walk_at "w1"
        by_cases h0 : 0 < c'
        · rw [if_pos h0]
          walk_at "sq"
          refine ⟨isLst_new, ?_⟩
          rw [if_pos (by decide), fmod_pos (by decide), append_new (by omega)]
          walk_at "wp"
          rw [if_pos ⟨by decide, big_of (by decide)⟩, fdiv_pos (by decide)]
          exact ⟨ds' ++ [c' % 1000], c' / 1000, _, rfl, rfl, hd'.snoc c', by simp; omega, Int.ediv_nonneg hc' (by decide)⟩
        · rw [if_neg h0]
          exact ⟨ds', c', _, rfl, rfl, hd', by omega, hc'⟩
      · rintro l m' ⟨ds', c', x6, rfl, rfl, hd', hl', hc'⟩
        exact ⟨ds', _, _, _, _, rfl, rfl, hd', by omega⟩
    · rw [if_neg hbig]
      have hlt : c < 1000000000000000000 := by omega
      walk_at "sq"
      rw [if_pos (.inl (.inl (by omega))), if_pos (.inl (.inl (by omega))), if_pos (by decide), fmod_pos (by decide)]
      refine s_for1 (j := 12) 12 rfl rfl (by decide) (by decide) (fun j l m' => ∃ ds' sd x6, l = [some (.ref r), some (.int 0), some (.int 63), some (.ref m.length), some (.int (0 + (i : Int))), some (.int c), x6, some (.int sd)] ∧ m' = m ++ [.lst (ds'.map .int)] ∧ Dig ds' ∧ ds'.length ≤ 60 * i + j ∧ 0 ≤ sd ∧ sd < 2147483647) ⟨ds, _, x6, rfl, rfl, hd, by omega, Int.emod_nonneg _ (by decide), Int.emod_lt_of_pos _ (by decide)⟩ ?_ ?_
      · rintro j l m' hj ⟨ds', sd, x6, rfl, rfl, hd', hl', hs1, hs2⟩
        unfold law_digits_l2
        walk_at "w1"
        walk_at "sq"
        rw [if_pos (.inl (.inl (by omega))), if_pos (.inl (.inl (by decide))), if_pos (by decide)]
        walk_at "w1"
        refine ⟨isLst_new, ?_⟩
        rw [if_pos ⟨by decide, big_of (by decide)⟩, if_pos (by decide), fmod_pos (by decide), fmod_pos (by decide), append_new (by omega)]
        walk_at "w1"
        exact ⟨_, _, _, rfl, rfl, hd'.snoc _, by simp; omega, Int.emod_nonneg _ (by decide), Int.emod_lt_of_pos _ (by decide)⟩
      · rintro l m' ⟨ds', sd, x6, rfl, rfl, hd', hl', _⟩
        exact ⟨ds', _, _, _, _, rfl, rfl, hd', by omega⟩
  · rintro l m' ⟨ds, x4, x5, x6, x7, rfl, rfl, hd, hl⟩
    walk_at "w1"
    exact ⟨ds, rfl, hd, by omega⟩
/-! the box of draws -/
structure Box (m : MH) (b d : Nat) (ds : List Int) (a : Int) : Prop where
  bx : m[b]? = some (.lst [.ref d, .int a])
  dg : m[d]? = some (.lst (ds.map .int))
  nn : 0 ≤ a
theorem Box.ne {m : MH} {b d : Nat} {ds : List Int} {a : Int} (h : Box m b d ds a) : b ≠ d := by
  intro e
  have h1 := h.bx
  rw [e, h.dg] at h1
  cases ds with
  | nil => cases h1
  | cons x r => injection h1 with h1; injection h1 with h1; injection h1 with h1; cases h1
def nextBox (m : MH) (b d : Nat) (a : Int) : MH := m.set b (.lst [.ref d, .int (a + 1)])
theorem Box.next {m : MH} {b d : Nat} {ds : List Int} {a : Int} (h : Box m b d ds a) : Box (nextBox m b d a) b d ds (a + 1) := by
  have hb : b < m.length := (List.getElem?_eq_some_iff.mp h.bx).1
  exact ⟨by unfold nextBox; rw [List.getElem?_set_self hb], by unfold nextBox; rw [List.getElem?_set_ne h.ne]; exact h.dg, by have := h.nn; omega⟩
theorem Box.push {m : MH} {b d : Nat} {ds : List Int} {a : Int} {o : MO} (h : Box m b d ds a) : Box (m ++ [o]) b d ds a := ⟨get_old h.bx, get_old h.dg, h.nn⟩
theorem next_get {m : MH} {b d n : Nat} {a : Int} (h : n ≠ b) : (nextBox m b d a)[n]? = m[n]? := by
  unfold nextBox; rw [List.getElem?_set_ne (Ne.symm h)]
theorem next_len {m : MH} {b d : Nat} {a : Int} : (nextBox m b d a).length = m.length := by unfold nextBox; simp
theorem set_r {m : MH} {n j : Nat} {xs : List PV} {i : Int} {v : PV} (h : lst? m n = some xs) (hj : ixN xs.length i = some j) : setv (.ref n) (.int i) v m = some (m.set n (.lst (xs.set j v))) := by
  show (match lst? m n with | some xs => _ | none => none) = _
  rw [h]
  dsimp only
  rw [hj]
  rfl
theorem draw_ok {m : MH} {b d : Nat} {ds : List Int} {a many : Int} (hB : Box m b d ds a) (hd : Dig ds) (hm : 0 < many) :
    WP (f_law_draw [.ref b, .int many] m) (fun x m' => ∃ v, x = .int v ∧ 0 ≤ v ∧ v < many ∧ m' = nextBox m b d a) NoE := by
  have hN := hB.next
  have hn1 := hN.bx
  have hn2 := hN.dg
  unfold f_law_draw b_law_draw
  walk_at "w1"
  walk_at "sq"
  rw [ix_r (seq_of_lst hB.bx)]
  rw [show atI [PV.ref d, PV.int a] 1 = some (.int a) from rfl]
  walk_at "w1"
  rw [s_seq]
  walk_at "w1"
  rw [set_r (lst_of hB.bx) (show ixN 2 1 = some 1 from rfl)]
  rw [show (m.set b (.lst ([PV.ref d, PV.int a].set 1 (.int (a + 1))))) = nextBox m b d a from rfl]
  generalize nextBox m b d a = m1 at *
  walk_at "w1"
  walk_at "sq"
  rw [ix_r (seq_of_lst hn1)]
  rw [show atI [PV.ref d, PV.int (a + 1)] 0 = some (.ref d) from rfl]
  walk_at "w1"
  rw [len_r (seq_of_lst hn2)]
  walk_at "w1"
  rw [List.length_map]
  by_cases hl : a < ds.length
  · rw [if_pos hl]
    walk_at "w1"
    rw [ix_r (seq_of_lst hn1)]
    rw [show atI [PV.ref d, PV.int (a + 1)] 0 = some (.ref d) from rfl]
    walk_at "w1"
    rw [ix_r (seq_of_lst hn2), atI_nn hB.nn (by rw [List.length_map]; exact hl), List.getElem?_map, List.getElem?_eq_getElem (by have := hB.nn; omega)]
    walk_at "w1"
    rw [if_pos (by omega), fmod_pos hm]
    exact ⟨_, rfl, Int.emod_nonneg _ (by omega), Int.emod_lt_of_pos _ hm⟩
  · rw [if_neg hl]
    exact ⟨0, rfl, by omega, hm⟩
/-! the same data -/
inductive Same (m : MH) : Nat → PV → PV → Prop
  | int {n : Nat} (a : Int) : Same m (n + 1) (.int a) (.int a)
  | bl {n : Nat} (a : Bool) : Same m (n + 1) (.bl a) (.bl a)
  | str {n : Nat} (a : List Nat) : Same m (n + 1) (.str a) (.str a)
  | non {n : Nat} : Same m (n + 1) .non .non
  | tup {n : Nat} {xs ys : List PV} (hl : xs.length = ys.length) (hz : xs.length < 16777216) (h : ∀ (i : Nat) (x y : PV), xs[i]? = some x → ys[i]? = some y → Same m n x y) : Same m (n + 1) (.tup xs) (.tup ys)
  | ref {n i j : Nat} {xs ys : List PV} (hi : seq? m i = some xs) (hj : seq? m j = some ys) (hl : xs.length = ys.length) (hz : xs.length < 16777216) (h : ∀ (i : Nat) (x y : PV), xs[i]? = some x → ys[i]? = some y → Same m n x y) : Same m (n + 1) (.ref i) (.ref j)
theorem same_seq {m : MH} {F : FS} {X Y : PV} {xs ys : List PV} (hl : xs.length = ys.length) (hz : xs.length < 16777216)
    (hX : ∀ (i : Nat) (x : PV), xs[i]? = some x → ixv X (.int i) m = some (x, m)) (hY : ∀ (i : Nat) (y : PV), ys[i]? = some y → ixv Y (.int i) m = some (y, m)) (hlen : lenv [Y] m = some (.int ys.length, m)) (x2 : Option PV)
    (h : ∀ (i : Nat) (x y : PV), xs[i]? = some x → ys[i]? = some y → WP (F [x, y] m) (fun v m' => v = .bl true ∧ m' = m) NoE) {D : ED} (hD : ∀ x2, D.nx [some X, some Y, x2] m) :
    WS ((xFor (iRng1S (sCall lenv (aCons (sVar 1) aNil))) (gNm 2) (law_same_l1 F)) [some X, some Y, x2] m) D := by
  refine s_for1 (j := ys.length) (m1 := m) ys.length (by omega) ?_ (by omega) (by omega) (fun i l m' => ∃ x2, l = [some X, some Y, x2] ∧ m' = m) ⟨x2, rfl, rfl⟩ ?_ ?_
  · show R.bind (R.ok [Y] m) _ = _
    show lift (lenv [Y] m) = _
    rw [hlen]
    rfl
  · rintro i l m' hi ⟨x2, rfl, rfl⟩
    unfold law_same_l1
    walk_at "w1"
    have e1 := List.getElem?_eq_getElem (l := xs) (i := i) (by omega)
    have e2 := List.getElem?_eq_getElem (l := ys) (i := i) hi
    rw [hX i _ e1]
    walk_at "w1"
    rw [hY i _ e2]
    walk_at "w1"
    refine (h i _ _ e1 e2).mono ?_
    rintro _ _ ⟨rfl, rfl⟩
    walk_at "w1"
    exact ⟨_, rfl⟩
  · rintro l m' ⟨x2, rfl, rfl⟩
    exact hD x2
theorem same_tup {m : MH} {F : FS} {xs ys : List PV} (hl : xs.length = ys.length) (hz : xs.length < 16777216)
    (ih : ∀ (i : Nat) (x y : PV), xs[i]? = some x → ys[i]? = some y → WP (F [x, y] m) (fun v m' => v = .bl true ∧ m' = m) NoE) : WP (fnS 2 3 (b_law_same F) [.tup xs, .tup ys] m) (fun v m' => v = .bl true ∧ m' = m) NoE := by
  have key := fun D => @same_seq m F (.tup xs) (.tup ys) xs ys hl hz (fun i x e => by rw [ix_t, atI_nat e]; rfl) (fun i x e => by rw [ix_t, atI_nat e]; rfl) len_t none ih D
  have e : ((xs.length : Nat) : Int) = ys.length := by omega
  unfold b_law_same
  walk_at "w1"
  walk_at "sq"
  walk_at "sq"
  walk_at "sq"
  rw [e]
  walk_at "w1"
  rw [s_seq]
  refine key _ (fun x2 => ?_)
  walk_at "w1"
theorem same_ref {m : MH} {F : FS} {i j : Nat} {xs ys : List PV} (hi : seq? m i = some xs) (hj : seq? m j = some ys) (hl : xs.length = ys.length) (hz : xs.length < 16777216)
    (ih : ∀ (i : Nat) (x y : PV), xs[i]? = some x → ys[i]? = some y → WP (F [x, y] m) (fun v m' => v = .bl true ∧ m' = m) NoE) : WP (fnS 2 3 (b_law_same F) [.ref i, .ref j] m) (fun v m' => v = .bl true ∧ m' = m) NoE := by
  have key := fun D => @same_seq m F (.ref i) (.ref j) xs ys hl hz (fun i x e => by rw [ix_r hi, atI_nat e]; rfl) (fun i x e => by rw [ix_r hj, atI_nat e]; rfl) (len_r hj) none ih D
  have e : ((xs.length : Nat) : Int) = ys.length := by omega
  have o1 := okt_r hi
  have o2 := okt_r hj
  have l1 := len_r hi
  have l2 := len_r hj
  unfold b_law_same
  walk_at "w1"
  walk_at "sq"
  simp -dsimp only [o1, o2, true_and]
  walk_at "sq"
  simp -dsimp only [o1, o2, true_and]
  walk_at "w1"
  walk_at "sq"
  rw [l1]
  walk_at "w1"
  rw [l2]
  walk_at "w1"
  rw [e]
  walk_at "w1"
  rw [s_seq]
  refine key _ (fun x2 => ?_)
  walk_at "w1"
theorem same_ok {m : MH} {n : Nat} {x y : PV} (h : Same m n x y) : WP (f_law_same n [x, y] m) (fun v m' => v = .bl true ∧ m' = m) NoE := by
  induction h with
  | int a =>
    unfold f_law_same b_law_same
    walk_at "wp"
  | bl a =>
    unfold f_law_same b_law_same
    walk_at "wp"
  | str a =>
    unfold f_law_same b_law_same
    walk_at "wp"
    try simp only [eq_ss, Option.map_some, wp_some, decide_true, and_self]
  | non =>
    unfold f_law_same b_law_same
    walk_at "wp"
  | tup hl hz h ih => exact same_tup hl hz ih
  | ref hi hj hl hz h ih => exact same_ref hi hj hl hz ih
theorem same_low {m : MH} {p q : Int} : Same m 8 (lowv p q) (lowv p q) := by
  unfold lowv
  split
  all_goals
    refine .tup rfl (by show 2 < 16777216; decide) fun j u v eu ev => ?_
    rw [eu] at ev
    cases ev
    match j, eu with
    | 0, eu => cases eu; exact .int _
    | 1, eu => cases eu; exact .int _
    | j + 2, eu => cases eu
theorem same_fpv {m : MH} {p q : Int} : Same m 8 (fpv p q) (fpv p q) := by
  refine .tup rfl (by show 2 < 16777216; decide) fun j u v eu ev => ?_
  rw [eu] at ev
  cases ev
  match j, eu with
  | 0, eu => cases eu; exact .int _
  | 1, eu => cases eu; exact .int _
  | j + 2, eu => cases eu
theorem minus_ok {p q r s : Int} {m : MH} (hq : 0 < q) (hs : 0 < s) (hq2 : q.natAbs < 18446744073709551616) (hs2 : s.natAbs < 18446744073709551616) :
    WP (f_minus [fpv p q, fpv r s] m) (fun x m' => x = lowv (p * s - r * q) (q * s) ∧ m' = m) NoE := by
  have b1 := mulb hq2 hs2
  have b2 := Int.mul_pos hq hs
  unfold f_minus b_minus fpv
  walk_at "w1"
  walk_at "sq"
  walk_at "sq"
  rw [if_pos (.inl (.inr (by omega))), if_pos (.inl (.inr (by omega))), if_pos (.inl (.inl (by omega)))]
  exact lowest_ok (by omega) (by omega)
theorem lplus_ok {p q r s : Int} {m : MH} (hq : 0 < q) (hs : 0 < s) (hq2 : q.natAbs < 281474976710656) (hs2 : s.natAbs < 281474976710656) (hp2 : p.natAbs < 281474976710656) (hr2 : r.natAbs < 281474976710656) :
    WP (f_law_plus [fpv p q, fpv r s] m) (fun x m' => x = lowv (p * s + r * q) (q * s) ∧ m' = m) NoE := by
  have b1 := mulb2 hq2 hs2
  have b2 := Int.mul_pos hq hs
  have b3 := mulb2 hp2 hs2
  have b4 := mulb2 hr2 hq2
  unfold f_law_plus b_law_plus fpv
  try simp -dsimp only [at0, at1, at2, at3, at4, at5, at6, wp_fn, s_nil, s_brk, s_cnt, s_expr, s_ret, s_retN, s_if, s_asn, s_par, s_asg, g_nm, g_nil, g_cons, g_tupT, g_subW, w_v0, w_vS, w_c, w_op, w_un, w_anil, w_acons, w_tup, w_lst, w_call, w_callU, w_isi, w_meth, w_tru, w_bool, w_notS, w_andS, w_orS, w_ifx, w_andV, w_orV, w_notV, w_chain, wp_ok, wp_bad, wp_some, wp_none, wp_liftif, wp_if, asB_b, wp_noex, add_ii, sub_ii, mul_ii, fdiv_ii, mod_ii, pow_ii, neg_i, cmp_ii, lt_ii, le_ii, gt_ii, ge_ii, le_cc, muls_ii, muls_si, ins_cs, iadd_ii, isub_ii, w_onone, w_osome, w_sl, sl_s, sl_t, s_aug, eq_ss, len_s, ix_s, add_ss, str_s, tuple_t, list_t, is_n, not_n, non_n, non_i, non_b, non_s, non_t, non_r, abs_i, max_ii, min_ii, int_i, int_b, gcd_ii, len_t, ix_t, eq_v, ne_v, eq_ii, eq_bb, eq_nn, eq_in, eq_ni, iv_n_list, iv_n_tuple, iv_n_bool, iv_n_str, iv_n_int, okt_n, iv_b_list, iv_b_tuple, iv_b_bool, iv_b_str, iv_b_int, okt_b, iv_i_list, iv_i_tuple, iv_i_bool, iv_i_str, iv_i_int, okt_i, iv_s_list, iv_s_tuple, iv_s_bool, iv_s_str, iv_s_int, okt_s, iv_t_list, iv_t_tuple, iv_t_bool, iv_t_str, iv_t_int, okt_t, iv_r_list, iv_r_tuple, iv_r_bool, iv_r_str, iv_r_int, tru_b, tru_i, tru_n, tru_t, Option.map_some, Option.map_none, List.map_cons, List.map_nil, List.length_cons, List.length_nil, List.set_cons_zero, List.set_cons_succ, List.cons_append, List.nil_append, List.replicate, Nat.reduceAdd, Nat.reduceSub, Nat.reduceLeDiff, true_and, and_true, decide_eq_true_eq, reduceIte, Bool.false_eq_true, Bool.not_true, Bool.not_false, decide_true, decide_false]
  rw [if_pos (.inl (.inr (by omega)))]
  try simp -dsimp only [at0, at1, at2, at3, at4, at5, at6, wp_fn, s_nil, s_brk, s_cnt, s_expr, s_ret, s_retN, s_if, s_asn, s_par, s_asg, g_nm, g_nil, g_cons, g_tupT, g_subW, w_v0, w_vS, w_c, w_op, w_un, w_anil, w_acons, w_tup, w_lst, w_call, w_callU, w_isi, w_meth, w_tru, w_bool, w_notS, w_andS, w_orS, w_ifx, w_andV, w_orV, w_notV, w_chain, wp_ok, wp_bad, wp_some, wp_none, wp_liftif, wp_if, asB_b, wp_noex, add_ii, sub_ii, mul_ii, fdiv_ii, mod_ii, pow_ii, neg_i, cmp_ii, lt_ii, le_ii, gt_ii, ge_ii, le_cc, muls_ii, muls_si, ins_cs, iadd_ii, isub_ii, w_onone, w_osome, w_sl, sl_s, sl_t, s_aug, eq_ss, len_s, ix_s, add_ss, str_s, tuple_t, list_t, is_n, not_n, non_n, non_i, non_b, non_s, non_t, non_r, abs_i, max_ii, min_ii, int_i, int_b, gcd_ii, len_t, ix_t, eq_v, ne_v, eq_ii, eq_bb, eq_nn, eq_in, eq_ni, iv_n_list, iv_n_tuple, iv_n_bool, iv_n_str, iv_n_int, okt_n, iv_b_list, iv_b_tuple, iv_b_bool, iv_b_str, iv_b_int, okt_b, iv_i_list, iv_i_tuple, iv_i_bool, iv_i_str, iv_i_int, okt_i, iv_s_list, iv_s_tuple, iv_s_bool, iv_s_str, iv_s_int, okt_s, iv_t_list, iv_t_tuple, iv_t_bool, iv_t_str, iv_t_int, okt_t, iv_r_list, iv_r_tuple, iv_r_bool, iv_r_str, iv_r_int, tru_b, tru_i, tru_n, tru_t, Option.map_some, Option.map_none, List.map_cons, List.map_nil, List.length_cons, List.length_nil, List.set_cons_zero, List.set_cons_succ, List.cons_append, List.nil_append, List.replicate, Nat.reduceAdd, Nat.reduceSub, Nat.reduceLeDiff, true_and, and_true, decide_eq_true_eq, reduceIte, Bool.false_eq_true, Bool.not_true, Bool.not_false, decide_true, decide_false]
  rw [if_pos (.inl (.inr (by omega)))]
  try simp -dsimp only [at0, at1, at2, at3, at4, at5, at6, wp_fn, s_nil, s_brk, s_cnt, s_expr, s_ret, s_retN, s_if, s_asn, s_par, s_asg, g_nm, g_nil, g_cons, g_tupT, g_subW, w_v0, w_vS, w_c, w_op, w_un, w_anil, w_acons, w_tup, w_lst, w_call, w_callU, w_isi, w_meth, w_tru, w_bool, w_notS, w_andS, w_orS, w_ifx, w_andV, w_orV, w_notV, w_chain, wp_ok, wp_bad, wp_some, wp_none, wp_liftif, wp_if, asB_b, wp_noex, add_ii, sub_ii, mul_ii, fdiv_ii, mod_ii, pow_ii, neg_i, cmp_ii, lt_ii, le_ii, gt_ii, ge_ii, le_cc, muls_ii, muls_si, ins_cs, iadd_ii, isub_ii, w_onone, w_osome, w_sl, sl_s, sl_t, s_aug, eq_ss, len_s, ix_s, add_ss, str_s, tuple_t, list_t, is_n, not_n, non_n, non_i, non_b, non_s, non_t, non_r, abs_i, max_ii, min_ii, int_i, int_b, gcd_ii, len_t, ix_t, eq_v, ne_v, eq_ii, eq_bb, eq_nn, eq_in, eq_ni, iv_n_list, iv_n_tuple, iv_n_bool, iv_n_str, iv_n_int, okt_n, iv_b_list, iv_b_tuple, iv_b_bool, iv_b_str, iv_b_int, okt_b, iv_i_list, iv_i_tuple, iv_i_bool, iv_i_str, iv_i_int, okt_i, iv_s_list, iv_s_tuple, iv_s_bool, iv_s_str, iv_s_int, okt_s, iv_t_list, iv_t_tuple, iv_t_bool, iv_t_str, iv_t_int, okt_t, iv_r_list, iv_r_tuple, iv_r_bool, iv_r_str, iv_r_int, tru_b, tru_i, tru_n, tru_t, Option.map_some, Option.map_none, List.map_cons, List.map_nil, List.length_cons, List.length_nil, List.set_cons_zero, List.set_cons_succ, List.cons_append, List.nil_append, List.replicate, Nat.reduceAdd, Nat.reduceSub, Nat.reduceLeDiff, true_and, and_true, decide_eq_true_eq, reduceIte, Bool.false_eq_true, Bool.not_true, Bool.not_false, decide_true, decide_false]
  rw [if_pos (.inl (.inl (by omega)))]
  exact low_ok (by omega) (by omega) (by omega)
theorem lless_ok {p q r s : Int} {m : MH} (hq2 : q.natAbs < 18446744073709551616) (hs2 : s.natAbs < 18446744073709551616) :
    WP (f_law_less [fpv p q, fpv r s] m) (fun x m' => x = .bl (decide (p * s < r * q)) ∧ m' = m) NoE := by
  unfold f_law_less b_law_less fpv
  try simp -dsimp only [at0, at1, at2, at3, at4, at5, at6, wp_fn, s_nil, s_brk, s_cnt, s_expr, s_ret, s_retN, s_if, s_asn, s_par, s_asg, g_nm, g_nil, g_cons, g_tupT, g_subW, w_v0, w_vS, w_c, w_op, w_un, w_anil, w_acons, w_tup, w_lst, w_call, w_callU, w_isi, w_meth, w_tru, w_bool, w_notS, w_andS, w_orS, w_ifx, w_andV, w_orV, w_notV, w_chain, wp_ok, wp_bad, wp_some, wp_none, wp_liftif, wp_if, asB_b, wp_noex, add_ii, sub_ii, mul_ii, fdiv_ii, mod_ii, pow_ii, neg_i, cmp_ii, lt_ii, le_ii, gt_ii, ge_ii, le_cc, muls_ii, muls_si, ins_cs, iadd_ii, isub_ii, w_onone, w_osome, w_sl, sl_s, sl_t, s_aug, eq_ss, len_s, ix_s, add_ss, str_s, tuple_t, list_t, is_n, not_n, non_n, non_i, non_b, non_s, non_t, non_r, abs_i, max_ii, min_ii, int_i, int_b, gcd_ii, len_t, ix_t, eq_v, ne_v, eq_ii, eq_bb, eq_nn, eq_in, eq_ni, iv_n_list, iv_n_tuple, iv_n_bool, iv_n_str, iv_n_int, okt_n, iv_b_list, iv_b_tuple, iv_b_bool, iv_b_str, iv_b_int, okt_b, iv_i_list, iv_i_tuple, iv_i_bool, iv_i_str, iv_i_int, okt_i, iv_s_list, iv_s_tuple, iv_s_bool, iv_s_str, iv_s_int, okt_s, iv_t_list, iv_t_tuple, iv_t_bool, iv_t_str, iv_t_int, okt_t, iv_r_list, iv_r_tuple, iv_r_bool, iv_r_str, iv_r_int, tru_b, tru_i, tru_n, tru_t, Option.map_some, Option.map_none, List.map_cons, List.map_nil, List.length_cons, List.length_nil, List.set_cons_zero, List.set_cons_succ, List.cons_append, List.nil_append, List.replicate, Nat.reduceAdd, Nat.reduceSub, Nat.reduceLeDiff, true_and, and_true, decide_eq_true_eq, reduceIte, Bool.false_eq_true, Bool.not_true, Bool.not_false, decide_true, decide_false]
  rw [if_pos (.inl (.inr (by omega)))]
  try simp -dsimp only [at0, at1, at2, at3, at4, at5, at6, wp_fn, s_nil, s_brk, s_cnt, s_expr, s_ret, s_retN, s_if, s_asn, s_par, s_asg, g_nm, g_nil, g_cons, g_tupT, g_subW, w_v0, w_vS, w_c, w_op, w_un, w_anil, w_acons, w_tup, w_lst, w_call, w_callU, w_isi, w_meth, w_tru, w_bool, w_notS, w_andS, w_orS, w_ifx, w_andV, w_orV, w_notV, w_chain, wp_ok, wp_bad, wp_some, wp_none, wp_liftif, wp_if, asB_b, wp_noex, add_ii, sub_ii, mul_ii, fdiv_ii, mod_ii, pow_ii, neg_i, cmp_ii, lt_ii, le_ii, gt_ii, ge_ii, le_cc, muls_ii, muls_si, ins_cs, iadd_ii, isub_ii, w_onone, w_osome, w_sl, sl_s, sl_t, s_aug, eq_ss, len_s, ix_s, add_ss, str_s, tuple_t, list_t, is_n, not_n, non_n, non_i, non_b, non_s, non_t, non_r, abs_i, max_ii, min_ii, int_i, int_b, gcd_ii, len_t, ix_t, eq_v, ne_v, eq_ii, eq_bb, eq_nn, eq_in, eq_ni, iv_n_list, iv_n_tuple, iv_n_bool, iv_n_str, iv_n_int, okt_n, iv_b_list, iv_b_tuple, iv_b_bool, iv_b_str, iv_b_int, okt_b, iv_i_list, iv_i_tuple, iv_i_bool, iv_i_str, iv_i_int, okt_i, iv_s_list, iv_s_tuple, iv_s_bool, iv_s_str, iv_s_int, okt_s, iv_t_list, iv_t_tuple, iv_t_bool, iv_t_str, iv_t_int, okt_t, iv_r_list, iv_r_tuple, iv_r_bool, iv_r_str, iv_r_int, tru_b, tru_i, tru_n, tru_t, Option.map_some, Option.map_none, List.map_cons, List.map_nil, List.length_cons, List.length_nil, List.set_cons_zero, List.set_cons_succ, List.cons_append, List.nil_append, List.replicate, Nat.reduceAdd, Nat.reduceSub, Nat.reduceLeDiff, true_and, and_true, decide_eq_true_eq, reduceIte, Bool.false_eq_true, Bool.not_true, Bool.not_false, decide_true, decide_false]
  rw [if_pos (.inl (.inr (by omega)))]
  try simp -dsimp only [at0, at1, at2, at3, at4, at5, at6, wp_fn, s_nil, s_brk, s_cnt, s_expr, s_ret, s_retN, s_if, s_asn, s_par, s_asg, g_nm, g_nil, g_cons, g_tupT, g_subW, w_v0, w_vS, w_c, w_op, w_un, w_anil, w_acons, w_tup, w_lst, w_call, w_callU, w_isi, w_meth, w_tru, w_bool, w_notS, w_andS, w_orS, w_ifx, w_andV, w_orV, w_notV, w_chain, wp_ok, wp_bad, wp_some, wp_none, wp_liftif, wp_if, asB_b, wp_noex, add_ii, sub_ii, mul_ii, fdiv_ii, mod_ii, pow_ii, neg_i, cmp_ii, lt_ii, le_ii, gt_ii, ge_ii, le_cc, muls_ii, muls_si, ins_cs, iadd_ii, isub_ii, w_onone, w_osome, w_sl, sl_s, sl_t, s_aug, eq_ss, len_s, ix_s, add_ss, str_s, tuple_t, list_t, is_n, not_n, non_n, non_i, non_b, non_s, non_t, non_r, abs_i, max_ii, min_ii, int_i, int_b, gcd_ii, len_t, ix_t, eq_v, ne_v, eq_ii, eq_bb, eq_nn, eq_in, eq_ni, iv_n_list, iv_n_tuple, iv_n_bool, iv_n_str, iv_n_int, okt_n, iv_b_list, iv_b_tuple, iv_b_bool, iv_b_str, iv_b_int, okt_b, iv_i_list, iv_i_tuple, iv_i_bool, iv_i_str, iv_i_int, okt_i, iv_s_list, iv_s_tuple, iv_s_bool, iv_s_str, iv_s_int, okt_s, iv_t_list, iv_t_tuple, iv_t_bool, iv_t_str, iv_t_int, okt_t, iv_r_list, iv_r_tuple, iv_r_bool, iv_r_str, iv_r_int, tru_b, tru_i, tru_n, tru_t, Option.map_some, Option.map_none, List.map_cons, List.map_nil, List.length_cons, List.length_nil, List.set_cons_zero, List.set_cons_succ, List.cons_append, List.nil_append, List.replicate, Nat.reduceAdd, Nat.reduceSub, Nat.reduceLeDiff, true_and, and_true, decide_eq_true_eq, reduceIte, Bool.false_eq_true, Bool.not_true, Bool.not_false, decide_true, decide_false]
/-! ## dark and light -/
def dod (D W m : Int) : Int := if D ≤ W then (if m < D then 0 else if m < W then m - D else W - D) else ((if m < W then m else W) + (if m < D then 0 else m - D))
def dkm (D W m : Int) : Int := if D ≤ W then (if D ≤ m ∧ m < W then 1 else 0) else (if D ≤ m ∨ m < W then 1 else 0)
def dkn (D W n : Int) : Int := dkm D W (n % 1440)
def Cn (D W n : Int) : Int := (n / 1440) * ((W - D) % 1440) + dod D W (n % 1440)
def Gn (D W p q : Int) : Int := Cn D W (p / q) * q + dkn D W (p / q) * (p - p / q * q)
theorem dkm_01 (D W m : Int) : dkm D W m = 0 ∨ dkm D W m = 1 := by
  unfold dkm
  repeat' split
  all_goals simp
theorem dkn_01 (D W n : Int) : dkn D W n = 0 ∨ dkn D W n = 1 := dkm_01 _ _ _
theorem Cn_succ {D W : Int} (hD : 0 ≤ D ∧ D ≤ 1439) (hW : 0 ≤ W ∧ W ≤ 1439) (n : Int) : Cn D W (n + 1) = Cn D W n + dkn D W n := by
  have h1 := Int.emod_nonneg n (b := 1440) (by decide)
  have h2 := Int.emod_lt_of_pos n (b := 1440) (by decide)
  have h3 := Int.mul_ediv_add_emod n 1440
  unfold Cn dkn
  by_cases h : n % 1440 = 1439
  · rw [show (n + 1) / 1440 = n / 1440 + 1 by omega, show (n + 1) % 1440 = 0 by omega, h, Int.add_mul]
    generalize n / 1440 * ((W - D) % 1440) = z
    unfold dod dkm
    repeat' split
    all_goals omega
  · rw [show (n + 1) / 1440 = n / 1440 by omega, show (n + 1) % 1440 = n % 1440 + 1 by omega]
    generalize n / 1440 * ((W - D) % 1440) = z
    generalize n % 1440 = m at *
    unfold dod dkm
    repeat' split
    all_goals omega
/-- the program's dark of a day, in q-ths of a minute -/
def dayv (Dq Wq e : Int) : Int := if Dq ≤ Wq then (if (if Wq < e then Wq else e) - Dq > 0 then (if Wq < e then Wq else e) - Dq else 0) else ((if Wq < e then Wq else e) + (if e - Dq > 0 then e - Dq else 0))
theorem le_q {a b q : Int} (hq : 0 < q) : a * q ≤ b * q ↔ a ≤ b := by
  constructor
  · exact fun h => Int.le_of_mul_le_mul_right h hq
  · exact fun h => Int.mul_le_mul_of_nonneg_right h (by omega)
theorem lt_q {a b q r : Int} (hq : 0 < q) (hr : r < q) : a < b → a * q + r < b * q := by
  intro h
  have := (le_q (a := a + 1) (b := b) hq).mpr (by omega)
  rw [Int.add_mul] at this
  omega
theorem day_q {D W m q r : Int} (hq : 0 < q) (h0 : 0 ≤ r) (hr : r < q) : dayv (D * q) (W * q) (m * q + r) = dod D W m * q + dkm D W m * r := by
  have d1 := lt_q (a := m) (b := D) hq hr
  have d2 := (le_q (a := D) (b := m) hq).mpr
  have w1 := lt_q (a := m) (b := W) hq hr
  have w2 := (le_q (a := W) (b := m) hq).mpr
  have dw := le_q (a := D) (b := W) hq
  have s1 := Int.sub_mul m D q
  have s2 := Int.sub_mul W D q
  unfold dayv dod dkm
  by_cases c1 : D ≤ W
  · simp only [if_pos (dw.mpr c1), if_pos c1]
    by_cases c2 : m < D
    · have := d1 c2
      simp only [if_pos c2, if_neg (show ¬ (D ≤ m ∧ m < W) by omega)]
      repeat' split
      all_goals omega
    · have := d2 (by omega)
      simp only [if_neg c2]
      by_cases c3 : m < W
      · have := w1 c3
        simp only [if_pos c3, if_pos (show D ≤ m ∧ m < W by omega)]
        repeat' split
        all_goals omega
      · have := w2 (by omega)
        have := dw.mpr c1
        simp only [if_neg c3, if_neg (show ¬ (D ≤ m ∧ m < W) by omega)]
        repeat' split
        all_goals omega
  · simp only [if_neg (fun h => c1 (dw.mp h)), if_neg c1, Int.add_mul]
    by_cases c2 : m < D
    · have := d1 c2
      simp only [if_pos c2]
      by_cases c3 : m < W
      · have := w1 c3
        simp only [if_pos c3, if_pos (show D ≤ m ∨ m < W by omega)]
        repeat' split
        all_goals omega
      · have := w2 (by omega)
        simp only [if_neg c3, if_neg (show ¬ (D ≤ m ∨ m < W) by omega)]
        repeat' split
        all_goals omega
    · have := d2 (by omega)
      simp only [if_neg c2]
      by_cases c3 : m < W
      · exact absurd c3 (by omega)
      · have := w2 (by omega)
        simp only [if_neg c3, if_pos (show D ≤ m ∨ m < W by omega)]
        repeat' split
        all_goals omega
theorem div_rem {p q : Int} (hq : 0 < q) : p = p / q * q + p % q ∧ 0 ≤ p % q ∧ p % q < q := by
  refine ⟨?_, Int.emod_nonneg _ (by omega), Int.emod_lt_of_pos _ hq⟩
  have := Int.mul_ediv_add_emod p q
  rw [Int.mul_comm] at this
  omega
theorem Gn_prog {D W p q : Int} (hq : 0 < q) : p / (1440 * q) * ((W - D) % 1440) * q + dayv (D * q) (W * q) (p - p / (1440 * q) * 1440 * q) = Gn D W p q := by
  obtain ⟨e1, e2, e3⟩ := div_rem (p := p) hq
  have e4 : p / (1440 * q) = p / q / 1440 := by rw [Int.mul_comm, Int.ediv_ediv_of_nonneg (by omega)]
  have e5 := Int.mul_ediv_add_emod (p / q) 1440
  unfold Gn Cn dkn
  rw [e4]
  generalize p / q = n at *
  generalize n / 1440 = k at *
  generalize n % 1440 = m at *
  generalize p % q = r at *
  have e6 : p - k * 1440 * q = m * q + r := by rw [e1]; grind
  have e7 : p - n * q = r := by omega
  rw [e6, e7, day_q hq e2 e3]
  grind
/-- the same time has the same dark -/
theorem ediv_same {a b p q : Int} (hb : 0 < b) (hq : 0 < q) (e : a * q = p * b) : a / b = p / q := by
  rw [← Int.mul_ediv_mul_of_pos_left a b hq, e, Int.mul_comm b q, Int.mul_ediv_mul_of_pos_left p q hb]
theorem Gn_same {D W a b p q : Int} (hb : 0 < b) (hq : 0 < q) (e : a * q = p * b) : Gn D W a b * q = Gn D W p q * b := by
  unfold Gn
  rw [ediv_same hb hq e]
  grind
theorem Gn_in {D W p q n : Int} (hD : 0 ≤ D ∧ D ≤ 1439) (hW : 0 ≤ W ∧ W ≤ 1439) (hq : 0 < q) (h1 : n * q ≤ p) (h2 : p ≤ (n + 1) * q) : Gn D W p q = Cn D W n * q + dkn D W n * (p - n * q) := by
  by_cases h : p = (n + 1) * q
  · have e : p / q = n + 1 := by rw [h, Int.mul_ediv_cancel _ (by omega)]
    unfold Gn
    rw [e, Cn_succ hD hW, h]
    grind
  · have e : p / q = n := by
      refine Int.ediv_eq_iff_of_pos hq |>.mpr ⟨?_, ?_⟩ <;> first | (rw [Int.mul_comm]; omega) | (rw [Int.add_mul] at *; omega) | skip
    unfold Gn
    rw [e]
def dkv (D W p1 q1 p2 q2 : Int) : PV := lowv (Gn D W p2 q2 * q1 - Gn D W p1 q1 * q2) (q1 * q2)
theorem dday_ok {a b e : Int} {m : MH} : WP (f_dark_of_day [.int a, .int b, .int e] m) (fun x m' => x = .int (dayv a b e) ∧ m' = m) NoE := by
  unfold f_dark_of_day b_dark_of_day dayv
  walk_at "wp"
  by_cases h : a ≤ b
  · simp only [if_pos h, and_self]
  · simp only [if_neg h, and_self]
theorem duntil_ok {D W p q : Int} {m : MH} {x1 x2 x3 x4 x5 : PV} (hq : 0 < q) (hq2 : q.natAbs < 4294967296) (hD : 0 ≤ D ∧ D ≤ 1439) (hW : 0 ≤ W ∧ W ≤ 1439) :
    WP (f_dark_until [.tup [x1, x2, x3, x4, x5, .int D, .int W], fpv p q] m) (fun x m' => x = lowv (Gn D W p q) q ∧ m' = m) NoE := by
  unfold f_dark_until b_dark_until fpv
  try simp -dsimp only [at0, at1, at2, at3, at4, at5, at6, wp_fn, s_nil, s_brk, s_cnt, s_expr, s_ret, s_retN, s_if, s_asn, s_par, s_asg, g_nm, g_nil, g_cons, g_tupT, g_subW, w_v0, w_vS, w_c, w_op, w_un, w_anil, w_acons, w_tup, w_lst, w_call, w_callU, w_isi, w_meth, w_tru, w_bool, w_notS, w_andS, w_orS, w_ifx, w_andV, w_orV, w_notV, w_chain, wp_ok, wp_bad, wp_some, wp_none, wp_liftif, wp_if, asB_b, wp_noex, add_ii, sub_ii, mul_ii, fdiv_ii, mod_ii, pow_ii, neg_i, cmp_ii, lt_ii, le_ii, gt_ii, ge_ii, le_cc, muls_ii, muls_si, ins_cs, iadd_ii, isub_ii, w_onone, w_osome, w_sl, sl_s, sl_t, s_aug, eq_ss, len_s, ix_s, add_ss, str_s, tuple_t, list_t, is_n, not_n, non_n, non_i, non_b, non_s, non_t, non_r, abs_i, max_ii, min_ii, int_i, int_b, gcd_ii, len_t, ix_t, eq_v, ne_v, eq_ii, eq_bb, eq_nn, eq_in, eq_ni, iv_n_list, iv_n_tuple, iv_n_bool, iv_n_str, iv_n_int, okt_n, iv_b_list, iv_b_tuple, iv_b_bool, iv_b_str, iv_b_int, okt_b, iv_i_list, iv_i_tuple, iv_i_bool, iv_i_str, iv_i_int, okt_i, iv_s_list, iv_s_tuple, iv_s_bool, iv_s_str, iv_s_int, okt_s, iv_t_list, iv_t_tuple, iv_t_bool, iv_t_str, iv_t_int, okt_t, iv_r_list, iv_r_tuple, iv_r_bool, iv_r_str, iv_r_int, tru_b, tru_i, tru_n, tru_t, Option.map_some, Option.map_none, List.map_cons, List.map_nil, List.length_cons, List.length_nil, List.set_cons_zero, List.set_cons_succ, List.cons_append, List.nil_append, List.replicate, Nat.reduceAdd, Nat.reduceSub, Nat.reduceLeDiff, true_and, and_true, decide_eq_true_eq, reduceIte, Bool.false_eq_true, Bool.not_true, Bool.not_false, decide_true, decide_false]
  rw [s_seq]
  try simp -dsimp only [at0, at1, at2, at3, at4, at5, at6, wp_fn, s_nil, s_brk, s_cnt, s_expr, s_ret, s_retN, s_if, s_asn, s_par, s_asg, g_nm, g_nil, g_cons, g_tupT, g_subW, w_v0, w_vS, w_c, w_op, w_un, w_anil, w_acons, w_tup, w_lst, w_call, w_callU, w_isi, w_meth, w_tru, w_bool, w_notS, w_andS, w_orS, w_ifx, w_andV, w_orV, w_notV, w_chain, wp_ok, wp_bad, wp_some, wp_none, wp_liftif, wp_if, asB_b, wp_noex, add_ii, sub_ii, mul_ii, fdiv_ii, mod_ii, pow_ii, neg_i, cmp_ii, lt_ii, le_ii, gt_ii, ge_ii, le_cc, muls_ii, muls_si, ins_cs, iadd_ii, isub_ii, w_onone, w_osome, w_sl, sl_s, sl_t, s_aug, eq_ss, len_s, ix_s, add_ss, str_s, tuple_t, list_t, is_n, not_n, non_n, non_i, non_b, non_s, non_t, non_r, abs_i, max_ii, min_ii, int_i, int_b, gcd_ii, len_t, ix_t, eq_v, ne_v, eq_ii, eq_bb, eq_nn, eq_in, eq_ni, iv_n_list, iv_n_tuple, iv_n_bool, iv_n_str, iv_n_int, okt_n, iv_b_list, iv_b_tuple, iv_b_bool, iv_b_str, iv_b_int, okt_b, iv_i_list, iv_i_tuple, iv_i_bool, iv_i_str, iv_i_int, okt_i, iv_s_list, iv_s_tuple, iv_s_bool, iv_s_str, iv_s_int, okt_s, iv_t_list, iv_t_tuple, iv_t_bool, iv_t_str, iv_t_int, okt_t, iv_r_list, iv_r_tuple, iv_r_bool, iv_r_str, iv_r_int, tru_b, tru_i, tru_n, tru_t, Option.map_some, Option.map_none, List.map_cons, List.map_nil, List.length_cons, List.length_nil, List.set_cons_zero, List.set_cons_succ, List.cons_append, List.nil_append, List.replicate, Nat.reduceAdd, Nat.reduceSub, Nat.reduceLeDiff, true_and, and_true, decide_eq_true_eq, reduceIte, Bool.false_eq_true, Bool.not_true, Bool.not_false, decide_true, decide_false]
  rw [s_seq]
  try simp -dsimp only [at0, at1, at2, at3, at4, at5, at6, wp_fn, s_nil, s_brk, s_cnt, s_expr, s_ret, s_retN, s_if, s_asn, s_par, s_asg, g_nm, g_nil, g_cons, g_tupT, g_subW, w_v0, w_vS, w_c, w_op, w_un, w_anil, w_acons, w_tup, w_lst, w_call, w_callU, w_isi, w_meth, w_tru, w_bool, w_notS, w_andS, w_orS, w_ifx, w_andV, w_orV, w_notV, w_chain, wp_ok, wp_bad, wp_some, wp_none, wp_liftif, wp_if, asB_b, wp_noex, add_ii, sub_ii, mul_ii, fdiv_ii, mod_ii, pow_ii, neg_i, cmp_ii, lt_ii, le_ii, gt_ii, ge_ii, le_cc, muls_ii, muls_si, ins_cs, iadd_ii, isub_ii, w_onone, w_osome, w_sl, sl_s, sl_t, s_aug, eq_ss, len_s, ix_s, add_ss, str_s, tuple_t, list_t, is_n, not_n, non_n, non_i, non_b, non_s, non_t, non_r, abs_i, max_ii, min_ii, int_i, int_b, gcd_ii, len_t, ix_t, eq_v, ne_v, eq_ii, eq_bb, eq_nn, eq_in, eq_ni, iv_n_list, iv_n_tuple, iv_n_bool, iv_n_str, iv_n_int, okt_n, iv_b_list, iv_b_tuple, iv_b_bool, iv_b_str, iv_b_int, okt_b, iv_i_list, iv_i_tuple, iv_i_bool, iv_i_str, iv_i_int, okt_i, iv_s_list, iv_s_tuple, iv_s_bool, iv_s_str, iv_s_int, okt_s, iv_t_list, iv_t_tuple, iv_t_bool, iv_t_str, iv_t_int, okt_t, iv_r_list, iv_r_tuple, iv_r_bool, iv_r_str, iv_r_int, tru_b, tru_i, tru_n, tru_t, Option.map_some, Option.map_none, List.map_cons, List.map_nil, List.length_cons, List.length_nil, List.set_cons_zero, List.set_cons_succ, List.cons_append, List.nil_append, List.replicate, Nat.reduceAdd, Nat.reduceSub, Nat.reduceLeDiff, true_and, and_true, decide_eq_true_eq, reduceIte, Bool.false_eq_true, Bool.not_true, Bool.not_false, decide_true, decide_false]
  rw [s_seq]
  try simp -dsimp only [at0, at1, at2, at3, at4, at5, at6, wp_fn, s_nil, s_brk, s_cnt, s_expr, s_ret, s_retN, s_if, s_asn, s_par, s_asg, g_nm, g_nil, g_cons, g_tupT, g_subW, w_v0, w_vS, w_c, w_op, w_un, w_anil, w_acons, w_tup, w_lst, w_call, w_callU, w_isi, w_meth, w_tru, w_bool, w_notS, w_andS, w_orS, w_ifx, w_andV, w_orV, w_notV, w_chain, wp_ok, wp_bad, wp_some, wp_none, wp_liftif, wp_if, asB_b, wp_noex, add_ii, sub_ii, mul_ii, fdiv_ii, mod_ii, pow_ii, neg_i, cmp_ii, lt_ii, le_ii, gt_ii, ge_ii, le_cc, muls_ii, muls_si, ins_cs, iadd_ii, isub_ii, w_onone, w_osome, w_sl, sl_s, sl_t, s_aug, eq_ss, len_s, ix_s, add_ss, str_s, tuple_t, list_t, is_n, not_n, non_n, non_i, non_b, non_s, non_t, non_r, abs_i, max_ii, min_ii, int_i, int_b, gcd_ii, len_t, ix_t, eq_v, ne_v, eq_ii, eq_bb, eq_nn, eq_in, eq_ni, iv_n_list, iv_n_tuple, iv_n_bool, iv_n_str, iv_n_int, okt_n, iv_b_list, iv_b_tuple, iv_b_bool, iv_b_str, iv_b_int, okt_b, iv_i_list, iv_i_tuple, iv_i_bool, iv_i_str, iv_i_int, okt_i, iv_s_list, iv_s_tuple, iv_s_bool, iv_s_str, iv_s_int, okt_s, iv_t_list, iv_t_tuple, iv_t_bool, iv_t_str, iv_t_int, okt_t, iv_r_list, iv_r_tuple, iv_r_bool, iv_r_str, iv_r_int, tru_b, tru_i, tru_n, tru_t, Option.map_some, Option.map_none, List.map_cons, List.map_nil, List.length_cons, List.length_nil, List.set_cons_zero, List.set_cons_succ, List.cons_append, List.nil_append, List.replicate, Nat.reduceAdd, Nat.reduceSub, Nat.reduceLeDiff, true_and, and_true, decide_eq_true_eq, reduceIte, Bool.false_eq_true, Bool.not_true, Bool.not_false, decide_true, decide_false]
  rw [if_pos (.inl (.inl (by omega))), if_pos ⟨by omega, big_of (by omega)⟩, fdiv_pos (by omega)]
  try simp -dsimp only [at0, at1, at2, at3, at4, at5, at6, wp_fn, s_nil, s_brk, s_cnt, s_expr, s_ret, s_retN, s_if, s_asn, s_par, s_asg, g_nm, g_nil, g_cons, g_tupT, g_subW, w_v0, w_vS, w_c, w_op, w_un, w_anil, w_acons, w_tup, w_lst, w_call, w_callU, w_isi, w_meth, w_tru, w_bool, w_notS, w_andS, w_orS, w_ifx, w_andV, w_orV, w_notV, w_chain, wp_ok, wp_bad, wp_some, wp_none, wp_liftif, wp_if, asB_b, wp_noex, add_ii, sub_ii, mul_ii, fdiv_ii, mod_ii, pow_ii, neg_i, cmp_ii, lt_ii, le_ii, gt_ii, ge_ii, le_cc, muls_ii, muls_si, ins_cs, iadd_ii, isub_ii, w_onone, w_osome, w_sl, sl_s, sl_t, s_aug, eq_ss, len_s, ix_s, add_ss, str_s, tuple_t, list_t, is_n, not_n, non_n, non_i, non_b, non_s, non_t, non_r, abs_i, max_ii, min_ii, int_i, int_b, gcd_ii, len_t, ix_t, eq_v, ne_v, eq_ii, eq_bb, eq_nn, eq_in, eq_ni, iv_n_list, iv_n_tuple, iv_n_bool, iv_n_str, iv_n_int, okt_n, iv_b_list, iv_b_tuple, iv_b_bool, iv_b_str, iv_b_int, okt_b, iv_i_list, iv_i_tuple, iv_i_bool, iv_i_str, iv_i_int, okt_i, iv_s_list, iv_s_tuple, iv_s_bool, iv_s_str, iv_s_int, okt_s, iv_t_list, iv_t_tuple, iv_t_bool, iv_t_str, iv_t_int, okt_t, iv_r_list, iv_r_tuple, iv_r_bool, iv_r_str, iv_r_int, tru_b, tru_i, tru_n, tru_t, Option.map_some, Option.map_none, List.map_cons, List.map_nil, List.length_cons, List.length_nil, List.set_cons_zero, List.set_cons_succ, List.cons_append, List.nil_append, List.replicate, Nat.reduceAdd, Nat.reduceSub, Nat.reduceLeDiff, true_and, and_true, decide_eq_true_eq, reduceIte, Bool.false_eq_true, Bool.not_true, Bool.not_false, decide_true, decide_false]
  rw [s_seq]
  try simp -dsimp only [at0, at1, at2, at3, at4, at5, at6, wp_fn, s_nil, s_brk, s_cnt, s_expr, s_ret, s_retN, s_if, s_asn, s_par, s_asg, g_nm, g_nil, g_cons, g_tupT, g_subW, w_v0, w_vS, w_c, w_op, w_un, w_anil, w_acons, w_tup, w_lst, w_call, w_callU, w_isi, w_meth, w_tru, w_bool, w_notS, w_andS, w_orS, w_ifx, w_andV, w_orV, w_notV, w_chain, wp_ok, wp_bad, wp_some, wp_none, wp_liftif, wp_if, asB_b, wp_noex, add_ii, sub_ii, mul_ii, fdiv_ii, mod_ii, pow_ii, neg_i, cmp_ii, lt_ii, le_ii, gt_ii, ge_ii, le_cc, muls_ii, muls_si, ins_cs, iadd_ii, isub_ii, w_onone, w_osome, w_sl, sl_s, sl_t, s_aug, eq_ss, len_s, ix_s, add_ss, str_s, tuple_t, list_t, is_n, not_n, non_n, non_i, non_b, non_s, non_t, non_r, abs_i, max_ii, min_ii, int_i, int_b, gcd_ii, len_t, ix_t, eq_v, ne_v, eq_ii, eq_bb, eq_nn, eq_in, eq_ni, iv_n_list, iv_n_tuple, iv_n_bool, iv_n_str, iv_n_int, okt_n, iv_b_list, iv_b_tuple, iv_b_bool, iv_b_str, iv_b_int, okt_b, iv_i_list, iv_i_tuple, iv_i_bool, iv_i_str, iv_i_int, okt_i, iv_s_list, iv_s_tuple, iv_s_bool, iv_s_str, iv_s_int, okt_s, iv_t_list, iv_t_tuple, iv_t_bool, iv_t_str, iv_t_int, okt_t, iv_r_list, iv_r_tuple, iv_r_bool, iv_r_str, iv_r_int, tru_b, tru_i, tru_n, tru_t, Option.map_some, Option.map_none, List.map_cons, List.map_nil, List.length_cons, List.length_nil, List.set_cons_zero, List.set_cons_succ, List.cons_append, List.nil_append, List.replicate, Nat.reduceAdd, Nat.reduceSub, Nat.reduceLeDiff, true_and, and_true, decide_eq_true_eq, reduceIte, Bool.false_eq_true, Bool.not_true, Bool.not_false, decide_true, decide_false]
  have hc := Int.emod_nonneg (W - D) (b := 1440) (by decide)
  have hc2 := Int.emod_lt_of_pos (W - D) (b := 1440) (by decide)
  rw [if_pos (by decide), fmod_pos (by decide), if_pos (.inl (.inr (by omega))), if_pos (.inl (.inr (by omega)))]
  try simp -dsimp only [at0, at1, at2, at3, at4, at5, at6, wp_fn, s_nil, s_brk, s_cnt, s_expr, s_ret, s_retN, s_if, s_asn, s_par, s_asg, g_nm, g_nil, g_cons, g_tupT, g_subW, w_v0, w_vS, w_c, w_op, w_un, w_anil, w_acons, w_tup, w_lst, w_call, w_callU, w_isi, w_meth, w_tru, w_bool, w_notS, w_andS, w_orS, w_ifx, w_andV, w_orV, w_notV, w_chain, wp_ok, wp_bad, wp_some, wp_none, wp_liftif, wp_if, asB_b, wp_noex, add_ii, sub_ii, mul_ii, fdiv_ii, mod_ii, pow_ii, neg_i, cmp_ii, lt_ii, le_ii, gt_ii, ge_ii, le_cc, muls_ii, muls_si, ins_cs, iadd_ii, isub_ii, w_onone, w_osome, w_sl, sl_s, sl_t, s_aug, eq_ss, len_s, ix_s, add_ss, str_s, tuple_t, list_t, is_n, not_n, non_n, non_i, non_b, non_s, non_t, non_r, abs_i, max_ii, min_ii, int_i, int_b, gcd_ii, len_t, ix_t, eq_v, ne_v, eq_ii, eq_bb, eq_nn, eq_in, eq_ni, iv_n_list, iv_n_tuple, iv_n_bool, iv_n_str, iv_n_int, okt_n, iv_b_list, iv_b_tuple, iv_b_bool, iv_b_str, iv_b_int, okt_b, iv_i_list, iv_i_tuple, iv_i_bool, iv_i_str, iv_i_int, okt_i, iv_s_list, iv_s_tuple, iv_s_bool, iv_s_str, iv_s_int, okt_s, iv_t_list, iv_t_tuple, iv_t_bool, iv_t_str, iv_t_int, okt_t, iv_r_list, iv_r_tuple, iv_r_bool, iv_r_str, iv_r_int, tru_b, tru_i, tru_n, tru_t, Option.map_some, Option.map_none, List.map_cons, List.map_nil, List.length_cons, List.length_nil, List.set_cons_zero, List.set_cons_succ, List.cons_append, List.nil_append, List.replicate, Nat.reduceAdd, Nat.reduceSub, Nat.reduceLeDiff, true_and, and_true, decide_eq_true_eq, reduceIte, Bool.false_eq_true, Bool.not_true, Bool.not_false, decide_true, decide_false]
  rw [if_pos (.inl (.inl (by omega))), if_pos (.inl (.inl (by omega))), if_pos (.inl (.inr (by omega))), if_pos (.inl (.inr (by omega)))]
  refine dday_ok.mono ?_
  rintro _ _ ⟨rfl, rfl⟩
  try simp -dsimp only [at0, at1, at2, at3, at4, at5, at6, wp_fn, s_nil, s_brk, s_cnt, s_expr, s_ret, s_retN, s_if, s_asn, s_par, s_asg, g_nm, g_nil, g_cons, g_tupT, g_subW, w_v0, w_vS, w_c, w_op, w_un, w_anil, w_acons, w_tup, w_lst, w_call, w_callU, w_isi, w_meth, w_tru, w_bool, w_notS, w_andS, w_orS, w_ifx, w_andV, w_orV, w_notV, w_chain, wp_ok, wp_bad, wp_some, wp_none, wp_liftif, wp_if, asB_b, wp_noex, add_ii, sub_ii, mul_ii, fdiv_ii, mod_ii, pow_ii, neg_i, cmp_ii, lt_ii, le_ii, gt_ii, ge_ii, le_cc, muls_ii, muls_si, ins_cs, iadd_ii, isub_ii, w_onone, w_osome, w_sl, sl_s, sl_t, s_aug, eq_ss, len_s, ix_s, add_ss, str_s, tuple_t, list_t, is_n, not_n, non_n, non_i, non_b, non_s, non_t, non_r, abs_i, max_ii, min_ii, int_i, int_b, gcd_ii, len_t, ix_t, eq_v, ne_v, eq_ii, eq_bb, eq_nn, eq_in, eq_ni, iv_n_list, iv_n_tuple, iv_n_bool, iv_n_str, iv_n_int, okt_n, iv_b_list, iv_b_tuple, iv_b_bool, iv_b_str, iv_b_int, okt_b, iv_i_list, iv_i_tuple, iv_i_bool, iv_i_str, iv_i_int, okt_i, iv_s_list, iv_s_tuple, iv_s_bool, iv_s_str, iv_s_int, okt_s, iv_t_list, iv_t_tuple, iv_t_bool, iv_t_str, iv_t_int, okt_t, iv_r_list, iv_r_tuple, iv_r_bool, iv_r_str, iv_r_int, tru_b, tru_i, tru_n, tru_t, Option.map_some, Option.map_none, List.map_cons, List.map_nil, List.length_cons, List.length_nil, List.set_cons_zero, List.set_cons_succ, List.cons_append, List.nil_append, List.replicate, Nat.reduceAdd, Nat.reduceSub, Nat.reduceLeDiff, true_and, and_true, decide_eq_true_eq, reduceIte, Bool.false_eq_true, Bool.not_true, Bool.not_false, decide_true, decide_false]
  rw [Gn_prog hq]
  exact lowest_ok (by omega) (by omega)
theorem dpart_ok {D W p1 q1 p2 q2 : Int} {m : MH} {x1 x2 x3 x4 x5 : PV} (h1 : 0 < q1) (h1' : q1.natAbs < 4294967296) (h2 : 0 < q2) (h2' : q2.natAbs < 4294967296) (hD : 0 ≤ D ∧ D ≤ 1439) (hW : 0 ≤ W ∧ W ≤ 1439) :
    WP (f_dark_part [.tup [x1, x2, x3, x4, x5, .int D, .int W], fpv p1 q1, fpv p2 q2] m) (fun x m' => x = dkv D W p1 q1 p2 q2 ∧ m' = m) NoE := by
  have ha := fun (m : MH) => duntil_ok (D := D) (W := W) (p := p1) (m := m) (x1 := x1) (x2 := x2) (x3 := x3) (x4 := x4) (x5 := x5) h1 h1' hD hW
  have hb := fun (m : MH) => duntil_ok (D := D) (W := W) (p := p2) (m := m) (x1 := x1) (x2 := x2) (x3 := x3) (x4 := x4) (x5 := x5) h2 h2' hD hW
  unfold f_dark_part b_dark_part fpv at *
  walk_at "w1"
  refine (hb _).mono ?_
  rintro _ _ ⟨rfl, rfl⟩
  walk_at "w1"
  refine (ha _).mono ?_
  rintro _ _ ⟨rfl, rfl⟩
  obtain ⟨a, b, e1, e2, e3, e4, e5⟩ := lowv_red (p := Gn D W p1 q1) h1
  obtain ⟨a', b', z1, z2, z3, z4, z5⟩ := lowv_red (p := Gn D W p2 q2) h2
  have p1 := e2.pos
  have p2 := z2.pos
  rw [e1, z1]
  walk_at "w1"
  refine (minus_ok p2 p1 (by omega) (by omega)).mono ?_
  rintro _ _ ⟨rfl, rfl⟩
  unfold dkv
  refine ⟨lowv_congr (Int.mul_pos p2 p1) (Int.mul_pos h1 h2) (by grind), rfl⟩
/-! ## the dark, minute by minute -/
theorem idt_same {a b w q1 lq rq Gl Gr G1 : Int} (h : (a + w * b) * (q1 * lq) = (Gl * q1 - G1 * lq) * b) (hg : Gr * lq = Gl * rq) (hl : 0 < lq) : (a + w * b) * (q1 * rq) = (Gr * q1 - G1 * rq) * b := by
  refine Int.eq_of_mul_eq_mul_right (a := lq) (by omega) ?_
  have e1 : (a + w * b) * (q1 * rq) * lq = (a + w * b) * (q1 * lq) * rq := by grind
  rw [e1, h]
  grind
theorem idt_add {a b w q1 lq rq lp rp Gl Gr G1 a' b' c e : Int} (h : (a + w * b) * (q1 * lq) = (Gl * q1 - G1 * lq) * b) (hg : Gr * lq - Gl * rq = rp * lq - lp * rq) (hl : 0 < lq) (hb : 0 < b) (he : 0 < e)
    (hc : c * (rq * lq) = (rp * lq + (0 - lp) * rq) * e) (ha : a' * (b * e) = (a * e + c * b) * b') : (a' + w * b') * (q1 * rq) = (Gr * q1 - G1 * rq) * b' := by
  have hz : b * e * lq ≠ 0 := by
    have := Int.mul_pos (Int.mul_pos hb he) hl
    omega
  refine Int.eq_of_mul_eq_mul_right hz ?_
  have e1 : (a' + w * b') * (q1 * rq) * (b * e * lq) = (a' * (b * e) + w * b' * b * e) * q1 * rq * lq := by grind
  have e2 : ((a * e + c * b) * b' + w * b' * b * e) * q1 * rq * lq = b' * (((a + w * b) * (q1 * lq)) * e * rq + q1 * b * (c * (rq * lq))) := by grind
  rw [e1, ha, e2, h, hc]
  have e3 : Gr * lq = Gl * rq + rp * lq - lp * rq := by omega
  have e4 : (Gr * q1 - G1 * rq) * b' * (b * e * lq) = (q1 * (Gr * lq) - G1 * rq * lq) * b' * b * e := by grind
  rw [e4, e3]
  grind
def clp (p1 q1 p2 q2 n : Int) : Int × Int := if n * q1 < p1 then (p1, q1) else if n * q2 ≤ p2 then (n, 1) else (p2, q2)
structure DI (D W p1 q1 p2 q2 n a b w : Int) : Prop where
  pos : 0 < b
  nn : 0 ≤ a
  first : n ≤ p1 / q1 → a = 0 ∧ b = 1
  mid : n ≤ p2 / q2 → a ≤ b ∧ b ≤ q1
  a2 : a ≤ 2 * b
  b2 : b ≤ q1 * q2
  w0 : 0 ≤ w
  w1 : w + p1 / q1 ≤ n
  eq : (a + w * b) * (q1 * (clp p1 q1 p2 q2 n).2) = (Gn D W (clp p1 q1 p2 q2 n).1 (clp p1 q1 p2 q2 n).2 * q1 - Gn D W p1 q1 * (clp p1 q1 p2 q2 n).2) * b
section
variable {D W p1 q1 p2 q2 n a b w : Int}
theorem floor_facts {p q : Int} (hq : 0 < q) (n : Int) : (n ≤ p / q ↔ n * q ≤ p) ∧ (p / q < n ↔ p < n * q) :=
  ⟨Int.le_ediv_iff_mul_le hq, Int.ediv_lt_iff_lt_mul hq⟩
theorem DI.same {lp lq rp rq : Int} (h : DI D W p1 q1 p2 q2 n a b w) (hn : p1 / q1 ≤ n) (hn2 : n ≤ p2 / q2) (el : clp p1 q1 p2 q2 n = (lp, lq)) (er : clp p1 q1 p2 q2 (n + 1) = (rp, rq)) (hl : 0 < lq) (hg : Gn D W rp rq * lq = Gn D W lp lq * rq) : DI D W p1 q1 p2 q2 (n + 1) a b w := by
  have := h.eq
  rw [el] at this
  refine ⟨h.pos, h.nn, fun z => by omega, fun z => h.mid (by omega), h.a2, h.b2, h.w0, by have := h.w1; omega, ?_⟩
  rw [er]
  exact idt_same this hg hl
theorem DI.whole (hD : 0 ≤ D ∧ D ≤ 1439) (hW : 0 ≤ W ∧ W ≤ 1439) (h1 : 0 < q1) (h2 : 0 < q2) (h : DI D W p1 q1 p2 q2 n a b w) (hn : p1 / q1 ≤ n) (hn2 : n ≤ p2 / q2) (c1 : p1 ≤ n * q1) (c2 : (n + 1) * q2 ≤ p2) : DI D W p1 q1 p2 q2 (n + 1) a b (w + dkn D W n) := by
  have e0 := h.eq
  have f1 := (floor_facts (p := p2) h2 n).1.mp hn2
  have f2 : p1 ≤ (n + 1) * q1 := by rw [Int.add_mul]; omega
  have el : clp p1 q1 p2 q2 n = (n, 1) := by unfold clp; rw [if_neg (by omega), if_pos f1]
  have er : clp p1 q1 p2 q2 (n + 1) = (n + 1, 1) := by unfold clp; rw [if_neg (by omega), if_pos c2]
  have g1 : Gn D W n 1 = Cn D W n := by unfold Gn; rw [Int.ediv_one]; grind
  have g2 : Gn D W (n + 1) 1 = Cn D W n + dkn D W n := by unfold Gn; rw [Int.ediv_one, Cn_succ hD hW]; grind
  have w1 := h.w1
  have w0 := h.w0
  have d01 := dkn_01 D W n
  rw [el] at e0
  dsimp only at e0
  rw [g1] at e0
  refine ⟨h.pos, h.nn, fun z => by omega, fun z => h.mid (by omega), h.a2, h.b2, by omega, by omega, ?_⟩
  rw [er]
  dsimp only
  rw [g2]
  generalize dkn D W n = k at *
  grind
theorem clip_l (h2 : 0 < q2) (hn2 : n ≤ p2 / q2) : clp p1 q1 p2 q2 n = (if n * q1 < p1 * 1 then (p1, q1) else (n, 1)) := by
  have f1 := (floor_facts (p := p2) h2 n).1.mp hn2
  unfold clp
  rw [Int.mul_one, if_pos f1]
theorem clip_r (h1 : 0 < q1) (hn : p1 / q1 ≤ n) : clp p1 q1 p2 q2 (n + 1) = (if p2 * 1 < (n + 1) * q2 then (p2, q2) else (n + 1, 1)) := by
  have f1 := (floor_facts (p := p1) h1 (n + 1)).2.mp (by omega)
  unfold clp
  rw [Int.mul_one, if_neg (by omega)]
  by_cases c : (n + 1) * q2 ≤ p2
  · rw [if_pos c, if_neg (by omega)]
  · rw [if_neg c, if_pos (by omega)]
/-- the two ends of a part of a minute -/
structure Ends (p1 q1 p2 q2 n lp lq rp rq : Int) : Prop where
  lz : 0 < lq
  rz : 0 < rq
  l1 : n * lq ≤ lp
  l2 : lp ≤ (n + 1) * lq
  r1 : n * rq ≤ rp
  r2 : rp ≤ (n + 1) * rq
  le : lp * rq ≤ rp * lq
  lb : lq ≤ q1
  rb : rq ≤ q2
  lo : p1 / q1 < n → lq = 1
  ro : n + 1 ≤ p2 / q2 → rq = 1
theorem ends_of {lp lq rp rq : Int} (h1 : 0 < q1) (h2 : 0 < q2) (hle : p1 * q2 ≤ p2 * q1) (hn : p1 / q1 ≤ n) (hn2 : n ≤ p2 / q2)
    (el : (if n * q1 < p1 * 1 then (p1, q1) else (n, 1)) = (lp, lq)) (er : (if p2 * 1 < (n + 1) * q2 then (p2, q2) else (n + 1, 1)) = (rp, rq)) : Ends p1 q1 p2 q2 n lp lq rp rq := by
  have f1 := (floor_facts (p := p1) h1 (n + 1)).2.mp (by omega)
  have f2 := (floor_facts (p := p2) h2 n).1.mp hn2
  have f3 := fun z => (floor_facts (p := p2) h2 (n + 1)).1.mp z
  have f4 := fun z => (floor_facts (p := p1) h1 n).2.mp z
  by_cases c : n * q1 < p1 * 1
  · rw [if_pos c] at el
    cases el
    by_cases c2 : p2 * 1 < (n + 1) * q2
    · rw [if_pos c2] at er
      cases er
      exact ⟨h1, h2, by omega, by omega, f2, by omega, hle, by omega, by omega, fun z => by have := f4 z; omega, fun z => by have := f3 z; omega⟩
    · rw [if_neg c2] at er
      cases er
      exact ⟨h1, by decide, by omega, by omega, by omega, by omega, by omega, by omega, by omega, fun z => by have := f4 z; omega, fun _ => rfl⟩
  · rw [if_neg c] at el
    cases el
    by_cases c2 : p2 * 1 < (n + 1) * q2
    · rw [if_pos c2] at er
      cases er
      exact ⟨by decide, h2, by omega, by omega, f2, by omega, by omega, by omega, by omega, fun _ => rfl, fun z => by have := f3 z; omega⟩
    · rw [if_neg c2] at er
      cases er
      exact ⟨by decide, by decide, by omega, by omega, by omega, by omega, by omega, by omega, by omega, fun _ => rfl, fun _ => rfl⟩
theorem Ends.diff {lp lq rp rq : Int} (hD : 0 ≤ D ∧ D ≤ 1439) (hW : 0 ≤ W ∧ W ≤ 1439) (E : Ends p1 q1 p2 q2 n lp lq rp rq) : Gn D W rp rq * lq - Gn D W lp lq * rq = dkn D W n * (rp * lq - lp * rq) := by
  rw [Gn_in hD hW E.lz E.l1 E.l2, Gn_in hD hW E.rz E.r1 E.r2]
  grind
theorem DI.add {lp lq rp rq c e a' b' : Int} (hD : 0 ≤ D ∧ D ≤ 1439) (hW : 0 ≤ W ∧ W ≤ 1439) (h1 : 0 < q1) (h2 : 0 < q2) (h : DI D W p1 q1 p2 q2 n a b w) (hn : p1 / q1 ≤ n) (hn2 : n ≤ p2 / q2) (E : Ends p1 q1 p2 q2 n lp lq rp rq)
    (el : clp p1 q1 p2 q2 n = (lp, lq)) (er : clp p1 q1 p2 q2 (n + 1) = (rp, rq)) (hk : dkn D W n = 1) (nw : ¬ (p1 ≤ n * q1 ∧ (n + 1) * q2 ≤ p2))
    (he : 0 < e) (hc : c * (rq * lq) = (rp * lq + (0 - lp) * rq) * e) (he2 : e ≤ rq * lq) (hb' : 0 < b') (ha : a' * (b * e) = (a * e + c * b) * b') (hb2 : b' ≤ b * e) : DI D W p1 q1 p2 q2 (n + 1) a' b' w := by
  have hb := h.pos
  have nn := h.nn
  have hpos := Int.mul_pos E.rz E.lz
  have hbe := Int.mul_pos hb he
  have c0 : 0 ≤ c := by
    refine Int.le_of_mul_le_mul_right (a := rq * lq) ?_ hpos
    rw [hc, Int.zero_mul]
    refine Int.mul_nonneg ?_ (by omega)
    have := E.le
    rw [Int.sub_mul]
    omega
  have c1 : c ≤ e := by
    refine Int.le_of_mul_le_mul_right (a := rq * lq) ?_ hpos
    rw [hc, Int.mul_comm e]
    refine Int.mul_le_mul_of_nonneg_right ?_ (by omega)
    have h1 := Int.mul_le_mul_of_nonneg_right E.r2 (Int.le_of_lt E.lz)
    have h2 := Int.mul_le_mul_of_nonneg_right E.l1 (Int.le_of_lt E.rz)
    have h3 : (n + 1) * rq * lq = n * lq * rq + rq * lq := by grind
    rw [Int.sub_mul]
    omega
  have a0 : 0 ≤ a' := by
    refine Int.le_of_mul_le_mul_right (a := b * e) ?_ hbe
    rw [ha, Int.zero_mul]
    exact Int.mul_nonneg (Int.add_nonneg (Int.mul_nonneg nn (by omega)) (Int.mul_nonneg c0 (by omega))) (by omega)
  obtain ⟨ab, bq⟩ := h.mid hn2
  have cb : c * b ≤ e * b := Int.mul_le_mul_of_nonneg_right c1 (by omega)
  have ae : a * e ≤ b * e := Int.mul_le_mul_of_nonneg_right ab (by omega)
  have ecomm : e * b = b * e := Int.mul_comm _ _
  have a2 : a' ≤ 2 * b' := by
    refine Int.le_of_mul_le_mul_right (a := b * e) ?_ hbe
    have : (a * e + c * b) * b' ≤ (2 * (b * e)) * b' := Int.mul_le_mul_of_nonneg_right (by omega) (by omega)
    rw [ha]
    have e3 : 2 * (b * e) * b' = 2 * b' * (b * e) := by grind
    omega
  have hlr : rq * lq ≤ q2 * q1 := Int.mul_le_mul E.rb E.lb (by have := E.lz; omega) (by omega)
  have fin : ∀ z : (a' + w * b') * (q1 * rq) = (Gn D W rp rq * q1 - Gn D W p1 q1 * rq) * b', _ := fun z => z
  have ident := idt_add (w := w) (G1 := Gn D W p1 q1) (by have := h.eq; rw [el] at this; exact this) (by rw [E.diff hD hW, hk, Int.one_mul]) E.lz hb he hc ha
  by_cases hf : n = p1 / q1
  · obtain ⟨rfl, rfl⟩ := h.first (by omega)
    refine ⟨hb', a0, fun z => by omega, fun z => ?_, a2, ?_, h.w0, by have := h.w1; omega, by rw [er]; exact ident⟩
    · have e1 := E.ro z
      subst e1
      refine ⟨?_, by have := E.lb; omega⟩
      refine Int.le_of_mul_le_mul_right (a := 1 * e) ?_ hbe
      rw [ha]
      have : (0 * e + c * 1) * b' ≤ e * b' := Int.mul_le_mul_of_nonneg_right (by omega) (by omega)
      have e3 : b' * (1 * e) = e * b' := by grind
      omega
    · rw [Int.mul_comm q1]; omega
  · have e1 := E.lo (by omega)
    subst e1
    have hlast : ¬ n + 1 ≤ p2 / q2 := fun z => nw ⟨by
      have := (floor_facts (p := p1) h1 n).2.mp (by omega)
      omega, (floor_facts (p := p2) h2 (n + 1)).1.mp z⟩
    refine ⟨hb', a0, fun z => by omega, fun z => absurd z hlast, a2, ?_, h.w0, by have := h.w1; omega, by rw [er]; exact ident⟩
    have : b * e ≤ q1 * q2 := Int.mul_le_mul bq (by have := E.rb; omega) (by omega) (by omega)
    omega
theorem DI.zero (h1 : 0 < q1) (h2 : 0 < q2) (hle : p1 * q2 ≤ p2 * q1) : DI D W p1 q1 p2 q2 (p1 / q1) 0 1 0 := by
  have hq := Int.mul_pos h1 h2
  have f1 := (floor_facts (p := p1) h1 (p1 / q1)).1.mp (Int.le_refl _)
  refine ⟨by decide, by decide, fun _ => ⟨rfl, rfl⟩, fun _ => ⟨by decide, by omega⟩, by decide, by omega, by decide, by omega, ?_⟩
  rw [show (0 + 0 * 1 : Int) = 0 by decide, Int.zero_mul, Int.mul_one]
  unfold clp
  by_cases c : p1 / q1 * q1 < p1
  · rw [if_pos c]
    dsimp only
    omega
  · have e : p1 / q1 * q1 = p1 := by omega
    rw [if_neg c]
    have g : Gn D W (p1 / q1) 1 * q1 = Gn D W p1 q1 * 1 := Gn_same (by decide) h1 (by omega)
    by_cases c2 : p1 / q1 * q2 ≤ p2
    · rw [if_pos c2]
      dsimp only
      omega
    · exfalso
      have : p1 / q1 * q2 * q1 = p1 * q2 := by rw [← e]; grind
      exact c2 (Int.le_of_mul_le_mul_right (a := q1) (by omega) h1)
theorem DI.done (h1 : 0 < q1) (h2 : 0 < q2) (hle : p1 * q2 ≤ p2 * q1) (h : DI D W p1 q1 p2 q2 (p2 / q2 + 1) a b w) : lowv (a * 1 + w * b) (b * 1) = dkv D W p1 q1 p2 q2 := by
  have e := h.eq
  have f1 := (floor_facts (p := p2) h2 (p2 / q2 + 1)).2.mp (by omega)
  have er : clp p1 q1 p2 q2 (p2 / q2 + 1) = (p2, q2) := by
    unfold clp
    have : ¬ (p2 / q2 + 1) * q1 < p1 := by
      intro z
      have z1 : p2 < (p2 / q2 + 1) * q2 := f1
      have z2 := Int.mul_lt_mul_of_pos_right z h2
      have z3 := Int.mul_lt_mul_of_pos_right z1 h1
      have z4 : (p2 / q2 + 1) * q1 * q2 = (p2 / q2 + 1) * q2 * q1 := by grind
      omega
    rw [if_neg this, if_neg (by omega)]
  rw [er] at e
  dsimp only at e
  unfold dkv
  refine lowv_congr (by have := h.pos; omega) (Int.mul_pos h1 h2) ?_
  rw [Int.mul_one, Int.mul_one]
  exact e
end
/-- for x in range(a, b), where a and b are reckoned -/
theorem s_for2W {l : SM.Loc} {m : MH} {D : ED} {a b : SE} {g : STg} {body : SS} (h : WP (a l m) (fun x m1 => WP (b l m1) (fun y m2 => ∃ i j : Int, x = .int i ∧ y = .int j ∧ (-4611686018427387904 ≤ i ∧ i < 4611686018427387904 ∧ -4611686018427387904 ≤ j ∧ j < 4611686018427387904) ∧ ∃ I : Nat → SM.Loc → MH → Prop, I 0 l m2 ∧
    (∀ k l m, k < (j - i).toNat → I k l m → WG (g (.int (i + (k : Nat))) l m) (fun l1 m1 => WS (body l1 m1) ⟨I (k + 1), D.rt, D.nx, I (k + 1), D.ex⟩)) ∧ (∀ l m, I (j - i).toNat l m → D.nx l m)) NoE) NoE) : WS (xFor (iRng2S a b) g body l m) D := by
  obtain ⟨x, m1, e, h⟩ := h.run
  obtain ⟨y, m2, e2, i, j, rfl, rfl, hj, I, h3, h4, h5⟩ := h.run
  exact s_for2 (j - i).toNat rfl e e2 hj I h3 h4 h5
theorem isd_ok {D W n : Int} {m : MH} {x1 x2 x3 x4 x5 : PV} : WP (f_law_is_dark [.tup [x1, x2, x3, x4, x5, .int D, .int W], .int n] m) (fun x m' => x = .bl (decide (dkn D W n = 1)) ∧ m' = m) NoE := by
  unfold f_law_is_dark b_law_is_dark dkn
  try simp -dsimp only [at0, at1, at2, at3, at4, at5, at6, wp_fn, s_nil, s_brk, s_cnt, s_expr, s_ret, s_retN, s_if, s_asn, s_par, s_asg, g_nm, g_nil, g_cons, g_tupT, g_subW, w_v0, w_vS, w_c, w_op, w_un, w_anil, w_acons, w_tup, w_lst, w_call, w_callU, w_isi, w_meth, w_tru, w_bool, w_notS, w_andS, w_orS, w_ifx, w_andV, w_orV, w_notV, w_chain, wp_ok, wp_bad, wp_some, wp_none, wp_liftif, wp_if, asB_b, wp_noex, add_ii, sub_ii, mul_ii, fdiv_ii, mod_ii, pow_ii, neg_i, cmp_ii, lt_ii, le_ii, gt_ii, ge_ii, le_cc, muls_ii, muls_si, ins_cs, iadd_ii, isub_ii, w_onone, w_osome, w_sl, sl_s, sl_t, s_aug, eq_ss, len_s, ix_s, add_ss, str_s, tuple_t, list_t, is_n, not_n, non_n, non_i, non_b, non_s, non_t, non_r, abs_i, max_ii, min_ii, int_i, int_b, gcd_ii, len_t, ix_t, eq_v, ne_v, eq_ii, eq_bb, eq_nn, eq_in, eq_ni, iv_n_list, iv_n_tuple, iv_n_bool, iv_n_str, iv_n_int, okt_n, iv_b_list, iv_b_tuple, iv_b_bool, iv_b_str, iv_b_int, okt_b, iv_i_list, iv_i_tuple, iv_i_bool, iv_i_str, iv_i_int, okt_i, iv_s_list, iv_s_tuple, iv_s_bool, iv_s_str, iv_s_int, okt_s, iv_t_list, iv_t_tuple, iv_t_bool, iv_t_str, iv_t_int, okt_t, iv_r_list, iv_r_tuple, iv_r_bool, iv_r_str, iv_r_int, tru_b, tru_i, tru_n, tru_t, Option.map_some, Option.map_none, List.map_cons, List.map_nil, List.length_cons, List.length_nil, List.set_cons_zero, List.set_cons_succ, List.cons_append, List.nil_append, List.replicate, Nat.reduceAdd, Nat.reduceSub, Nat.reduceLeDiff, true_and, and_true, decide_eq_true_eq, reduceIte, Bool.false_eq_true, Bool.not_true, Bool.not_false, decide_true, decide_false]
  rw [s_seq]
  try simp -dsimp only [at0, at1, at2, at3, at4, at5, at6, wp_fn, s_nil, s_brk, s_cnt, s_expr, s_ret, s_retN, s_if, s_asn, s_par, s_asg, g_nm, g_nil, g_cons, g_tupT, g_subW, w_v0, w_vS, w_c, w_op, w_un, w_anil, w_acons, w_tup, w_lst, w_call, w_callU, w_isi, w_meth, w_tru, w_bool, w_notS, w_andS, w_orS, w_ifx, w_andV, w_orV, w_notV, w_chain, wp_ok, wp_bad, wp_some, wp_none, wp_liftif, wp_if, asB_b, wp_noex, add_ii, sub_ii, mul_ii, fdiv_ii, mod_ii, pow_ii, neg_i, cmp_ii, lt_ii, le_ii, gt_ii, ge_ii, le_cc, muls_ii, muls_si, ins_cs, iadd_ii, isub_ii, w_onone, w_osome, w_sl, sl_s, sl_t, s_aug, eq_ss, len_s, ix_s, add_ss, str_s, tuple_t, list_t, is_n, not_n, non_n, non_i, non_b, non_s, non_t, non_r, abs_i, max_ii, min_ii, int_i, int_b, gcd_ii, len_t, ix_t, eq_v, ne_v, eq_ii, eq_bb, eq_nn, eq_in, eq_ni, iv_n_list, iv_n_tuple, iv_n_bool, iv_n_str, iv_n_int, okt_n, iv_b_list, iv_b_tuple, iv_b_bool, iv_b_str, iv_b_int, okt_b, iv_i_list, iv_i_tuple, iv_i_bool, iv_i_str, iv_i_int, okt_i, iv_s_list, iv_s_tuple, iv_s_bool, iv_s_str, iv_s_int, okt_s, iv_t_list, iv_t_tuple, iv_t_bool, iv_t_str, iv_t_int, okt_t, iv_r_list, iv_r_tuple, iv_r_bool, iv_r_str, iv_r_int, tru_b, tru_i, tru_n, tru_t, Option.map_some, Option.map_none, List.map_cons, List.map_nil, List.length_cons, List.length_nil, List.set_cons_zero, List.set_cons_succ, List.cons_append, List.nil_append, List.replicate, Nat.reduceAdd, Nat.reduceSub, Nat.reduceLeDiff, true_and, and_true, decide_eq_true_eq, reduceIte, Bool.false_eq_true, Bool.not_true, Bool.not_false, decide_true, decide_false]
  rw [if_pos (by decide), fmod_pos (by decide)]
  try simp -dsimp only [at0, at1, at2, at3, at4, at5, at6, wp_fn, s_nil, s_brk, s_cnt, s_expr, s_ret, s_retN, s_if, s_asn, s_par, s_asg, g_nm, g_nil, g_cons, g_tupT, g_subW, w_v0, w_vS, w_c, w_op, w_un, w_anil, w_acons, w_tup, w_lst, w_call, w_callU, w_isi, w_meth, w_tru, w_bool, w_notS, w_andS, w_orS, w_ifx, w_andV, w_orV, w_notV, w_chain, wp_ok, wp_bad, wp_some, wp_none, wp_liftif, wp_if, asB_b, wp_noex, add_ii, sub_ii, mul_ii, fdiv_ii, mod_ii, pow_ii, neg_i, cmp_ii, lt_ii, le_ii, gt_ii, ge_ii, le_cc, muls_ii, muls_si, ins_cs, iadd_ii, isub_ii, w_onone, w_osome, w_sl, sl_s, sl_t, s_aug, eq_ss, len_s, ix_s, add_ss, str_s, tuple_t, list_t, is_n, not_n, non_n, non_i, non_b, non_s, non_t, non_r, abs_i, max_ii, min_ii, int_i, int_b, gcd_ii, len_t, ix_t, eq_v, ne_v, eq_ii, eq_bb, eq_nn, eq_in, eq_ni, iv_n_list, iv_n_tuple, iv_n_bool, iv_n_str, iv_n_int, okt_n, iv_b_list, iv_b_tuple, iv_b_bool, iv_b_str, iv_b_int, okt_b, iv_i_list, iv_i_tuple, iv_i_bool, iv_i_str, iv_i_int, okt_i, iv_s_list, iv_s_tuple, iv_s_bool, iv_s_str, iv_s_int, okt_s, iv_t_list, iv_t_tuple, iv_t_bool, iv_t_str, iv_t_int, okt_t, iv_r_list, iv_r_tuple, iv_r_bool, iv_r_str, iv_r_int, tru_b, tru_i, tru_n, tru_t, Option.map_some, Option.map_none, List.map_cons, List.map_nil, List.length_cons, List.length_nil, List.set_cons_zero, List.set_cons_succ, List.cons_append, List.nil_append, List.replicate, Nat.reduceAdd, Nat.reduceSub, Nat.reduceLeDiff, true_and, and_true, decide_eq_true_eq, reduceIte, Bool.false_eq_true, Bool.not_true, Bool.not_false, decide_true, decide_false]
  rw [s_seq]
  try simp -dsimp only [at0, at1, at2, at3, at4, at5, at6, wp_fn, s_nil, s_brk, s_cnt, s_expr, s_ret, s_retN, s_if, s_asn, s_par, s_asg, g_nm, g_nil, g_cons, g_tupT, g_subW, w_v0, w_vS, w_c, w_op, w_un, w_anil, w_acons, w_tup, w_lst, w_call, w_callU, w_isi, w_meth, w_tru, w_bool, w_notS, w_andS, w_orS, w_ifx, w_andV, w_orV, w_notV, w_chain, wp_ok, wp_bad, wp_some, wp_none, wp_liftif, wp_if, asB_b, wp_noex, add_ii, sub_ii, mul_ii, fdiv_ii, mod_ii, pow_ii, neg_i, cmp_ii, lt_ii, le_ii, gt_ii, ge_ii, le_cc, muls_ii, muls_si, ins_cs, iadd_ii, isub_ii, w_onone, w_osome, w_sl, sl_s, sl_t, s_aug, eq_ss, len_s, ix_s, add_ss, str_s, tuple_t, list_t, is_n, not_n, non_n, non_i, non_b, non_s, non_t, non_r, abs_i, max_ii, min_ii, int_i, int_b, gcd_ii, len_t, ix_t, eq_v, ne_v, eq_ii, eq_bb, eq_nn, eq_in, eq_ni, iv_n_list, iv_n_tuple, iv_n_bool, iv_n_str, iv_n_int, okt_n, iv_b_list, iv_b_tuple, iv_b_bool, iv_b_str, iv_b_int, okt_b, iv_i_list, iv_i_tuple, iv_i_bool, iv_i_str, iv_i_int, okt_i, iv_s_list, iv_s_tuple, iv_s_bool, iv_s_str, iv_s_int, okt_s, iv_t_list, iv_t_tuple, iv_t_bool, iv_t_str, iv_t_int, okt_t, iv_r_list, iv_r_tuple, iv_r_bool, iv_r_str, iv_r_int, tru_b, tru_i, tru_n, tru_t, Option.map_some, Option.map_none, List.map_cons, List.map_nil, List.length_cons, List.length_nil, List.set_cons_zero, List.set_cons_succ, List.cons_append, List.nil_append, List.replicate, Nat.reduceAdd, Nat.reduceSub, Nat.reduceLeDiff, true_and, and_true, decide_eq_true_eq, reduceIte, Bool.false_eq_true, Bool.not_true, Bool.not_false, decide_true, decide_false]
  generalize n % 1440 = z
  unfold dkm
  by_cases c1 : D ≤ W
  · simp only [if_pos c1]
    by_cases c2 : D ≤ z
    · simp only [if_pos c2]
      by_cases c3 : z < W
      · simp [c2, c3]
      · simp [c2, c3]
    · simp only [if_neg c2]
      simp [c2]
  · simp only [if_neg c1]
    by_cases c2 : D ≤ z
    · simp [c2]
    · simp only [if_neg c2]
      by_cases c3 : z < W
      · simp [c2, c3]
      · simp [c2, c3]
noncomputable def ldB : SS := (xIf (tTru (sCallU 2 f_law_is_dark (aCons (sVar 0) (aCons (sVar 5) aNil)))) (xSeq (xSet 6 (sTup (aCons (sVar 5) (aCons (sC (.int 1)) aNil)))) (xSeq (xSet 7 (sTup (aCons (sOp addv (sVar 5) (sC (.int 1))) (aCons (sC (.int 1)) aNil)))) (xSeq (xIf (tTru (sCallU 2 f_law_less (aCons (sVar 6) (aCons (sVar 1) aNil)))) (xSet 6 (sVar 1)) xNil) (xSeq (xIf (tTru (sCallU 2 f_law_less (aCons (sVar 2) (aCons (sVar 7) aNil)))) (xSet 7 (sVar 2)) xNil) (xIf (tTru (sCallU 2 f_law_less (aCons (sVar 6) (aCons (sVar 7) aNil)))) (xSet 3 (sCallU 2 f_law_plus (aCons (sVar 3) (aCons (sCallU 2 f_law_plus (aCons (sVar 7) (aCons (sTup (aCons (sOp subv (sC (.int 0)) (sOp ixv (sVar 6) (sC (.int 0)))) (aCons (sOp ixv (sVar 6) (sC (.int 1))) aNil))) aNil))) aNil)))) xNil))))) xNil)
theorem ldl1_eq : law_dark_l1 = xIf (tAndS (tBool (sOp gev (sOp mulvS (sVar 5) (sOp ixv (sVar 1) (sC (.int 1)))) (sOp ixv (sVar 1) (sC (.int 0))))) (tBool (sOp lev (sOp mulvS (sOp addv (sVar 5) (sC (.int 1))) (sOp ixv (sVar 2) (sC (.int 1)))) (sOp ixv (sVar 2) (sC (.int 0)))))) (xSet 4 (sOp addv (sVar 4) (sCall intv (aCons (sCallU 2 f_law_is_dark (aCons (sVar 0) (aCons (sVar 5) aNil))) aNil)))) ldB := rfl
theorem ldark_l1 {D W p1 q1 p2 q2 n a b w : Int} {m : MH} {x1 x2 x3 x4 x5 : PV} {x6 x7 : Option PV} {E : ED} (h1 : 0 < q1) (h1' : q1 ≤ 65536) (h2 : 0 < q2) (h2' : q2 ≤ 65536) (h0 : 0 ≤ p1) (hle : p1 * q2 ≤ p2 * q1) (hD : 0 ≤ D ∧ D ≤ 1439) (hW : 0 ≤ W ∧ W ≤ 1439)
    (hn : p1 / q1 ≤ n) (hn2 : n ≤ p2 / q2) (n0 : 0 ≤ n) (n3 : n ≤ 30000) (I : DI D W p1 q1 p2 q2 n a b w)
    (q : ∀ a b w x6 x7, DI D W p1 q1 p2 q2 (n + 1) a b w → E.nx [some (.tup [x1, x2, x3, x4, x5, .int D, .int W]), some (.tup [.int p1, .int q1]), some (.tup [.int p2, .int q2]), some (.tup [.int a, .int b]), some (.int w), some (.int n), x6, x7] m) :
    WS (law_dark_l1 [some (.tup [x1, x2, x3, x4, x5, .int D, .int W]), some (.tup [.int p1, .int q1]), some (.tup [.int p2, .int q2]), some (.tup [.int a, .int b]), some (.int w), some (.int n), x6, x7] m) E := by
  have hisd := fun (m : MH) => isd_ok (D := D) (W := W) (n := n) (m := m) (x1 := x1) (x2 := x2) (x3 := x3) (x4 := x4) (x5 := x5)
  have f4 : q1 * q2 ≤ 65536 * 65536 := Int.mul_le_mul h1' h2' (by omega) (by omega)
  have ib := I.b2
  have ia := I.a2
  have in0 := I.nn
  have ip := I.pos
  obtain ⟨⟨lp, lq⟩, el⟩ : ∃ z, z = (if n * q1 < p1 * 1 then (p1, q1) else (n, 1)) := ⟨_, rfl⟩
  obtain ⟨⟨rp, rq⟩, er⟩ : ∃ z, z = (if p2 * 1 < (n + 1) * q2 then (p2, q2) else (n + 1, 1)) := ⟨_, rfl⟩
  have En := ends_of h1 h2 hle hn hn2 el.symm er.symm
  have cl : clp p1 q1 p2 q2 n = (lp, lq) := (clip_l h2 hn2).trans el.symm
  have cr : clp p1 q1 p2 q2 (n + 1) = (rp, rq) := (clip_r h1 hn).trans er.symm
  have df := En.diff hD hW
  have lz := En.lz; have rz := En.rz; have lb := En.lb; have rb := En.rb
  have hst : dkn D W n = 0 ∨ rp * lq ≤ lp * rq → DI D W p1 q1 p2 q2 (n + 1) a b w := by
    intro z
    refine I.same hn hn2 cl cr lz ?_
    rcases z with z | z
    · rw [z] at df; omega
    · have := En.le
      rw [show rp * lq - lp * rq = 0 by omega, Int.mul_zero] at df
      omega
  have lr1 : 0 ≤ lp ∧ lp ≤ 30001 * 65536 := by
    have := En.l1
    have z1 := Int.mul_nonneg n0 (Int.le_of_lt lz)
    have z2 := En.l2
    have z3 : (n + 1) * lq ≤ 30001 * 65536 := Int.mul_le_mul (by omega) (by omega) (by omega) (by omega)
    omega
  have rr1 : 0 ≤ rp ∧ rp ≤ 30001 * 65536 := by
    have := En.r1
    have z1 := Int.mul_nonneg n0 (Int.le_of_lt rz)
    have z2 := En.r2
    have z3 : (n + 1) * rq ≤ 30001 * 65536 := Int.mul_le_mul (by omega) (by omega) (by omega) (by omega)
    omega
  have els : (¬ (p1 ≤ n * q1 ∧ (n + 1) * q2 ≤ p2)) → WS (ldB [some (.tup [x1, x2, x3, x4, x5, .int D, .int W]), some (.tup [.int p1, .int q1]), some (.tup [.int p2, .int q2]), some (.tup [.int a, .int b]), some (.int w), some (.int n), x6, x7] m) E := by
    intro nw
    unfold ldB
    walk_at "w1"
    refine (hisd _).mono ?_
    rintro _ m ⟨rfl, rfl⟩
    by_cases hk : dkn D W n = 1
    · rw [decide_eq_true hk]
      walk_at "w1"
      rw [s_seq]
      walk_at "w1"
      rw [s_seq]
      walk_at "w1"
      refine s_cut (mid := fun l m' => l = [some (.tup [x1, x2, x3, x4, x5, .int D, .int W]), some (.tup [.int p1, .int q1]), some (.tup [.int p2, .int q2]), some (.tup [.int a, .int b]), some (.int w), some (.int n), some (.tup [.int lp, .int lq]), some (.tup [.int (n + 1), .int 1])] ∧ m' = m) ?_ ?_
      · walk_at "w1"
        refine (lless_ok (by decide) (by omega)).mono ?_
        rintro _ m ⟨rfl, rfl⟩
        by_cases c : n * q1 < p1 * 1
        · rw [if_pos c] at el
          cases el
          rw [decide_eq_true c]
          walk_at "w1"
        · rw [if_neg c] at el
          cases el
          rw [decide_eq_false c]
          walk_at "w1"
      rintro _ m ⟨rfl, rfl⟩
      refine s_cut (mid := fun l m' => l = [some (.tup [x1, x2, x3, x4, x5, .int D, .int W]), some (.tup [.int p1, .int q1]), some (.tup [.int p2, .int q2]), some (.tup [.int a, .int b]), some (.int w), some (.int n), some (.tup [.int lp, .int lq]), some (.tup [.int rp, .int rq])] ∧ m' = m) ?_ ?_
      · walk_at "w1"
        refine (lless_ok (by omega) (by decide)).mono ?_
        rintro _ m ⟨rfl, rfl⟩
        by_cases c : p2 * 1 < (n + 1) * q2
        · rw [if_pos c] at er
          cases er
          rw [decide_eq_true c]
          walk_at "w1"
        · rw [if_neg c] at er
          cases er
          rw [decide_eq_false c]
          walk_at "w1"
      rintro _ m ⟨rfl, rfl⟩
      walk_at "w1"
      refine (lless_ok (by omega) (by omega)).mono ?_
      rintro _ m ⟨rfl, rfl⟩
      by_cases c : lp * rq < rp * lq
      · rw [decide_eq_true c]
        try simp -dsimp only [at0, at1, at2, at3, at4, at5, at6, wp_fn, s_nil, s_brk, s_cnt, s_expr, s_ret, s_retN, s_if, s_asn, s_par, s_asg, g_nm, g_nil, g_cons, g_tupT, g_subW, w_v0, w_vS, w_c, w_op, w_un, w_anil, w_acons, w_tup, w_lst, w_call, w_callU, w_isi, w_meth, w_tru, w_bool, w_notS, w_andS, w_orS, w_ifx, w_andV, w_orV, w_notV, w_chain, wp_ok, wp_bad, wp_some, wp_none, wp_liftif, wp_if, asB_b, wp_noex, add_ii, sub_ii, mul_ii, fdiv_ii, mod_ii, pow_ii, neg_i, cmp_ii, lt_ii, le_ii, gt_ii, ge_ii, le_cc, muls_ii, muls_si, ins_cs, iadd_ii, isub_ii, w_onone, w_osome, w_sl, sl_s, sl_t, s_aug, eq_ss, len_s, ix_s, add_ss, str_s, tuple_t, list_t, is_n, not_n, non_n, non_i, non_b, non_s, non_t, non_r, abs_i, max_ii, min_ii, int_i, int_b, gcd_ii, len_t, ix_t, eq_v, ne_v, eq_ii, eq_bb, eq_nn, eq_in, eq_ni, iv_n_list, iv_n_tuple, iv_n_bool, iv_n_str, iv_n_int, okt_n, iv_b_list, iv_b_tuple, iv_b_bool, iv_b_str, iv_b_int, okt_b, iv_i_list, iv_i_tuple, iv_i_bool, iv_i_str, iv_i_int, okt_i, iv_s_list, iv_s_tuple, iv_s_bool, iv_s_str, iv_s_int, okt_s, iv_t_list, iv_t_tuple, iv_t_bool, iv_t_str, iv_t_int, okt_t, iv_r_list, iv_r_tuple, iv_r_bool, iv_r_str, iv_r_int, tru_b, tru_i, tru_n, tru_t, Option.map_some, Option.map_none, List.map_cons, List.map_nil, List.length_cons, List.length_nil, List.set_cons_zero, List.set_cons_succ, List.cons_append, List.nil_append, List.replicate, Nat.reduceAdd, Nat.reduceSub, Nat.reduceLeDiff, true_and, and_true, decide_eq_true_eq, reduceIte, Bool.false_eq_true, Bool.not_true, Bool.not_false, decide_true, decide_false]
        refine (lplus_ok (p := rp) (q := rq) (r := 0 - lp) (s := lq) rz lz (by omega) (by omega) (by omega) (by omega)).mono ?_
        rintro _ m ⟨rfl, rfl⟩
        have hpos := Int.mul_pos rz lz
        obtain ⟨c', e, z1, z2, z3, z4, z5⟩ := lowv_red (p := rp * lq + (0 - lp) * rq) (q := rq * lq) hpos
        have ep := z2.pos
        have hqq : rq * lq ≤ 65536 * 65536 := Int.mul_le_mul (by omega) (by omega) (by omega) (by omega)
        have hz1 : (rp * lq).natAbs ≤ 30001 * 65536 * 65536 := by
          rw [Int.natAbs_mul]
          exact Nat.mul_le_mul (by omega) (by omega)
        have hz2 : ((0 - lp) * rq).natAbs ≤ 30001 * 65536 * 65536 := by
          rw [Int.natAbs_mul]
          exact Nat.mul_le_mul (by omega) (by omega)
        rw [z1]
        try simp -dsimp only [at0, at1, at2, at3, at4, at5, at6, wp_fn, s_nil, s_brk, s_cnt, s_expr, s_ret, s_retN, s_if, s_asn, s_par, s_asg, g_nm, g_nil, g_cons, g_tupT, g_subW, w_v0, w_vS, w_c, w_op, w_un, w_anil, w_acons, w_tup, w_lst, w_call, w_callU, w_isi, w_meth, w_tru, w_bool, w_notS, w_andS, w_orS, w_ifx, w_andV, w_orV, w_notV, w_chain, wp_ok, wp_bad, wp_some, wp_none, wp_liftif, wp_if, asB_b, wp_noex, add_ii, sub_ii, mul_ii, fdiv_ii, mod_ii, pow_ii, neg_i, cmp_ii, lt_ii, le_ii, gt_ii, ge_ii, le_cc, muls_ii, muls_si, ins_cs, iadd_ii, isub_ii, w_onone, w_osome, w_sl, sl_s, sl_t, s_aug, eq_ss, len_s, ix_s, add_ss, str_s, tuple_t, list_t, is_n, not_n, non_n, non_i, non_b, non_s, non_t, non_r, abs_i, max_ii, min_ii, int_i, int_b, gcd_ii, len_t, ix_t, eq_v, ne_v, eq_ii, eq_bb, eq_nn, eq_in, eq_ni, iv_n_list, iv_n_tuple, iv_n_bool, iv_n_str, iv_n_int, okt_n, iv_b_list, iv_b_tuple, iv_b_bool, iv_b_str, iv_b_int, okt_b, iv_i_list, iv_i_tuple, iv_i_bool, iv_i_str, iv_i_int, okt_i, iv_s_list, iv_s_tuple, iv_s_bool, iv_s_str, iv_s_int, okt_s, iv_t_list, iv_t_tuple, iv_t_bool, iv_t_str, iv_t_int, okt_t, iv_r_list, iv_r_tuple, iv_r_bool, iv_r_str, iv_r_int, tru_b, tru_i, tru_n, tru_t, Option.map_some, Option.map_none, List.map_cons, List.map_nil, List.length_cons, List.length_nil, List.set_cons_zero, List.set_cons_succ, List.cons_append, List.nil_append, List.replicate, Nat.reduceAdd, Nat.reduceSub, Nat.reduceLeDiff, true_and, and_true, decide_eq_true_eq, reduceIte, Bool.false_eq_true, Bool.not_true, Bool.not_false, decide_true, decide_false]
        refine (lplus_ok (p := a) (q := b) (r := c') (s := e) ip ep (by omega) (by omega) (by omega) (by omega)).mono ?_
        rintro _ m ⟨rfl, rfl⟩
        obtain ⟨a', b', y1, y2, y3, y4, y5⟩ := lowv_red (p := a * e + c' * b) (q := b * e) (Int.mul_pos ip ep)
        rw [y1]
        try simp -dsimp only [at0, at1, at2, at3, at4, at5, at6, wp_fn, s_nil, s_brk, s_cnt, s_expr, s_ret, s_retN, s_if, s_asn, s_par, s_asg, g_nm, g_nil, g_cons, g_tupT, g_subW, w_v0, w_vS, w_c, w_op, w_un, w_anil, w_acons, w_tup, w_lst, w_call, w_callU, w_isi, w_meth, w_tru, w_bool, w_notS, w_andS, w_orS, w_ifx, w_andV, w_orV, w_notV, w_chain, wp_ok, wp_bad, wp_some, wp_none, wp_liftif, wp_if, asB_b, wp_noex, add_ii, sub_ii, mul_ii, fdiv_ii, mod_ii, pow_ii, neg_i, cmp_ii, lt_ii, le_ii, gt_ii, ge_ii, le_cc, muls_ii, muls_si, ins_cs, iadd_ii, isub_ii, w_onone, w_osome, w_sl, sl_s, sl_t, s_aug, eq_ss, len_s, ix_s, add_ss, str_s, tuple_t, list_t, is_n, not_n, non_n, non_i, non_b, non_s, non_t, non_r, abs_i, max_ii, min_ii, int_i, int_b, gcd_ii, len_t, ix_t, eq_v, ne_v, eq_ii, eq_bb, eq_nn, eq_in, eq_ni, iv_n_list, iv_n_tuple, iv_n_bool, iv_n_str, iv_n_int, okt_n, iv_b_list, iv_b_tuple, iv_b_bool, iv_b_str, iv_b_int, okt_b, iv_i_list, iv_i_tuple, iv_i_bool, iv_i_str, iv_i_int, okt_i, iv_s_list, iv_s_tuple, iv_s_bool, iv_s_str, iv_s_int, okt_s, iv_t_list, iv_t_tuple, iv_t_bool, iv_t_str, iv_t_int, okt_t, iv_r_list, iv_r_tuple, iv_r_bool, iv_r_str, iv_r_int, tru_b, tru_i, tru_n, tru_t, Option.map_some, Option.map_none, List.map_cons, List.map_nil, List.length_cons, List.length_nil, List.set_cons_zero, List.set_cons_succ, List.cons_append, List.nil_append, List.replicate, Nat.reduceAdd, Nat.reduceSub, Nat.reduceLeDiff, true_and, and_true, decide_eq_true_eq, reduceIte, Bool.false_eq_true, Bool.not_true, Bool.not_false, decide_true, decide_false]
        exact q a' b' w _ _ (I.add hD hW h1 h2 hn hn2 En cl cr hk nw ep z3 z5 y2.pos y3 y5)
      · rw [decide_eq_false c]
        try simp -dsimp only [at0, at1, at2, at3, at4, at5, at6, wp_fn, s_nil, s_brk, s_cnt, s_expr, s_ret, s_retN, s_if, s_asn, s_par, s_asg, g_nm, g_nil, g_cons, g_tupT, g_subW, w_v0, w_vS, w_c, w_op, w_un, w_anil, w_acons, w_tup, w_lst, w_call, w_callU, w_isi, w_meth, w_tru, w_bool, w_notS, w_andS, w_orS, w_ifx, w_andV, w_orV, w_notV, w_chain, wp_ok, wp_bad, wp_some, wp_none, wp_liftif, wp_if, asB_b, wp_noex, add_ii, sub_ii, mul_ii, fdiv_ii, mod_ii, pow_ii, neg_i, cmp_ii, lt_ii, le_ii, gt_ii, ge_ii, le_cc, muls_ii, muls_si, ins_cs, iadd_ii, isub_ii, w_onone, w_osome, w_sl, sl_s, sl_t, s_aug, eq_ss, len_s, ix_s, add_ss, str_s, tuple_t, list_t, is_n, not_n, non_n, non_i, non_b, non_s, non_t, non_r, abs_i, max_ii, min_ii, int_i, int_b, gcd_ii, len_t, ix_t, eq_v, ne_v, eq_ii, eq_bb, eq_nn, eq_in, eq_ni, iv_n_list, iv_n_tuple, iv_n_bool, iv_n_str, iv_n_int, okt_n, iv_b_list, iv_b_tuple, iv_b_bool, iv_b_str, iv_b_int, okt_b, iv_i_list, iv_i_tuple, iv_i_bool, iv_i_str, iv_i_int, okt_i, iv_s_list, iv_s_tuple, iv_s_bool, iv_s_str, iv_s_int, okt_s, iv_t_list, iv_t_tuple, iv_t_bool, iv_t_str, iv_t_int, okt_t, iv_r_list, iv_r_tuple, iv_r_bool, iv_r_str, iv_r_int, tru_b, tru_i, tru_n, tru_t, Option.map_some, Option.map_none, List.map_cons, List.map_nil, List.length_cons, List.length_nil, List.set_cons_zero, List.set_cons_succ, List.cons_append, List.nil_append, List.replicate, Nat.reduceAdd, Nat.reduceSub, Nat.reduceLeDiff, true_and, and_true, decide_eq_true_eq, reduceIte, Bool.false_eq_true, Bool.not_true, Bool.not_false, decide_true, decide_false]
        exact q a b w _ _ (hst (.inr (by omega)))
    · rw [decide_eq_false hk]
      walk_at "w1"
      exact q a b w _ _ (hst (.inl ((dkn_01 D W n).resolve_right hk)))
  rw [ldl1_eq]
  try simp -dsimp only [at0, at1, at2, at3, at4, at5, at6, wp_fn, s_nil, s_brk, s_cnt, s_expr, s_ret, s_retN, s_if, s_asn, s_par, s_asg, g_nm, g_nil, g_cons, g_tupT, g_subW, w_v0, w_vS, w_c, w_op, w_un, w_anil, w_acons, w_tup, w_lst, w_call, w_callU, w_isi, w_meth, w_tru, w_bool, w_notS, w_andS, w_orS, w_ifx, w_andV, w_orV, w_notV, w_chain, wp_ok, wp_bad, wp_some, wp_none, wp_liftif, wp_if, asB_b, wp_noex, add_ii, sub_ii, mul_ii, fdiv_ii, mod_ii, pow_ii, neg_i, cmp_ii, lt_ii, le_ii, gt_ii, ge_ii, le_cc, muls_ii, muls_si, ins_cs, iadd_ii, isub_ii, w_onone, w_osome, w_sl, sl_s, sl_t, s_aug, eq_ss, len_s, ix_s, add_ss, str_s, tuple_t, list_t, is_n, not_n, non_n, non_i, non_b, non_s, non_t, non_r, abs_i, max_ii, min_ii, int_i, int_b, gcd_ii, len_t, ix_t, eq_v, ne_v, eq_ii, eq_bb, eq_nn, eq_in, eq_ni, iv_n_list, iv_n_tuple, iv_n_bool, iv_n_str, iv_n_int, okt_n, iv_b_list, iv_b_tuple, iv_b_bool, iv_b_str, iv_b_int, okt_b, iv_i_list, iv_i_tuple, iv_i_bool, iv_i_str, iv_i_int, okt_i, iv_s_list, iv_s_tuple, iv_s_bool, iv_s_str, iv_s_int, okt_s, iv_t_list, iv_t_tuple, iv_t_bool, iv_t_str, iv_t_int, okt_t, iv_r_list, iv_r_tuple, iv_r_bool, iv_r_str, iv_r_int, tru_b, tru_i, tru_n, tru_t, Option.map_some, Option.map_none, List.map_cons, List.map_nil, List.length_cons, List.length_nil, List.set_cons_zero, List.set_cons_succ, List.cons_append, List.nil_append, List.replicate, Nat.reduceAdd, Nat.reduceSub, Nat.reduceLeDiff, true_and, and_true, decide_eq_true_eq, reduceIte, Bool.false_eq_true, Bool.not_true, Bool.not_false, decide_true, decide_false]
  rw [if_pos (.inl (.inr (by omega)))]
  try simp -dsimp only [at0, at1, at2, at3, at4, at5, at6, wp_fn, s_nil, s_brk, s_cnt, s_expr, s_ret, s_retN, s_if, s_asn, s_par, s_asg, g_nm, g_nil, g_cons, g_tupT, g_subW, w_v0, w_vS, w_c, w_op, w_un, w_anil, w_acons, w_tup, w_lst, w_call, w_callU, w_isi, w_meth, w_tru, w_bool, w_notS, w_andS, w_orS, w_ifx, w_andV, w_orV, w_notV, w_chain, wp_ok, wp_bad, wp_some, wp_none, wp_liftif, wp_if, asB_b, wp_noex, add_ii, sub_ii, mul_ii, fdiv_ii, mod_ii, pow_ii, neg_i, cmp_ii, lt_ii, le_ii, gt_ii, ge_ii, le_cc, muls_ii, muls_si, ins_cs, iadd_ii, isub_ii, w_onone, w_osome, w_sl, sl_s, sl_t, s_aug, eq_ss, len_s, ix_s, add_ss, str_s, tuple_t, list_t, is_n, not_n, non_n, non_i, non_b, non_s, non_t, non_r, abs_i, max_ii, min_ii, int_i, int_b, gcd_ii, len_t, ix_t, eq_v, ne_v, eq_ii, eq_bb, eq_nn, eq_in, eq_ni, iv_n_list, iv_n_tuple, iv_n_bool, iv_n_str, iv_n_int, okt_n, iv_b_list, iv_b_tuple, iv_b_bool, iv_b_str, iv_b_int, okt_b, iv_i_list, iv_i_tuple, iv_i_bool, iv_i_str, iv_i_int, okt_i, iv_s_list, iv_s_tuple, iv_s_bool, iv_s_str, iv_s_int, okt_s, iv_t_list, iv_t_tuple, iv_t_bool, iv_t_str, iv_t_int, okt_t, iv_r_list, iv_r_tuple, iv_r_bool, iv_r_str, iv_r_int, tru_b, tru_i, tru_n, tru_t, Option.map_some, Option.map_none, List.map_cons, List.map_nil, List.length_cons, List.length_nil, List.set_cons_zero, List.set_cons_succ, List.cons_append, List.nil_append, List.replicate, Nat.reduceAdd, Nat.reduceSub, Nat.reduceLeDiff, true_and, and_true, decide_eq_true_eq, reduceIte, Bool.false_eq_true, Bool.not_true, Bool.not_false, decide_true, decide_false]
  by_cases c1 : p1 ≤ n * q1
  · simp only [if_pos c1]
    rw [if_pos (.inl (.inr (by omega)))]
    try simp -dsimp only [at0, at1, at2, at3, at4, at5, at6, wp_fn, s_nil, s_brk, s_cnt, s_expr, s_ret, s_retN, s_if, s_asn, s_par, s_asg, g_nm, g_nil, g_cons, g_tupT, g_subW, w_v0, w_vS, w_c, w_op, w_un, w_anil, w_acons, w_tup, w_lst, w_call, w_callU, w_isi, w_meth, w_tru, w_bool, w_notS, w_andS, w_orS, w_ifx, w_andV, w_orV, w_notV, w_chain, wp_ok, wp_bad, wp_some, wp_none, wp_liftif, wp_if, asB_b, wp_noex, add_ii, sub_ii, mul_ii, fdiv_ii, mod_ii, pow_ii, neg_i, cmp_ii, lt_ii, le_ii, gt_ii, ge_ii, le_cc, muls_ii, muls_si, ins_cs, iadd_ii, isub_ii, w_onone, w_osome, w_sl, sl_s, sl_t, s_aug, eq_ss, len_s, ix_s, add_ss, str_s, tuple_t, list_t, is_n, not_n, non_n, non_i, non_b, non_s, non_t, non_r, abs_i, max_ii, min_ii, int_i, int_b, gcd_ii, len_t, ix_t, eq_v, ne_v, eq_ii, eq_bb, eq_nn, eq_in, eq_ni, iv_n_list, iv_n_tuple, iv_n_bool, iv_n_str, iv_n_int, okt_n, iv_b_list, iv_b_tuple, iv_b_bool, iv_b_str, iv_b_int, okt_b, iv_i_list, iv_i_tuple, iv_i_bool, iv_i_str, iv_i_int, okt_i, iv_s_list, iv_s_tuple, iv_s_bool, iv_s_str, iv_s_int, okt_s, iv_t_list, iv_t_tuple, iv_t_bool, iv_t_str, iv_t_int, okt_t, iv_r_list, iv_r_tuple, iv_r_bool, iv_r_str, iv_r_int, tru_b, tru_i, tru_n, tru_t, Option.map_some, Option.map_none, List.map_cons, List.map_nil, List.length_cons, List.length_nil, List.set_cons_zero, List.set_cons_succ, List.cons_append, List.nil_append, List.replicate, Nat.reduceAdd, Nat.reduceSub, Nat.reduceLeDiff, true_and, and_true, decide_eq_true_eq, reduceIte, Bool.false_eq_true, Bool.not_true, Bool.not_false, decide_true, decide_false]
    by_cases c2 : (n + 1) * q2 ≤ p2
    · rw [if_pos c2]
      refine (hisd _).mono ?_
      rintro _ m ⟨rfl, rfl⟩
      try simp -dsimp only [at0, at1, at2, at3, at4, at5, at6, wp_fn, s_nil, s_brk, s_cnt, s_expr, s_ret, s_retN, s_if, s_asn, s_par, s_asg, g_nm, g_nil, g_cons, g_tupT, g_subW, w_v0, w_vS, w_c, w_op, w_un, w_anil, w_acons, w_tup, w_lst, w_call, w_callU, w_isi, w_meth, w_tru, w_bool, w_notS, w_andS, w_orS, w_ifx, w_andV, w_orV, w_notV, w_chain, wp_ok, wp_bad, wp_some, wp_none, wp_liftif, wp_if, asB_b, wp_noex, add_ii, sub_ii, mul_ii, fdiv_ii, mod_ii, pow_ii, neg_i, cmp_ii, lt_ii, le_ii, gt_ii, ge_ii, le_cc, muls_ii, muls_si, ins_cs, iadd_ii, isub_ii, w_onone, w_osome, w_sl, sl_s, sl_t, s_aug, eq_ss, len_s, ix_s, add_ss, str_s, tuple_t, list_t, is_n, not_n, non_n, non_i, non_b, non_s, non_t, non_r, abs_i, max_ii, min_ii, int_i, int_b, gcd_ii, len_t, ix_t, eq_v, ne_v, eq_ii, eq_bb, eq_nn, eq_in, eq_ni, iv_n_list, iv_n_tuple, iv_n_bool, iv_n_str, iv_n_int, okt_n, iv_b_list, iv_b_tuple, iv_b_bool, iv_b_str, iv_b_int, okt_b, iv_i_list, iv_i_tuple, iv_i_bool, iv_i_str, iv_i_int, okt_i, iv_s_list, iv_s_tuple, iv_s_bool, iv_s_str, iv_s_int, okt_s, iv_t_list, iv_t_tuple, iv_t_bool, iv_t_str, iv_t_int, okt_t, iv_r_list, iv_r_tuple, iv_r_bool, iv_r_str, iv_r_int, tru_b, tru_i, tru_n, tru_t, Option.map_some, Option.map_none, List.map_cons, List.map_nil, List.length_cons, List.length_nil, List.set_cons_zero, List.set_cons_succ, List.cons_append, List.nil_append, List.replicate, Nat.reduceAdd, Nat.reduceSub, Nat.reduceLeDiff, true_and, and_true, decide_eq_true_eq, reduceIte, Bool.false_eq_true, Bool.not_true, Bool.not_false, decide_true, decide_false]
      have := I.whole hD hW h1 h2 hn hn2 c1 c2
      rcases dkn_01 D W n with z | z
      · rw [z] at this
        rw [if_neg (by omega)]
        exact q a b _ _ _ this
      · rw [z] at this
        rw [if_pos z]
        exact q a b _ _ _ this
    · rw [if_neg c2]
      exact els (fun z => c2 z.2)
  · simp only [if_neg c1]
    exact els (fun z => c1 z.1)
theorem ldark_ok {D W p1 q1 p2 q2 : Int} {m : MH} {x1 x2 x3 x4 x5 : PV} (h1 : 0 < q1) (h1' : q1 ≤ 65536) (h2 : 0 < q2) (h2' : q2 ≤ 65536) (h0 : 0 ≤ p1) (hle : p1 * q2 ≤ p2 * q1) (hp : p2 ≤ 30000 * q2) (hD : 0 ≤ D ∧ D ≤ 1439) (hW : 0 ≤ W ∧ W ≤ 1439) :
    WP (f_law_dark [.tup [x1, x2, x3, x4, x5, .int D, .int W], fpv p1 q1, fpv p2 q2] m) (fun x m' => x = dkv D W p1 q1 p2 q2 ∧ m' = m) NoE := by
  have hisd := fun (n : Int) (m : MH) => isd_ok (D := D) (W := W) (n := n) (m := m) (x1 := x1) (x2 := x2) (x3 := x3) (x4 := x4) (x5 := x5)
  have f0 : 0 ≤ p1 / q1 := Int.ediv_nonneg h0 (by omega)
  have f2 : p2 / q2 ≤ 30000 := by
    have := (floor_facts (p := p2) h2 30001).2.mpr (by omega)
    omega
  have f3 : p1 / q1 ≤ p2 / q2 := by
    refine (floor_facts (p := p2) h2 _).1.mpr ?_
    have z1 := (floor_facts (p := p1) h1 (p1 / q1)).1.mp (Int.le_refl _)
    refine Int.le_of_mul_le_mul_right (a := q1) ?_ h1
    have z2 := Int.mul_le_mul_of_nonneg_right z1 (Int.le_of_lt h2)
    have z3 : p1 / q1 * q1 * q2 = p1 / q1 * q2 * q1 := by grind
    omega
  have f4 : q1 * q2 ≤ 65536 * 65536 := Int.mul_le_mul h1' h2' (by omega) (by omega)
  have hz := DI.zero (D := D) (W := W) h1 h2 hle
  unfold f_law_dark b_law_dark fpv
  try simp -dsimp only [at0, at1, at2, at3, at4, at5, at6, wp_fn, s_nil, s_brk, s_cnt, s_expr, s_ret, s_retN, s_if, s_asn, s_par, s_asg, g_nm, g_nil, g_cons, g_tupT, g_subW, w_v0, w_vS, w_c, w_op, w_un, w_anil, w_acons, w_tup, w_lst, w_call, w_callU, w_isi, w_meth, w_tru, w_bool, w_notS, w_andS, w_orS, w_ifx, w_andV, w_orV, w_notV, w_chain, wp_ok, wp_bad, wp_some, wp_none, wp_liftif, wp_if, asB_b, wp_noex, add_ii, sub_ii, mul_ii, fdiv_ii, mod_ii, pow_ii, neg_i, cmp_ii, lt_ii, le_ii, gt_ii, ge_ii, le_cc, muls_ii, muls_si, ins_cs, iadd_ii, isub_ii, w_onone, w_osome, w_sl, sl_s, sl_t, s_aug, eq_ss, len_s, ix_s, add_ss, str_s, tuple_t, list_t, is_n, not_n, non_n, non_i, non_b, non_s, non_t, non_r, abs_i, max_ii, min_ii, int_i, int_b, gcd_ii, len_t, ix_t, eq_v, ne_v, eq_ii, eq_bb, eq_nn, eq_in, eq_ni, iv_n_list, iv_n_tuple, iv_n_bool, iv_n_str, iv_n_int, okt_n, iv_b_list, iv_b_tuple, iv_b_bool, iv_b_str, iv_b_int, okt_b, iv_i_list, iv_i_tuple, iv_i_bool, iv_i_str, iv_i_int, okt_i, iv_s_list, iv_s_tuple, iv_s_bool, iv_s_str, iv_s_int, okt_s, iv_t_list, iv_t_tuple, iv_t_bool, iv_t_str, iv_t_int, okt_t, iv_r_list, iv_r_tuple, iv_r_bool, iv_r_str, iv_r_int, tru_b, tru_i, tru_n, tru_t, Option.map_some, Option.map_none, List.map_cons, List.map_nil, List.length_cons, List.length_nil, List.set_cons_zero, List.set_cons_succ, List.cons_append, List.nil_append, List.replicate, Nat.reduceAdd, Nat.reduceSub, Nat.reduceLeDiff, true_and, and_true, decide_eq_true_eq, reduceIte, Bool.false_eq_true, Bool.not_true, Bool.not_false, decide_true, decide_false]
  rw [s_seq]
  try simp -dsimp only [at0, at1, at2, at3, at4, at5, at6, wp_fn, s_nil, s_brk, s_cnt, s_expr, s_ret, s_retN, s_if, s_asn, s_par, s_asg, g_nm, g_nil, g_cons, g_tupT, g_subW, w_v0, w_vS, w_c, w_op, w_un, w_anil, w_acons, w_tup, w_lst, w_call, w_callU, w_isi, w_meth, w_tru, w_bool, w_notS, w_andS, w_orS, w_ifx, w_andV, w_orV, w_notV, w_chain, wp_ok, wp_bad, wp_some, wp_none, wp_liftif, wp_if, asB_b, wp_noex, add_ii, sub_ii, mul_ii, fdiv_ii, mod_ii, pow_ii, neg_i, cmp_ii, lt_ii, le_ii, gt_ii, ge_ii, le_cc, muls_ii, muls_si, ins_cs, iadd_ii, isub_ii, w_onone, w_osome, w_sl, sl_s, sl_t, s_aug, eq_ss, len_s, ix_s, add_ss, str_s, tuple_t, list_t, is_n, not_n, non_n, non_i, non_b, non_s, non_t, non_r, abs_i, max_ii, min_ii, int_i, int_b, gcd_ii, len_t, ix_t, eq_v, ne_v, eq_ii, eq_bb, eq_nn, eq_in, eq_ni, iv_n_list, iv_n_tuple, iv_n_bool, iv_n_str, iv_n_int, okt_n, iv_b_list, iv_b_tuple, iv_b_bool, iv_b_str, iv_b_int, okt_b, iv_i_list, iv_i_tuple, iv_i_bool, iv_i_str, iv_i_int, okt_i, iv_s_list, iv_s_tuple, iv_s_bool, iv_s_str, iv_s_int, okt_s, iv_t_list, iv_t_tuple, iv_t_bool, iv_t_str, iv_t_int, okt_t, iv_r_list, iv_r_tuple, iv_r_bool, iv_r_str, iv_r_int, tru_b, tru_i, tru_n, tru_t, Option.map_some, Option.map_none, List.map_cons, List.map_nil, List.length_cons, List.length_nil, List.set_cons_zero, List.set_cons_succ, List.cons_append, List.nil_append, List.replicate, Nat.reduceAdd, Nat.reduceSub, Nat.reduceLeDiff, true_and, and_true, decide_eq_true_eq, reduceIte, Bool.false_eq_true, Bool.not_true, Bool.not_false, decide_true, decide_false]
  rw [s_seq]
  try simp -dsimp only [at0, at1, at2, at3, at4, at5, at6, wp_fn, s_nil, s_brk, s_cnt, s_expr, s_ret, s_retN, s_if, s_asn, s_par, s_asg, g_nm, g_nil, g_cons, g_tupT, g_subW, w_v0, w_vS, w_c, w_op, w_un, w_anil, w_acons, w_tup, w_lst, w_call, w_callU, w_isi, w_meth, w_tru, w_bool, w_notS, w_andS, w_orS, w_ifx, w_andV, w_orV, w_notV, w_chain, wp_ok, wp_bad, wp_some, wp_none, wp_liftif, wp_if, asB_b, wp_noex, add_ii, sub_ii, mul_ii, fdiv_ii, mod_ii, pow_ii, neg_i, cmp_ii, lt_ii, le_ii, gt_ii, ge_ii, le_cc, muls_ii, muls_si, ins_cs, iadd_ii, isub_ii, w_onone, w_osome, w_sl, sl_s, sl_t, s_aug, eq_ss, len_s, ix_s, add_ss, str_s, tuple_t, list_t, is_n, not_n, non_n, non_i, non_b, non_s, non_t, non_r, abs_i, max_ii, min_ii, int_i, int_b, gcd_ii, len_t, ix_t, eq_v, ne_v, eq_ii, eq_bb, eq_nn, eq_in, eq_ni, iv_n_list, iv_n_tuple, iv_n_bool, iv_n_str, iv_n_int, okt_n, iv_b_list, iv_b_tuple, iv_b_bool, iv_b_str, iv_b_int, okt_b, iv_i_list, iv_i_tuple, iv_i_bool, iv_i_str, iv_i_int, okt_i, iv_s_list, iv_s_tuple, iv_s_bool, iv_s_str, iv_s_int, okt_s, iv_t_list, iv_t_tuple, iv_t_bool, iv_t_str, iv_t_int, okt_t, iv_r_list, iv_r_tuple, iv_r_bool, iv_r_str, iv_r_int, tru_b, tru_i, tru_n, tru_t, Option.map_some, Option.map_none, List.map_cons, List.map_nil, List.length_cons, List.length_nil, List.set_cons_zero, List.set_cons_succ, List.cons_append, List.nil_append, List.replicate, Nat.reduceAdd, Nat.reduceSub, Nat.reduceLeDiff, true_and, and_true, decide_eq_true_eq, reduceIte, Bool.false_eq_true, Bool.not_true, Bool.not_false, decide_true, decide_false]
  rw [s_seq]
  refine s_for2W ?_
  try simp -dsimp only [at0, at1, at2, at3, at4, at5, at6, wp_fn, s_nil, s_brk, s_cnt, s_expr, s_ret, s_retN, s_if, s_asn, s_par, s_asg, g_nm, g_nil, g_cons, g_tupT, g_subW, w_v0, w_vS, w_c, w_op, w_un, w_anil, w_acons, w_tup, w_lst, w_call, w_callU, w_isi, w_meth, w_tru, w_bool, w_notS, w_andS, w_orS, w_ifx, w_andV, w_orV, w_notV, w_chain, wp_ok, wp_bad, wp_some, wp_none, wp_liftif, wp_if, asB_b, wp_noex, add_ii, sub_ii, mul_ii, fdiv_ii, mod_ii, pow_ii, neg_i, cmp_ii, lt_ii, le_ii, gt_ii, ge_ii, le_cc, muls_ii, muls_si, ins_cs, iadd_ii, isub_ii, w_onone, w_osome, w_sl, sl_s, sl_t, s_aug, eq_ss, len_s, ix_s, add_ss, str_s, tuple_t, list_t, is_n, not_n, non_n, non_i, non_b, non_s, non_t, non_r, abs_i, max_ii, min_ii, int_i, int_b, gcd_ii, len_t, ix_t, eq_v, ne_v, eq_ii, eq_bb, eq_nn, eq_in, eq_ni, iv_n_list, iv_n_tuple, iv_n_bool, iv_n_str, iv_n_int, okt_n, iv_b_list, iv_b_tuple, iv_b_bool, iv_b_str, iv_b_int, okt_b, iv_i_list, iv_i_tuple, iv_i_bool, iv_i_str, iv_i_int, okt_i, iv_s_list, iv_s_tuple, iv_s_bool, iv_s_str, iv_s_int, okt_s, iv_t_list, iv_t_tuple, iv_t_bool, iv_t_str, iv_t_int, okt_t, iv_r_list, iv_r_tuple, iv_r_bool, iv_r_str, iv_r_int, tru_b, tru_i, tru_n, tru_t, Option.map_some, Option.map_none, List.map_cons, List.map_nil, List.length_cons, List.length_nil, List.set_cons_zero, List.set_cons_succ, List.cons_append, List.nil_append, List.replicate, Nat.reduceAdd, Nat.reduceSub, Nat.reduceLeDiff, true_and, and_true, decide_eq_true_eq, reduceIte, Bool.false_eq_true, Bool.not_true, Bool.not_false, decide_true, decide_false]
  rw [if_pos ⟨by omega, big_of (by omega)⟩, fdiv_pos h1]
  try simp -dsimp only [at0, at1, at2, at3, at4, at5, at6, wp_fn, s_nil, s_brk, s_cnt, s_expr, s_ret, s_retN, s_if, s_asn, s_par, s_asg, g_nm, g_nil, g_cons, g_tupT, g_subW, w_v0, w_vS, w_c, w_op, w_un, w_anil, w_acons, w_tup, w_lst, w_call, w_callU, w_isi, w_meth, w_tru, w_bool, w_notS, w_andS, w_orS, w_ifx, w_andV, w_orV, w_notV, w_chain, wp_ok, wp_bad, wp_some, wp_none, wp_liftif, wp_if, asB_b, wp_noex, add_ii, sub_ii, mul_ii, fdiv_ii, mod_ii, pow_ii, neg_i, cmp_ii, lt_ii, le_ii, gt_ii, ge_ii, le_cc, muls_ii, muls_si, ins_cs, iadd_ii, isub_ii, w_onone, w_osome, w_sl, sl_s, sl_t, s_aug, eq_ss, len_s, ix_s, add_ss, str_s, tuple_t, list_t, is_n, not_n, non_n, non_i, non_b, non_s, non_t, non_r, abs_i, max_ii, min_ii, int_i, int_b, gcd_ii, len_t, ix_t, eq_v, ne_v, eq_ii, eq_bb, eq_nn, eq_in, eq_ni, iv_n_list, iv_n_tuple, iv_n_bool, iv_n_str, iv_n_int, okt_n, iv_b_list, iv_b_tuple, iv_b_bool, iv_b_str, iv_b_int, okt_b, iv_i_list, iv_i_tuple, iv_i_bool, iv_i_str, iv_i_int, okt_i, iv_s_list, iv_s_tuple, iv_s_bool, iv_s_str, iv_s_int, okt_s, iv_t_list, iv_t_tuple, iv_t_bool, iv_t_str, iv_t_int, okt_t, iv_r_list, iv_r_tuple, iv_r_bool, iv_r_str, iv_r_int, tru_b, tru_i, tru_n, tru_t, Option.map_some, Option.map_none, List.map_cons, List.map_nil, List.length_cons, List.length_nil, List.set_cons_zero, List.set_cons_succ, List.cons_append, List.nil_append, List.replicate, Nat.reduceAdd, Nat.reduceSub, Nat.reduceLeDiff, true_and, and_true, decide_eq_true_eq, reduceIte, Bool.false_eq_true, Bool.not_true, Bool.not_false, decide_true, decide_false]
  rw [if_pos ⟨by omega, big_of (by omega)⟩, fdiv_pos h2]
  try simp -dsimp only [at0, at1, at2, at3, at4, at5, at6, wp_fn, s_nil, s_brk, s_cnt, s_expr, s_ret, s_retN, s_if, s_asn, s_par, s_asg, g_nm, g_nil, g_cons, g_tupT, g_subW, w_v0, w_vS, w_c, w_op, w_un, w_anil, w_acons, w_tup, w_lst, w_call, w_callU, w_isi, w_meth, w_tru, w_bool, w_notS, w_andS, w_orS, w_ifx, w_andV, w_orV, w_notV, w_chain, wp_ok, wp_bad, wp_some, wp_none, wp_liftif, wp_if, asB_b, wp_noex, add_ii, sub_ii, mul_ii, fdiv_ii, mod_ii, pow_ii, neg_i, cmp_ii, lt_ii, le_ii, gt_ii, ge_ii, le_cc, muls_ii, muls_si, ins_cs, iadd_ii, isub_ii, w_onone, w_osome, w_sl, sl_s, sl_t, s_aug, eq_ss, len_s, ix_s, add_ss, str_s, tuple_t, list_t, is_n, not_n, non_n, non_i, non_b, non_s, non_t, non_r, abs_i, max_ii, min_ii, int_i, int_b, gcd_ii, len_t, ix_t, eq_v, ne_v, eq_ii, eq_bb, eq_nn, eq_in, eq_ni, iv_n_list, iv_n_tuple, iv_n_bool, iv_n_str, iv_n_int, okt_n, iv_b_list, iv_b_tuple, iv_b_bool, iv_b_str, iv_b_int, okt_b, iv_i_list, iv_i_tuple, iv_i_bool, iv_i_str, iv_i_int, okt_i, iv_s_list, iv_s_tuple, iv_s_bool, iv_s_str, iv_s_int, okt_s, iv_t_list, iv_t_tuple, iv_t_bool, iv_t_str, iv_t_int, okt_t, iv_r_list, iv_r_tuple, iv_r_bool, iv_r_str, iv_r_int, tru_b, tru_i, tru_n, tru_t, Option.map_some, Option.map_none, List.map_cons, List.map_nil, List.length_cons, List.length_nil, List.set_cons_zero, List.set_cons_succ, List.cons_append, List.nil_append, List.replicate, Nat.reduceAdd, Nat.reduceSub, Nat.reduceLeDiff, true_and, and_true, decide_eq_true_eq, reduceIte, Bool.false_eq_true, Bool.not_true, Bool.not_false, decide_true, decide_false]
  refine ⟨_, _, rfl, rfl, by omega, fun k l m' => ∃ a b w x5' x6 x7, l = [some (.tup [x1, x2, x3, x4, x5, .int D, .int W]), some (.tup [.int p1, .int q1]), some (.tup [.int p2, .int q2]), some (.tup [.int a, .int b]), some (.int w), x5', x6, x7] ∧ m' = m ∧ DI D W p1 q1 p2 q2 (p1 / q1 + (k : Nat)) a b w, ⟨0, 1, 0, _, _, _, rfl, rfl, by simpa using hz⟩, ?_, ?_⟩
  · rintro k l m' hk ⟨a, b, w, x5', x6, x7, rfl, rfl, I⟩
    walk_at "w1"
    refine ldark_l1 h1 h1' h2 h2' h0 hle hD hW (by omega) (by omega) (by omega) (by omega) I ?_
    intro a b w x6 x7 I'
    exact ⟨a, b, w, _, _, _, rfl, rfl, by rw [show p1 / q1 + ((k + 1 : Nat) : Int) = p1 / q1 + (k : Nat) + 1 by omega]; exact I'⟩
  · rintro l m' ⟨a, b, w, x5', x6, x7, rfl, rfl, I⟩
    have ek : p1 / q1 + ((p2 / q2 + 1 - p1 / q1).toNat : Int) = p2 / q2 + 1 := by omega
    rw [ek] at I
    have ib := I.b2
    have ia := I.a2
    have in0 := I.nn
    have ip := I.pos
    have iw := I.w0
    have iw1 := I.w1
    walk_at "w1"
    refine (lplus_ok (p := a) (q := b) (r := w) (s := 1) ip (by decide) (by omega) (by decide) (by omega) (by omega)).mono ?_
    rintro _ _ ⟨rfl, rfl⟩
    exact ⟨I.done h1 h2 hle, rfl⟩
theorem Cn_lip {D W : Int} (hD : 0 ≤ D ∧ D ≤ 1439) (hW : 0 ≤ W ∧ W ≤ 1439) (n : Int) : ∀ k : Nat, 0 ≤ Cn D W (n + k) - Cn D W n ∧ Cn D W (n + k) - Cn D W n ≤ k
  | 0 => by simp
  | k + 1 => by
    have ih := Cn_lip hD hW n k
    have := Cn_succ hD hW (n + k)
    have d := dkn_01 D W (n + k)
    rw [show n + ((k + 1 : Nat) : Int) = n + (k : Nat) + 1 by omega]
    omega
theorem Cn_zero {D W : Int} (hD : 0 ≤ D ∧ D ≤ 1439) (hW : 0 ≤ W ∧ W ≤ 1439) : Cn D W 0 = 0 := by
  unfold Cn dod
  rw [show (0 : Int) / 1440 = 0 by decide, show (0 : Int) % 1440 = 0 by decide, Int.zero_mul]
  repeat' split
  all_goals omega
theorem floor_le {p q p' q' : Int} (hq : 0 < q) (hq' : 0 < q') (h : p * q' ≤ p' * q) : p / q ≤ p' / q' := by
  refine (Int.le_ediv_iff_mul_le hq').mpr ?_
  have z1 : p / q * q ≤ p := Int.ediv_mul_le p (by omega)
  refine Int.le_of_mul_le_mul_right (a := q) ?_ hq
  have z2 := Int.mul_le_mul_of_nonneg_right z1 (Int.le_of_lt hq')
  have z3 : p / q * q * q' = p / q * q' * q := by grind
  omega
theorem G_lip {D W p q p' q' : Int} (hD : 0 ≤ D ∧ D ≤ 1439) (hW : 0 ≤ W ∧ W ≤ 1439) (hq : 0 < q) (hq' : 0 < q') (h : p * q' ≤ p' * q) : 0 ≤ Gn D W p' q' * q - Gn D W p q * q' ∧ Gn D W p' q' * q - Gn D W p q * q' ≤ p' * q - p * q' := by
  have hn := floor_le hq hq' h
  obtain ⟨r1, r2, r3⟩ := div_rem (p := p) hq
  obtain ⟨s1, s2, s3⟩ := div_rem (p := p') hq'
  unfold Gn
  generalize p / q = n at *
  generalize p' / q' = n' at *
  generalize p % q = r at *
  generalize p' % q' = s at *
  by_cases e : n = n'
  · subst e
    rcases dkn_01 D W n with d | d
    · rw [d]
      have : (Cn D W n * q' + 0 * (p' - n * q')) * q - (Cn D W n * q + 0 * (p - n * q)) * q' = 0 := by grind
      omega
    · rw [d]
      have : (Cn D W n * q' + 1 * (p' - n * q')) * q - (Cn D W n * q + 1 * (p - n * q)) * q' = p' * q - p * q' := by grind
      omega
  · obtain ⟨k, hk⟩ := Int.eq_ofNat_of_zero_le (show 0 ≤ n' - (n + 1) by omega)
    have hc := Cn_lip hD hW (n + 1) k
    rw [show n + 1 + (k : Int) = n' by omega, Cn_succ hD hW n] at hc
    have d1 := dkn_01 D W n
    have d2 := dkn_01 D W n'
    generalize Cn D W n = c at *
    generalize Cn D W n' = c' at *
    generalize dkn D W n = d at *
    generalize dkn D W n' = d' at *
    obtain ⟨t, ht⟩ : ∃ t, t = c' - (c + d) := ⟨_, rfl⟩
    have e1 : (c' * q' + d' * (p' - n' * q')) * q - (c * q + d * (p - n * q)) * q' = q * (d' * s) + q' * (d * (q - r)) + q * q' * t := by
      rw [ht, s1, r1]; grind
    have e2 : p' * q - p * q' = q * s + q' * (q - r) + q * q' * k := by
      have : (k : Int) = n' - n - 1 := by omega
      rw [this, s1, r1]; grind
    rw [e1, e2]
    have hqq := Int.mul_pos hq hq'
    have a1 : 0 ≤ q * q' * t := Int.mul_nonneg (by omega) (by omega)
    have a2 : q * q' * t ≤ q * q' * k := Int.mul_le_mul_of_nonneg_left (by omega) (by omega)
    have b1 : 0 ≤ q * s := Int.mul_nonneg (by omega) s2
    have b2 : 0 ≤ q' * (q - r) := Int.mul_nonneg (by omega) (by omega)
    rcases d1 with rfl | rfl <;> rcases d2 with rfl | rfl <;> simp only [Int.zero_mul, Int.one_mul, Int.mul_zero] <;> omega
theorem Gn_pos {D W p q : Int} (hD : 0 ≤ D ∧ D ≤ 1439) (hW : 0 ≤ W ∧ W ≤ 1439) (hq : 0 < q) (h : 0 ≤ p) : 0 ≤ Gn D W p q ∧ Gn D W p q ≤ p := by
  have := G_lip (D := D) (W := W) (p := 0) (q := 1) (p' := p) (q' := q) hD hW (by decide) hq (by omega)
  have z : Gn D W 0 1 = 0 := by
    unfold Gn
    rw [Int.ediv_one, Cn_zero hD hW]
    grind
  rw [z] at this
  omega
theorem Gn_day {D W p q : Int} (hq : 0 < q) : Gn D W (p + 1440 * q) q = Gn D W p q + (W - D) % 1440 * q := by
  have e : (p + 1440 * q) / q = p / q + 1440 := Int.add_mul_ediv_right _ _ (by omega)
  unfold Gn Cn dkn
  rw [e, show (p / q + 1440) / 1440 = p / q / 1440 + 1 by omega, show (p / q + 1440) % 1440 = p / q % 1440 by omega]
  grind
/-! ## flights -/
def Nf (D W s p q : Int) : Int := p - s * q - (Gn D W p q - Gn D W s 1 * q)
def flv (D W s p q : Int) : PV := lowv (Nf D W s p q) q
theorem Nf_pos {D W s p q : Int} (hD : 0 ≤ D ∧ D ≤ 1439) (hW : 0 ≤ W ∧ W ≤ 1439) (hq : 0 < q) (h : s * q ≤ p) : 0 ≤ Nf D W s p q ∧ Nf D W s p q ≤ p - s * q := by
  have := G_lip (D := D) (W := W) (p := s) (q := 1) (p' := p) (q' := q) hD hW (by decide) hq (by omega)
  unfold Nf
  omega
theorem Nf_mono {D W s p q p' q' : Int} (hD : 0 ≤ D ∧ D ≤ 1439) (hW : 0 ≤ W ∧ W ≤ 1439) (hq : 0 < q) (hq' : 0 < q') (h : p * q' ≤ p' * q) : Nf D W s p q * q' ≤ Nf D W s p' q' * q ∧ Nf D W s p' q' * q - Nf D W s p q * q' ≤ p' * q - p * q' := by
  have := G_lip (D := D) (W := W) hD hW hq hq' h
  have e : Nf D W s p' q' * q - Nf D W s p q * q' = (p' * q - p * q') - (Gn D W p' q' * q - Gn D W p q * q') := by unfold Nf; grind
  omega
theorem Nf_same {D W s a b p q : Int} (hb : 0 < b) (hq : 0 < q) (e : a * q = p * b) : Nf D W s a b * q = Nf D W s p q * b := by
  have := Gn_same (D := D) (W := W) hb hq e
  unfold Nf
  grind
theorem flight_ok {D W s p q : Int} {m : MH} {x1 x2 x3 x5 : PV} (hq : 0 < q) (hq2 : q.natAbs < 4294967296) (hD : 0 ≤ D ∧ D ≤ 1439) (hW : 0 ≤ W ∧ W ≤ 1439) :
    WP (f_flight [.tup [x1, x2, x3, .int s, x5, .int D, .int W], fpv p q] m) (fun x m' => x = flv D W s p q ∧ m' = m) NoE := by
  have hd := fun (m : MH) => dpart_ok (D := D) (W := W) (p1 := s) (q1 := 1) (p2 := p) (q2 := q) (m := m) (x1 := x1) (x2 := x2) (x3 := x3) (x4 := .int s) (x5 := x5) (by decide) (by decide) hq hq2 hD hW
  unfold f_flight b_flight fpv at *
  try simp -dsimp only [at0, at1, at2, at3, at4, at5, at6, wp_fn, s_nil, s_brk, s_cnt, s_expr, s_ret, s_retN, s_if, s_asn, s_par, s_asg, g_nm, g_nil, g_cons, g_tupT, g_subW, w_v0, w_vS, w_c, w_op, w_un, w_anil, w_acons, w_tup, w_lst, w_call, w_callU, w_isi, w_meth, w_tru, w_bool, w_notS, w_andS, w_orS, w_ifx, w_andV, w_orV, w_notV, w_chain, wp_ok, wp_bad, wp_some, wp_none, wp_liftif, wp_if, asB_b, wp_noex, add_ii, sub_ii, mul_ii, fdiv_ii, mod_ii, pow_ii, neg_i, cmp_ii, lt_ii, le_ii, gt_ii, ge_ii, le_cc, muls_ii, muls_si, ins_cs, iadd_ii, isub_ii, w_onone, w_osome, w_sl, sl_s, sl_t, s_aug, eq_ss, len_s, ix_s, add_ss, str_s, tuple_t, list_t, is_n, not_n, non_n, non_i, non_b, non_s, non_t, non_r, abs_i, max_ii, min_ii, int_i, int_b, gcd_ii, len_t, ix_t, eq_v, ne_v, eq_ii, eq_bb, eq_nn, eq_in, eq_ni, iv_n_list, iv_n_tuple, iv_n_bool, iv_n_str, iv_n_int, okt_n, iv_b_list, iv_b_tuple, iv_b_bool, iv_b_str, iv_b_int, okt_b, iv_i_list, iv_i_tuple, iv_i_bool, iv_i_str, iv_i_int, okt_i, iv_s_list, iv_s_tuple, iv_s_bool, iv_s_str, iv_s_int, okt_s, iv_t_list, iv_t_tuple, iv_t_bool, iv_t_str, iv_t_int, okt_t, iv_r_list, iv_r_tuple, iv_r_bool, iv_r_str, iv_r_int, tru_b, tru_i, tru_n, tru_t, Option.map_some, Option.map_none, List.map_cons, List.map_nil, List.length_cons, List.length_nil, List.set_cons_zero, List.set_cons_succ, List.cons_append, List.nil_append, List.replicate, Nat.reduceAdd, Nat.reduceSub, Nat.reduceLeDiff, true_and, and_true, decide_eq_true_eq, reduceIte, Bool.false_eq_true, Bool.not_true, Bool.not_false, decide_true, decide_false]
  rw [s_seq]
  try simp -dsimp only [at0, at1, at2, at3, at4, at5, at6, wp_fn, s_nil, s_brk, s_cnt, s_expr, s_ret, s_retN, s_if, s_asn, s_par, s_asg, g_nm, g_nil, g_cons, g_tupT, g_subW, w_v0, w_vS, w_c, w_op, w_un, w_anil, w_acons, w_tup, w_lst, w_call, w_callU, w_isi, w_meth, w_tru, w_bool, w_notS, w_andS, w_orS, w_ifx, w_andV, w_orV, w_notV, w_chain, wp_ok, wp_bad, wp_some, wp_none, wp_liftif, wp_if, asB_b, wp_noex, add_ii, sub_ii, mul_ii, fdiv_ii, mod_ii, pow_ii, neg_i, cmp_ii, lt_ii, le_ii, gt_ii, ge_ii, le_cc, muls_ii, muls_si, ins_cs, iadd_ii, isub_ii, w_onone, w_osome, w_sl, sl_s, sl_t, s_aug, eq_ss, len_s, ix_s, add_ss, str_s, tuple_t, list_t, is_n, not_n, non_n, non_i, non_b, non_s, non_t, non_r, abs_i, max_ii, min_ii, int_i, int_b, gcd_ii, len_t, ix_t, eq_v, ne_v, eq_ii, eq_bb, eq_nn, eq_in, eq_ni, iv_n_list, iv_n_tuple, iv_n_bool, iv_n_str, iv_n_int, okt_n, iv_b_list, iv_b_tuple, iv_b_bool, iv_b_str, iv_b_int, okt_b, iv_i_list, iv_i_tuple, iv_i_bool, iv_i_str, iv_i_int, okt_i, iv_s_list, iv_s_tuple, iv_s_bool, iv_s_str, iv_s_int, okt_s, iv_t_list, iv_t_tuple, iv_t_bool, iv_t_str, iv_t_int, okt_t, iv_r_list, iv_r_tuple, iv_r_bool, iv_r_str, iv_r_int, tru_b, tru_i, tru_n, tru_t, Option.map_some, Option.map_none, List.map_cons, List.map_nil, List.length_cons, List.length_nil, List.set_cons_zero, List.set_cons_succ, List.cons_append, List.nil_append, List.replicate, Nat.reduceAdd, Nat.reduceSub, Nat.reduceLeDiff, true_and, and_true, decide_eq_true_eq, reduceIte, Bool.false_eq_true, Bool.not_true, Bool.not_false, decide_true, decide_false]
  refine (minus_ok (p := p) (q := q) (r := s) (s := 1) hq (by decide) (by omega) (by decide)).mono ?_
  rintro _ m ⟨rfl, rfl⟩
  obtain ⟨a, b, e1, e2, e3, e4, e5⟩ := lowv_red (p := p * 1 - s * q) (q := q * 1) (by omega)
  have ep := e2.pos
  rw [e1]
  try simp -dsimp only [at0, at1, at2, at3, at4, at5, at6, wp_fn, s_nil, s_brk, s_cnt, s_expr, s_ret, s_retN, s_if, s_asn, s_par, s_asg, g_nm, g_nil, g_cons, g_tupT, g_subW, w_v0, w_vS, w_c, w_op, w_un, w_anil, w_acons, w_tup, w_lst, w_call, w_callU, w_isi, w_meth, w_tru, w_bool, w_notS, w_andS, w_orS, w_ifx, w_andV, w_orV, w_notV, w_chain, wp_ok, wp_bad, wp_some, wp_none, wp_liftif, wp_if, asB_b, wp_noex, add_ii, sub_ii, mul_ii, fdiv_ii, mod_ii, pow_ii, neg_i, cmp_ii, lt_ii, le_ii, gt_ii, ge_ii, le_cc, muls_ii, muls_si, ins_cs, iadd_ii, isub_ii, w_onone, w_osome, w_sl, sl_s, sl_t, s_aug, eq_ss, len_s, ix_s, add_ss, str_s, tuple_t, list_t, is_n, not_n, non_n, non_i, non_b, non_s, non_t, non_r, abs_i, max_ii, min_ii, int_i, int_b, gcd_ii, len_t, ix_t, eq_v, ne_v, eq_ii, eq_bb, eq_nn, eq_in, eq_ni, iv_n_list, iv_n_tuple, iv_n_bool, iv_n_str, iv_n_int, okt_n, iv_b_list, iv_b_tuple, iv_b_bool, iv_b_str, iv_b_int, okt_b, iv_i_list, iv_i_tuple, iv_i_bool, iv_i_str, iv_i_int, okt_i, iv_s_list, iv_s_tuple, iv_s_bool, iv_s_str, iv_s_int, okt_s, iv_t_list, iv_t_tuple, iv_t_bool, iv_t_str, iv_t_int, okt_t, iv_r_list, iv_r_tuple, iv_r_bool, iv_r_str, iv_r_int, tru_b, tru_i, tru_n, tru_t, Option.map_some, Option.map_none, List.map_cons, List.map_nil, List.length_cons, List.length_nil, List.set_cons_zero, List.set_cons_succ, List.cons_append, List.nil_append, List.replicate, Nat.reduceAdd, Nat.reduceSub, Nat.reduceLeDiff, true_and, and_true, decide_eq_true_eq, reduceIte, Bool.false_eq_true, Bool.not_true, Bool.not_false, decide_true, decide_false]
  refine (hd _).mono ?_
  rintro _ m ⟨rfl, rfl⟩
  obtain ⟨c, d, z1, z2, z3, z4, z5⟩ := lowv_red (p := Gn D W p q * 1 - Gn D W s 1 * q) (q := 1 * q) (by omega)
  have zp := z2.pos
  unfold dkv
  rw [z1]
  try simp -dsimp only [at0, at1, at2, at3, at4, at5, at6, wp_fn, s_nil, s_brk, s_cnt, s_expr, s_ret, s_retN, s_if, s_asn, s_par, s_asg, g_nm, g_nil, g_cons, g_tupT, g_subW, w_v0, w_vS, w_c, w_op, w_un, w_anil, w_acons, w_tup, w_lst, w_call, w_callU, w_isi, w_meth, w_tru, w_bool, w_notS, w_andS, w_orS, w_ifx, w_andV, w_orV, w_notV, w_chain, wp_ok, wp_bad, wp_some, wp_none, wp_liftif, wp_if, asB_b, wp_noex, add_ii, sub_ii, mul_ii, fdiv_ii, mod_ii, pow_ii, neg_i, cmp_ii, lt_ii, le_ii, gt_ii, ge_ii, le_cc, muls_ii, muls_si, ins_cs, iadd_ii, isub_ii, w_onone, w_osome, w_sl, sl_s, sl_t, s_aug, eq_ss, len_s, ix_s, add_ss, str_s, tuple_t, list_t, is_n, not_n, non_n, non_i, non_b, non_s, non_t, non_r, abs_i, max_ii, min_ii, int_i, int_b, gcd_ii, len_t, ix_t, eq_v, ne_v, eq_ii, eq_bb, eq_nn, eq_in, eq_ni, iv_n_list, iv_n_tuple, iv_n_bool, iv_n_str, iv_n_int, okt_n, iv_b_list, iv_b_tuple, iv_b_bool, iv_b_str, iv_b_int, okt_b, iv_i_list, iv_i_tuple, iv_i_bool, iv_i_str, iv_i_int, okt_i, iv_s_list, iv_s_tuple, iv_s_bool, iv_s_str, iv_s_int, okt_s, iv_t_list, iv_t_tuple, iv_t_bool, iv_t_str, iv_t_int, okt_t, iv_r_list, iv_r_tuple, iv_r_bool, iv_r_str, iv_r_int, tru_b, tru_i, tru_n, tru_t, Option.map_some, Option.map_none, List.map_cons, List.map_nil, List.length_cons, List.length_nil, List.set_cons_zero, List.set_cons_succ, List.cons_append, List.nil_append, List.replicate, Nat.reduceAdd, Nat.reduceSub, Nat.reduceLeDiff, true_and, and_true, decide_eq_true_eq, reduceIte, Bool.false_eq_true, Bool.not_true, Bool.not_false, decide_true, decide_false]
  refine (minus_ok (p := a) (q := b) (r := c) (s := d) ep zp (by omega) (by omega)).mono ?_
  rintro _ m ⟨rfl, rfl⟩
  unfold flv
  refine ⟨lowv_congr (Int.mul_pos ep zp) hq ?_, rfl⟩
  unfold Nf
  rw [Int.mul_one] at e3 z3
  rw [Int.mul_one] at e3
  rw [Int.one_mul] at z3
  have : (a * d - c * b) * q = (a * q) * d - (c * q) * b := by grind
  rw [this, e3, z3]
  grind
theorem lflight_ok {D W s p q : Int} {m : MH} {x1 x2 x3 x5 : PV} (hq : 0 < q) (hq2 : q ≤ 65536) (hs : 0 ≤ s) (h : s * q ≤ p) (hp : p ≤ 30000 * q) (hD : 0 ≤ D ∧ D ≤ 1439) (hW : 0 ≤ W ∧ W ≤ 1439) :
    WP (f_law_flight [.tup [x1, x2, x3, .int s, x5, .int D, .int W], fpv p q] m) (fun x m' => x = flv D W s p q ∧ m' = m) NoE := by
  have hd := fun (m : MH) => ldark_ok (D := D) (W := W) (p1 := s) (q1 := 1) (p2 := p) (q2 := q) (m := m) (x1 := x1) (x2 := x2) (x3 := x3) (x4 := .int s) (x5 := x5) (by decide) (by decide) hq hq2 hs (by omega) hp hD hW
  have hg := G_lip (D := D) (W := W) (p := s) (q := 1) (p' := p) (q' := q) hD hW (by decide) hq (by omega)
  have sq : 0 ≤ s * q := Int.mul_nonneg hs (by omega)
  have s3 : s ≤ 30000 := by
    refine Int.le_of_mul_le_mul_right (a := q) ?_ hq
    omega
  unfold f_law_flight b_law_flight fpv at *
  try simp -dsimp only [at0, at1, at2, at3, at4, at5, at6, wp_fn, s_nil, s_brk, s_cnt, s_expr, s_ret, s_retN, s_if, s_asn, s_par, s_asg, g_nm, g_nil, g_cons, g_tupT, g_subW, w_v0, w_vS, w_c, w_op, w_un, w_anil, w_acons, w_tup, w_lst, w_call, w_callU, w_isi, w_meth, w_tru, w_bool, w_notS, w_andS, w_orS, w_ifx, w_andV, w_orV, w_notV, w_chain, wp_ok, wp_bad, wp_some, wp_none, wp_liftif, wp_if, asB_b, wp_noex, add_ii, sub_ii, mul_ii, fdiv_ii, mod_ii, pow_ii, neg_i, cmp_ii, lt_ii, le_ii, gt_ii, ge_ii, le_cc, muls_ii, muls_si, ins_cs, iadd_ii, isub_ii, w_onone, w_osome, w_sl, sl_s, sl_t, s_aug, eq_ss, len_s, ix_s, add_ss, str_s, tuple_t, list_t, is_n, not_n, non_n, non_i, non_b, non_s, non_t, non_r, abs_i, max_ii, min_ii, int_i, int_b, gcd_ii, len_t, ix_t, eq_v, ne_v, eq_ii, eq_bb, eq_nn, eq_in, eq_ni, iv_n_list, iv_n_tuple, iv_n_bool, iv_n_str, iv_n_int, okt_n, iv_b_list, iv_b_tuple, iv_b_bool, iv_b_str, iv_b_int, okt_b, iv_i_list, iv_i_tuple, iv_i_bool, iv_i_str, iv_i_int, okt_i, iv_s_list, iv_s_tuple, iv_s_bool, iv_s_str, iv_s_int, okt_s, iv_t_list, iv_t_tuple, iv_t_bool, iv_t_str, iv_t_int, okt_t, iv_r_list, iv_r_tuple, iv_r_bool, iv_r_str, iv_r_int, tru_b, tru_i, tru_n, tru_t, Option.map_some, Option.map_none, List.map_cons, List.map_nil, List.length_cons, List.length_nil, List.set_cons_zero, List.set_cons_succ, List.cons_append, List.nil_append, List.replicate, Nat.reduceAdd, Nat.reduceSub, Nat.reduceLeDiff, true_and, and_true, decide_eq_true_eq, reduceIte, Bool.false_eq_true, Bool.not_true, Bool.not_false, decide_true, decide_false]
  rw [s_seq]
  try simp -dsimp only [at0, at1, at2, at3, at4, at5, at6, wp_fn, s_nil, s_brk, s_cnt, s_expr, s_ret, s_retN, s_if, s_asn, s_par, s_asg, g_nm, g_nil, g_cons, g_tupT, g_subW, w_v0, w_vS, w_c, w_op, w_un, w_anil, w_acons, w_tup, w_lst, w_call, w_callU, w_isi, w_meth, w_tru, w_bool, w_notS, w_andS, w_orS, w_ifx, w_andV, w_orV, w_notV, w_chain, wp_ok, wp_bad, wp_some, wp_none, wp_liftif, wp_if, asB_b, wp_noex, add_ii, sub_ii, mul_ii, fdiv_ii, mod_ii, pow_ii, neg_i, cmp_ii, lt_ii, le_ii, gt_ii, ge_ii, le_cc, muls_ii, muls_si, ins_cs, iadd_ii, isub_ii, w_onone, w_osome, w_sl, sl_s, sl_t, s_aug, eq_ss, len_s, ix_s, add_ss, str_s, tuple_t, list_t, is_n, not_n, non_n, non_i, non_b, non_s, non_t, non_r, abs_i, max_ii, min_ii, int_i, int_b, gcd_ii, len_t, ix_t, eq_v, ne_v, eq_ii, eq_bb, eq_nn, eq_in, eq_ni, iv_n_list, iv_n_tuple, iv_n_bool, iv_n_str, iv_n_int, okt_n, iv_b_list, iv_b_tuple, iv_b_bool, iv_b_str, iv_b_int, okt_b, iv_i_list, iv_i_tuple, iv_i_bool, iv_i_str, iv_i_int, okt_i, iv_s_list, iv_s_tuple, iv_s_bool, iv_s_str, iv_s_int, okt_s, iv_t_list, iv_t_tuple, iv_t_bool, iv_t_str, iv_t_int, okt_t, iv_r_list, iv_r_tuple, iv_r_bool, iv_r_str, iv_r_int, tru_b, tru_i, tru_n, tru_t, Option.map_some, Option.map_none, List.map_cons, List.map_nil, List.length_cons, List.length_nil, List.set_cons_zero, List.set_cons_succ, List.cons_append, List.nil_append, List.replicate, Nat.reduceAdd, Nat.reduceSub, Nat.reduceLeDiff, true_and, and_true, decide_eq_true_eq, reduceIte, Bool.false_eq_true, Bool.not_true, Bool.not_false, decide_true, decide_false]
  rw [s_seq]
  try simp -dsimp only [at0, at1, at2, at3, at4, at5, at6, wp_fn, s_nil, s_brk, s_cnt, s_expr, s_ret, s_retN, s_if, s_asn, s_par, s_asg, g_nm, g_nil, g_cons, g_tupT, g_subW, w_v0, w_vS, w_c, w_op, w_un, w_anil, w_acons, w_tup, w_lst, w_call, w_callU, w_isi, w_meth, w_tru, w_bool, w_notS, w_andS, w_orS, w_ifx, w_andV, w_orV, w_notV, w_chain, wp_ok, wp_bad, wp_some, wp_none, wp_liftif, wp_if, asB_b, wp_noex, add_ii, sub_ii, mul_ii, fdiv_ii, mod_ii, pow_ii, neg_i, cmp_ii, lt_ii, le_ii, gt_ii, ge_ii, le_cc, muls_ii, muls_si, ins_cs, iadd_ii, isub_ii, w_onone, w_osome, w_sl, sl_s, sl_t, s_aug, eq_ss, len_s, ix_s, add_ss, str_s, tuple_t, list_t, is_n, not_n, non_n, non_i, non_b, non_s, non_t, non_r, abs_i, max_ii, min_ii, int_i, int_b, gcd_ii, len_t, ix_t, eq_v, ne_v, eq_ii, eq_bb, eq_nn, eq_in, eq_ni, iv_n_list, iv_n_tuple, iv_n_bool, iv_n_str, iv_n_int, okt_n, iv_b_list, iv_b_tuple, iv_b_bool, iv_b_str, iv_b_int, okt_b, iv_i_list, iv_i_tuple, iv_i_bool, iv_i_str, iv_i_int, okt_i, iv_s_list, iv_s_tuple, iv_s_bool, iv_s_str, iv_s_int, okt_s, iv_t_list, iv_t_tuple, iv_t_bool, iv_t_str, iv_t_int, okt_t, iv_r_list, iv_r_tuple, iv_r_bool, iv_r_str, iv_r_int, tru_b, tru_i, tru_n, tru_t, Option.map_some, Option.map_none, List.map_cons, List.map_nil, List.length_cons, List.length_nil, List.set_cons_zero, List.set_cons_succ, List.cons_append, List.nil_append, List.replicate, Nat.reduceAdd, Nat.reduceSub, Nat.reduceLeDiff, true_and, and_true, decide_eq_true_eq, reduceIte, Bool.false_eq_true, Bool.not_true, Bool.not_false, decide_true, decide_false]
  refine (hd _).mono ?_
  rintro _ m ⟨rfl, rfl⟩
  obtain ⟨c, d, z1, z2, z3, z4, z5⟩ := lowv_red (p := Gn D W p q * 1 - Gn D W s 1 * q) (q := 1 * q) (by omega)
  have zp := z2.pos
  unfold dkv
  rw [z1]
  try simp -dsimp only [at0, at1, at2, at3, at4, at5, at6, wp_fn, s_nil, s_brk, s_cnt, s_expr, s_ret, s_retN, s_if, s_asn, s_par, s_asg, g_nm, g_nil, g_cons, g_tupT, g_subW, w_v0, w_vS, w_c, w_op, w_un, w_anil, w_acons, w_tup, w_lst, w_call, w_callU, w_isi, w_meth, w_tru, w_bool, w_notS, w_andS, w_orS, w_ifx, w_andV, w_orV, w_notV, w_chain, wp_ok, wp_bad, wp_some, wp_none, wp_liftif, wp_if, asB_b, wp_noex, add_ii, sub_ii, mul_ii, fdiv_ii, mod_ii, pow_ii, neg_i, cmp_ii, lt_ii, le_ii, gt_ii, ge_ii, le_cc, muls_ii, muls_si, ins_cs, iadd_ii, isub_ii, w_onone, w_osome, w_sl, sl_s, sl_t, s_aug, eq_ss, len_s, ix_s, add_ss, str_s, tuple_t, list_t, is_n, not_n, non_n, non_i, non_b, non_s, non_t, non_r, abs_i, max_ii, min_ii, int_i, int_b, gcd_ii, len_t, ix_t, eq_v, ne_v, eq_ii, eq_bb, eq_nn, eq_in, eq_ni, iv_n_list, iv_n_tuple, iv_n_bool, iv_n_str, iv_n_int, okt_n, iv_b_list, iv_b_tuple, iv_b_bool, iv_b_str, iv_b_int, okt_b, iv_i_list, iv_i_tuple, iv_i_bool, iv_i_str, iv_i_int, okt_i, iv_s_list, iv_s_tuple, iv_s_bool, iv_s_str, iv_s_int, okt_s, iv_t_list, iv_t_tuple, iv_t_bool, iv_t_str, iv_t_int, okt_t, iv_r_list, iv_r_tuple, iv_r_bool, iv_r_str, iv_r_int, tru_b, tru_i, tru_n, tru_t, Option.map_some, Option.map_none, List.map_cons, List.map_nil, List.length_cons, List.length_nil, List.set_cons_zero, List.set_cons_succ, List.cons_append, List.nil_append, List.replicate, Nat.reduceAdd, Nat.reduceSub, Nat.reduceLeDiff, true_and, and_true, decide_eq_true_eq, reduceIte, Bool.false_eq_true, Bool.not_true, Bool.not_false, decide_true, decide_false]
  refine (lplus_ok (p := p) (q := q) (r := 0 - s) (s := 1) hq (by decide) (by omega) (by decide) (by omega) (by omega)).mono ?_
  rintro _ m ⟨rfl, rfl⟩
  obtain ⟨a, b, e1, e2, e3, e4, e5⟩ := lowv_red (p := p * 1 + (0 - s) * q) (q := q * 1) (by omega)
  have ep := e2.pos
  have em : (0 - s) * q = 0 - s * q := by rw [Int.sub_mul, Int.zero_mul]
  rw [e1]
  unfold fpv
  try simp -dsimp only [at0, at1, at2, at3, at4, at5, at6, wp_fn, s_nil, s_brk, s_cnt, s_expr, s_ret, s_retN, s_if, s_asn, s_par, s_asg, g_nm, g_nil, g_cons, g_tupT, g_subW, w_v0, w_vS, w_c, w_op, w_un, w_anil, w_acons, w_tup, w_lst, w_call, w_callU, w_isi, w_meth, w_tru, w_bool, w_notS, w_andS, w_orS, w_ifx, w_andV, w_orV, w_notV, w_chain, wp_ok, wp_bad, wp_some, wp_none, wp_liftif, wp_if, asB_b, wp_noex, add_ii, sub_ii, mul_ii, fdiv_ii, mod_ii, pow_ii, neg_i, cmp_ii, lt_ii, le_ii, gt_ii, ge_ii, le_cc, muls_ii, muls_si, ins_cs, iadd_ii, isub_ii, w_onone, w_osome, w_sl, sl_s, sl_t, s_aug, eq_ss, len_s, ix_s, add_ss, str_s, tuple_t, list_t, is_n, not_n, non_n, non_i, non_b, non_s, non_t, non_r, abs_i, max_ii, min_ii, int_i, int_b, gcd_ii, len_t, ix_t, eq_v, ne_v, eq_ii, eq_bb, eq_nn, eq_in, eq_ni, iv_n_list, iv_n_tuple, iv_n_bool, iv_n_str, iv_n_int, okt_n, iv_b_list, iv_b_tuple, iv_b_bool, iv_b_str, iv_b_int, okt_b, iv_i_list, iv_i_tuple, iv_i_bool, iv_i_str, iv_i_int, okt_i, iv_s_list, iv_s_tuple, iv_s_bool, iv_s_str, iv_s_int, okt_s, iv_t_list, iv_t_tuple, iv_t_bool, iv_t_str, iv_t_int, okt_t, iv_r_list, iv_r_tuple, iv_r_bool, iv_r_str, iv_r_int, tru_b, tru_i, tru_n, tru_t, Option.map_some, Option.map_none, List.map_cons, List.map_nil, List.length_cons, List.length_nil, List.set_cons_zero, List.set_cons_succ, List.cons_append, List.nil_append, List.replicate, Nat.reduceAdd, Nat.reduceSub, Nat.reduceLeDiff, true_and, and_true, decide_eq_true_eq, reduceIte, Bool.false_eq_true, Bool.not_true, Bool.not_false, decide_true, decide_false]
  refine (lplus_ok (p := a) (q := b) (r := 0 - c) (s := d) ep zp (by omega) (by omega) (by omega) (by omega)).mono ?_
  rintro _ m ⟨rfl, rfl⟩
  unfold flv
  refine ⟨lowv_congr (Int.mul_pos ep zp) hq ?_, rfl⟩
  unfold Nf
  rw [Int.mul_one] at e3 z3
  rw [Int.mul_one] at e3
  rw [Int.one_mul] at z3
  have : (a * d + (0 - c) * b) * q = (a * q) * d - (c * q) * b := by grind
  rw [this, e3, z3]
  grind
/-! ## the heap goes on -/
theorem no_mem1 {α : Type} {p : α → Prop} : ∀ c ∈ ([] : List α), p c := fun _ h => by cases h
structure Fr (b : Nat) (m m' : MH) : Prop where
  len : m.length ≤ m'.length
  get : ∀ n o, n ≠ b → m[n]? = some o → m'[n]? = some o
theorem Fr.refl {b : Nat} {m : MH} : Fr b m m := ⟨Nat.le_refl _, fun _ _ _ h => h⟩
theorem Fr.trans {b : Nat} {m m1 m2 : MH} (h : Fr b m m1) (h2 : Fr b m1 m2) : Fr b m m2 := ⟨Nat.le_trans h.len h2.len, fun n o e q => h2.get n o e (h.get n o e q)⟩
theorem Fr.push {b : Nat} {m m1 : MH} (h : Fr b m m1) (o : MO) : Fr b m (m1 ++ [o]) := ⟨by have := h.len; simp; omega, fun n u e q => get_old (h.get n u e q)⟩
theorem Fr.set {b n : Nat} {m m1 : MH} {o : MO} (h : Fr b m m1) (hn : m.length ≤ n) : Fr b m (m1.set n o) := ⟨by simpa using h.len, fun k u e q => by
  have hk := (List.getElem?_eq_some_iff.mp q).1
  rw [List.getElem?_set_ne (by omega)]; exact h.get k u e q⟩
structure St (b d : Nat) (ds : List Int) (m : MH) : Prop where
  dig : Dig ds
  box : ∃ a, Box m b d ds a
theorem St.push {b d : Nat} {ds : List Int} {m : MH} {o : MO} (h : St b d ds m) : St b d ds (m ++ [o]) := ⟨h.dig, let ⟨a, q⟩ := h.box; ⟨a, q.push⟩⟩
theorem St.lt {b d : Nat} {ds : List Int} {m : MH} (h : St b d ds m) : b < m.length := let ⟨_, q⟩ := h.box; (List.getElem?_eq_some_iff.mp q.bx).1
theorem St.ltd {b d : Nat} {ds : List Int} {m : MH} (h : St b d ds m) : d < m.length := let ⟨_, q⟩ := h.box; (List.getElem?_eq_some_iff.mp q.dg).1
theorem St.set {b d n : Nat} {ds : List Int} {m : MH} {o : MO} (h : St b d ds m) (h1 : n ≠ b) (h2 : n ≠ d) : St b d ds (m.set n o) := ⟨h.dig, let ⟨a, q⟩ := h.box; ⟨a, ⟨by rw [List.getElem?_set_ne h1]; exact q.bx, by rw [List.getElem?_set_ne h2]; exact q.dg, q.nn⟩⟩⟩
theorem drw {b d : Nat} {ds : List Int} {m : MH} {many : Int} (h : St b d ds m) (hm : 0 < many) :
    WP (f_law_draw [.ref b, .int many] m) (fun x m' => ∃ v, x = .int v ∧ 0 ≤ v ∧ v < many ∧ St b d ds m' ∧ Fr b m m') NoE := by
  obtain ⟨hd, a, q⟩ := h
  refine (draw_ok q hd hm).mono ?_
  rintro _ _ ⟨v, rfl, h1, h2, rfl⟩
  exact ⟨v, rfl, h1, h2, ⟨hd, a + 1, q.next⟩, ⟨by rw [next_len]; omega, fun n o e z => by rw [next_get e]; exact z⟩⟩
/-- a fresh list is found again -/
theorem Fr.new {b : Nat} {m m' : MH} {o : MO} (hb : b < m.length) (h : Fr b (m ++ [o]) m') : m'[m.length]? = some o := h.get _ _ (by omega) get_new
theorem atI_in {α : Type} {xs : List α} {i : Int} (h : 0 ≤ i) (h2 : i < xs.length) : ∃ x, atI xs i = some x ∧ x ∈ xs := by
  rw [atI_nn h h2]
  have : i.toNat < xs.length := by omega
  exact ⟨xs[i.toNat], List.getElem?_eq_getElem this, List.getElem_mem this⟩
theorem pick_int {m : MH} {n : Nat} {a c v : Int} (h : m[n]? = some (.lst [.int a, .int c])) (h0 : 0 ≤ v) (h1 : v < 2) : ∃ w, ixv (.ref n) (.int v) m = some (.int w, m) ∧ (w = a ∨ w = c) := by
  rw [ix_r (seq_of_lst h)]
  rcases (by omega : v = 0 ∨ v = 1) with rfl | rfl
  · exact ⟨a, rfl, .inl rfl⟩
  · exact ⟨c, rfl, .inr rfl⟩
theorem pick_int3 {m : MH} {n : Nat} {a c e v : Int} (h : m[n]? = some (.lst [.int a, .int c, .int e])) (h0 : 0 ≤ v) (h1 : v < 3) : ∃ w, ixv (.ref n) (.int v) m = some (.int w, m) ∧ (w = a ∨ w = c ∨ w = e) := by
  rw [ix_r (seq_of_lst h)]
  rcases (by omega : v = 0 ∨ v = 1 ∨ v = 2) with rfl | rfl | rfl
  · exact ⟨a, rfl, .inl rfl⟩
  · exact ⟨c, rfl, .inr (.inl rfl)⟩
  · exact ⟨e, rfl, .inr (.inr rfl)⟩
theorem lrun_ok {b d : Nat} {ds : List Int} {m : MH} {many : Int} {cs : List Nat} (h : St b d ds m) (h0 : 0 ≤ many) (hm : many ≤ 100) (hc : 0 < cs.length ∧ cs.length ≤ 100) :
    WP (f_law_run [.ref b, .int many, .str cs] m) (fun x m' => ∃ t : List Nat, x = .str t ∧ t.length = many.toNat ∧ (∀ c ∈ t, c ∈ cs) ∧ St b d ds m' ∧ Fr b m m') NoE := by
  unfold f_law_run b_law_run
  walk_at "w1"
  walk_at "sq"
  rw [s_seq]
  refine s_for1 (j := many) many.toNat rfl rfl (by omega) (by omega) (fun i l m' => ∃ t x4, l = [some (.ref b), some (.int many), some (.str cs), some (.str t), x4] ∧ t.length = i ∧ (∀ c ∈ t, c ∈ cs) ∧ St b d ds m' ∧ Fr b m m') ⟨[], none, rfl, rfl, no_mem1, h, Fr.refl⟩ ?_ ?_
  · rintro i l m' hi ⟨t, x4, rfl, ht, hc2, hS, hF⟩
    unfold law_run_l1
    walk_at "w1"
    rw [if_pos (by omega)]
    walk_at "w1"
    refine (drw hS (by omega)).mono ?_
    rintro _ m2 ⟨v, rfl, v1, v2, hS2, hF2⟩
    walk_at "w1"
    rw [if_pos (by omega)]
    obtain ⟨c, e1, e2⟩ := atI_in v1 v2
    rw [e1]
    walk_at "w1"
    rw [if_pos (by omega)]
    walk_at "w1"
    exact ⟨t ++ [c], _, rfl, by simp; omega, fun x hx => (List.mem_append.mp hx).elim (hc2 x) fun q => by rw [List.mem_singleton.mp q]; exact e2, hS2, hF.trans hF2⟩
  · rintro l m' ⟨t, x4, rfl, ht, hc2, hS, hF⟩
    walk_at "w1"
    exact ⟨t, rfl, ht, hc2, hS, hF⟩
def wLow : List Nat := [97, 98, 99, 100, 101, 102, 103, 104, 105, 106, 107, 108, 109, 110, 111, 112, 113, 114, 115, 116, 117, 118, 119, 120, 121, 122]
def wFix : List (List Nat) := [[108, 111, 102, 116], [97, 116], [98, 105, 114, 100], [111, 102], [121, 101, 97, 114], [114, 97, 99, 101], [102, 114, 111, 109], [115, 116, 97, 114, 116], [99, 108, 111, 115, 101], [100, 97, 114, 107], [116, 111]]
def wLet : List Nat := [97, 98, 99, 100, 101, 102, 103, 104, 105, 106, 107, 108]
/-- a name: small letters, 1 to 8 -/
def Nam (t : List Nat) : Prop := 1 ≤ t.length ∧ t.length ≤ 8 ∧ ∀ c ∈ t, c ∈ wLow
theorem let_low : ∀ c ∈ wLet, c ∈ wLow := by decide
theorem cut7 {α : Type} {t : List α} : cut t none (some 7) = t.take 7 := by
  unfold cut
  simp [HT.sIx]
theorem nam_next {t : List Nat} {c : Nat} (h : Nam t) (hc : c ∈ wLet) : Nam (t.take 7 ++ [c]) := by
  refine ⟨by simp, by simp; omega, fun x hx => ?_⟩
  rcases List.mem_append.mp hx with q | q
  · exact h.2.2 x (List.mem_of_mem_take q)
  · rw [List.mem_singleton.mp q]; exact let_low c hc
theorem low_cps : ∀ c ∈ wLow, c < 1114112 := by decide
theorem fix_cps : ∀ s ∈ wFix, ∀ c ∈ s, c < 1114112 := by decide
theorem Nam.cps {t : List Nat} (h : Nam t) : Cps t := fun c hc => low_cps c (h.2.2 c hc)
theorem word_ok {b d tk : Nat} {ds : List Int} {m : MH} {ns : List (List Nat)} (h : St b d ds m) (hk : m[tk]? = some (.lst (ns.map .str))) (hb : tk ≠ b) (hns : ∀ t ∈ ns, Nam t) :
    WP (f_law_word [.ref b, .ref tk] m) (fun x m' => ∃ t, x = .str t ∧ Nam t ∧ St b d ds m' ∧ Fr b m m') NoE := by
  unfold f_law_word b_law_word
  walk_at "w1"
  walk_at "sq"
  refine (drw h (by decide)).mono ?_
  rintro _ m1 ⟨v, rfl, v1, v2, S1, F1⟩
  walk_at "w1"
  rw [show [97, 98, 99, 100, 101, 102, 103, 104, 105, 106, 107, 108, 109, 110, 111, 112, 113, 114, 115, 116, 117, 118, 119, 120, 121, 122] = wLow from rfl]
  refine (lrun_ok S1 (by omega) (by omega) (by decide)).mono ?_
  rintro _ m2 ⟨t, rfl, tl, ta, S2, F2⟩
  have hn : Nam t := ⟨by omega, by omega, ta⟩
  have F12 := F1.trans F2
  walk_at "w1"
  rw [s_seq]
  refine s_for1 (j := 12) 12 rfl rfl (by decide) (by decide) (fun i l m' => ∃ t x3, l = [some (.ref b), some (.ref tk), some (.str t), x3] ∧ Nam t ∧ St b d ds m' ∧ Fr b m m') ⟨t, none, rfl, hn, S2, F12⟩ ?_ ?_
  · rintro i l m' hi ⟨t, x3, rfl, hn, S, F⟩
    unfold law_word_l1
    walk_at "w1"
    rw [ins_r (inD_str (ss := ns) (seq_of_lst (F.get _ _ hb hk)) hn.cps fun s hs => (hns s hs).cps)]
    walk_at "w1"
    have tl := hn.2.1
    obtain ⟨c, e1, e2⟩ := atI_in (xs := wLet) (i := (i : Nat)) (by omega) (by show ((i : Nat) : Int) < 12; omega)
    unfold wLet at e1
    by_cases c1 : t ∈ ns
    · rw [if_pos c1]
      rw [if_pos (by omega), e1]
      walk_at "w1"
      rw [cut7, if_pos (by simp; omega)]
      walk_at "w1"
      exact ⟨_, _, rfl, nam_next hn e2, S, F⟩
    · rw [if_neg c1]
      walk_at "w1"
      rw [ins_r (b := decide (t ∈ wFix))]
      rotate_left
      exact inD_str (ss := wFix) (seq_of_lst get_new) hn.cps fix_cps
      walk_at "w1"
      by_cases c2 : t ∈ wFix
      · rw [if_pos c2]
        rw [if_pos (by omega), e1]
        walk_at "w1"
        rw [cut7, if_pos (by simp; omega)]
        walk_at "w1"
        exact ⟨_, _, rfl, nam_next hn e2, S.push, F.push _⟩
      · rw [if_neg c2]
        exact ⟨t, _, rfl, hn, S.push, F.push _⟩
  · rintro l m' ⟨t, x3, rfl, hn, S, F⟩
    walk_at "w1"
    exact ⟨t, rfl, hn, S, F⟩
theorem number_ok {b d : Nat} {ds : List Int} {m : MH} {size : Int} (h : St b d ds m) (h0 : 0 ≤ size) (h1 : size ≤ 9999) :
    WP (f_law_number [.ref b, .int size] m) (fun x m' => ∃ v, x = .int v ∧ -9999 ≤ v ∧ v ≤ 9999 ∧ St b d ds m' ∧ Fr b m m') NoE := by
  unfold f_law_number b_law_number
  walk_at "w1"
  refine (drw h (by decide)).mono ?_
  rintro _ m1 ⟨v1, rfl, v11, v12, S1, F1⟩
  walk_at "w1"
  rw [if_pos (.inl (.inl (by omega)))]
  refine (drw S1 (by decide)).mono ?_
  rintro _ m2 ⟨v2, rfl, v21, v22, S2, F2⟩
  walk_at "w1"
  rw [if_pos (.inl (.inl (by omega)))]
  walk_at "w1"
  rw [if_pos (by omega), fmod_pos (by omega)]
  have a1 := Int.emod_nonneg (v1 * 1000 + v2) (b := 2 * size + 1) (by omega)
  have a2 := Int.emod_lt_of_pos (v1 * 1000 + v2) (b := 2 * size + 1) (by omega)
  walk_at "w1"
  exact ⟨_, rfl, by omega, by omega, S2, F1.trans F2⟩
/-! ## the club of the draws -/
structure Loft where
  name : List Nat
  x : Int
  y : Int
structure Bird where
  ring : Int
  loft : Int
  year : Int
structure Race where
  name : List Nat
  x : Int
  y : Int
  start : Int
  close : Int
  dusk : Int
  dawn : Int
def Loft.pv (l : Loft) : PV := .tup [.str l.name, .int l.x, .int l.y]
def Bird.pv (l : Bird) : PV := .tup [.int l.ring, .int l.loft, .int l.year]
def Race.pv (l : Race) : PV := .tup [.str l.name, .int l.x, .int l.y, .int l.start, .int l.close, .int l.dusk, .int l.dawn]
def Loft.At (l : Loft) : Int × Int := (l.x, l.y)
structure LoftOk (l : Loft) : Prop where
  nm : Nam l.name
  x : -9999 ≤ l.x ∧ l.x ≤ 9999
  y : -9999 ≤ l.y ∧ l.y ≤ 9999
structure BirdOk (n : Nat) (b : Bird) : Prop where
  ring : 1 ≤ b.ring ∧ b.ring ≤ 999
  loft : 0 ≤ b.loft ∧ b.loft < n
  year : 0 ≤ b.year ∧ b.year ≤ 99
structure RaceOk (L : List Loft) (r : Race) : Prop where
  nm : Nam r.name
  x : -9999 ≤ r.x ∧ r.x ≤ 9999
  y : -9999 ≤ r.y ∧ r.y ≤ 9999
  start : 0 ≤ r.start ∧ r.start ≤ 2997
  close : r.start < r.close ∧ r.close ≤ r.start + 3997
  dusk : 0 ≤ r.dusk ∧ r.dusk ≤ 1399
  dawn : 0 ≤ r.dawn ∧ r.dawn ≤ 1399
  pl : (r.x, r.y) ∉ L.map Loft.At
structure ClubOk (nl nb nr : Int) (L : List Loft) (B : List Bird) (R : List Race) : Prop where
  l1 : 1 ≤ L.length
  l2 : (L.length : Int) ≤ nl
  b2 : (B.length : Int) ≤ nb
  r2 : (R.length : Int) ≤ nr
  lx : ∀ l ∈ L, LoftOk l
  bx : ∀ b ∈ B, BirdOk L.length b
  bn : (B.map Bird.ring).Nodup
  rx : ∀ r ∈ R, RaceOk L r
def clubPV (L : List Loft) (B : List Bird) (R : List Race) : PV := .tup [.tup (L.map Loft.pv), .tup (B.map Bird.pv), .tup (R.map Race.pv)]
structure CS (b d : Nat) (ds : List Int) (m m' : MH) (ns : List (List Nat)) (L : List Loft) (B : List Bird) (R : List Race) : Prop where
  st : St b d ds m'
  fr : Fr b m m'
  lb : b < m.length
  ld : d < m.length
  cn : m'[m.length]? = some (.lst (ns.map .str))
  c0 : m'[m.length + 1]? = some (.lst (L.map Loft.pv))
  c1 : m'[m.length + 2]? = some (.lst (B.map Bird.pv))
  c2 : m'[m.length + 3]? = some (.lst (R.map Race.pv))
  co : m'[m.length + 4]? = some (.lst [.ref (m.length + 1), .ref (m.length + 2), .ref (m.length + 3)])
  nn : ∀ t ∈ ns, Nam t
section
variable {b d : Nat} {ds : List Int} {m m' m2 : MH} {ns : List (List Nat)} {L : List Loft} {B : List Bird} {R : List Race}
theorem CS.go (h : CS b d ds m m' ns L B R) (S : St b d ds m2) (F : Fr b m' m2) : CS b d ds m m2 ns L B R :=
  have := h.lb
  ⟨S, h.fr.trans F, h.lb, h.ld, F.get _ _ (by omega) h.cn, F.get _ _ (by omega) h.c0, F.get _ _ (by omega) h.c1, F.get _ _ (by omega) h.c2, F.get _ _ (by omega) h.co, h.nn⟩
theorem CS.push (h : CS b d ds m m' ns L B R) (o : MO) : CS b d ds m (m' ++ [o]) ns L B R := h.go h.st.push (Fr.refl.push o)
theorem CS.addN (h : CS b d ds m m' ns L B R) (t : List Nat) (ht : Nam t) : CS b d ds m (m'.set m.length (.lst (ns.map .str ++ [.str t]))) (ns ++ [t]) L B R :=
  have h1 := h.lb; have h2 := h.ld
  ⟨h.st.set (by omega) (by omega), h.fr.set (by omega), h.lb, h.ld, by rw [get_set_eq h.cn, List.map_append]; rfl, get_set_ne h.c0 (by omega), get_set_ne h.c1 (by omega), get_set_ne h.c2 (by omega), get_set_ne h.co (by omega), fun u hu => (List.mem_append.mp hu).elim (h.nn u) fun e => by rw [List.mem_singleton.mp e]; exact ht⟩
theorem CS.addL (h : CS b d ds m m' ns L B R) (t : Loft) : CS b d ds m (m'.set (m.length + 1) (.lst (L.map Loft.pv ++ [t.pv]))) ns (L ++ [t]) B R :=
  have h1 := h.lb; have h2 := h.ld
  ⟨h.st.set (by omega) (by omega), h.fr.set (by omega), h.lb, h.ld, get_set_ne h.cn (by omega), by rw [get_set_eq h.c0, List.map_append]; rfl, get_set_ne h.c1 (by omega), get_set_ne h.c2 (by omega), get_set_ne h.co (by omega), h.nn⟩
theorem CS.addB (h : CS b d ds m m' ns L B R) (t : Bird) : CS b d ds m (m'.set (m.length + 2) (.lst (B.map Bird.pv ++ [t.pv]))) ns L (B ++ [t]) R :=
  have h1 := h.lb; have h2 := h.ld
  ⟨h.st.set (by omega) (by omega), h.fr.set (by omega), h.lb, h.ld, get_set_ne h.cn (by omega), get_set_ne h.c0 (by omega), by rw [get_set_eq h.c1, List.map_append]; rfl, get_set_ne h.c2 (by omega), get_set_ne h.co (by omega), h.nn⟩
theorem CS.addR (h : CS b d ds m m' ns L B R) (t : Race) : CS b d ds m (m'.set (m.length + 3) (.lst (R.map Race.pv ++ [t.pv]))) ns L B (R ++ [t]) :=
  have h1 := h.lb; have h2 := h.ld
  ⟨h.st.set (by omega) (by omega), h.fr.set (by omega), h.lb, h.ld, get_set_ne h.cn (by omega), get_set_ne h.c0 (by omega), get_set_ne h.c1 (by omega), by rw [get_set_eq h.c2, List.map_append]; rfl, get_set_ne h.co (by omega), h.nn⟩
theorem CS.oth (h : CS b d ds m m' ns L B R) {n : Nat} {o : MO} (hn : m.length + 5 ≤ n) : CS b d ds m (m'.set n o) ns L B R :=
  have h1 := h.lb; have h2 := h.ld
  ⟨h.st.set (by omega) (by omega), h.fr.set (by omega), h.lb, h.ld, get_set_ne h.cn (by omega), get_set_ne h.c0 (by omega), get_set_ne h.c1 (by omega), get_set_ne h.c2 (by omega), get_set_ne h.co (by omega), h.nn⟩
theorem CS.new (S : St b d ds m) : CS b d ds m (m ++ [.lst [], .lst [], .lst [], .lst [], .lst [.ref (m.length + 1), .ref (m.length + 2), .ref (m.length + 3)]]) [] [] [] [] := by
  have g : ∀ (k : Nat) (o : MO), ([MO.lst [], .lst [], .lst [], .lst [], .lst [.ref (m.length + 1), .ref (m.length + 2), .ref (m.length + 3)]] : MH)[k]? = some o → (m ++ [MO.lst [], .lst [], .lst [], .lst [], .lst [.ref (m.length + 1), .ref (m.length + 2), .ref (m.length + 3)]])[m.length + k]? = some o := by
    intro k o e
    rw [List.getElem?_append_right (by omega), Nat.add_sub_cancel_left]
    exact e
  refine ⟨?_, ?_, S.lt, S.ltd, g 0 _ rfl, g 1 _ rfl, g 2 _ rfl, g 3 _ rfl, g 4 _ rfl, fun _ h => by cases h⟩
  · obtain ⟨hd, a, q⟩ := S
    have lb := (List.getElem?_eq_some_iff.mp q.bx).1
    have ld := (List.getElem?_eq_some_iff.mp q.dg).1
    exact ⟨hd, a, by rw [List.getElem?_append_left lb]; exact q.bx, by rw [List.getElem?_append_left ld]; exact q.dg, q.nn⟩
  · refine ⟨by simp, fun n o e q => ?_⟩
    rw [List.getElem?_append_left (List.getElem?_eq_some_iff.mp q).1]; exact q
end
theorem sub_cell {m : MH} {n : Nat} {r0 r1 r2 : Nat} (h : m[n]? = some (.lst [.ref r0, .ref r1, .ref r2])) : ixv (.ref n) (.int 0) m = some (.ref r0, m) ∧ ixv (.ref n) (.int 1) m = some (.ref r1, m) ∧ ixv (.ref n) (.int 2) m = some (.ref r2, m) := by
  refine ⟨?_, ?_, ?_⟩ <;> rw [ix_r (seq_of_lst h)] <;> rfl
theorem last_name {m : MH} {n : Nat} {ns : List (List Nat)} {t : List Nat} (h : m[n]? = some (.lst ((ns ++ [t]).map .str))) : ixv (.ref n) (.int (-1)) m = some (.str t, m) := by
  rw [ix_r (seq_of_lst h), atI_snoc]; rfl
section
variable {b d : Nat} {ds : List Int} {m m' : MH} {ns : List (List Nat)} {L : List Loft} {B : List Bird} {R : List Race} {nl nb nr size : Int}
theorem club_l1 (h : CS b d ds m m' ns L B R) (h0 : 0 ≤ size) (h1 : size ≤ 9999) (hn : ns.length ≤ 100) (hl : L.length ≤ 100) {D : ED} {r : SM.Loc}
    (q : ∀ t m2, LoftOk t → CS b d ds m m2 (ns ++ [t.name]) (L ++ [t]) B R → D.nx (some (.ref b) :: some (.int nl) :: some (.int nb) :: some (.int nr) :: some (.ref m.length) :: some (.ref (m.length + 4)) :: some (.int size) :: r) m2) :
    WS (law_club_l1 (some (.ref b) :: some (.int nl) :: some (.int nb) :: some (.int nr) :: some (.ref m.length) :: some (.ref (m.length + 4)) :: some (.int size) :: r) m') D := by
  have lb := h.lb
  unfold law_club_l1
  rw [s_seq]
  walk_at "w1"
  refine ⟨isLst_r h.cn, ?_⟩
  refine (word_ok h.st h.cn (by omega) h.nn).mono ?_
  rintro _ m1 ⟨t, rfl, hN, S1, F1⟩
  have C1 := h.go S1 F1
  walk_at "w1"
  rw [append_r C1.cn (by rw [List.length_map]; omega)]
  have C2 := C1.addN t hN
  walk_at "w1"
  rw [(sub_cell C2.co).1]
  walk_at "w1"
  refine ⟨isLst_r C2.c0, ?_⟩
  rw [last_name C2.cn]
  walk_at "w1"
  refine (number_ok C2.st h0 h1).mono ?_
  rintro _ m3 ⟨x, rfl, x1, x2, S3, F3⟩
  have C3 := C2.go S3 F3
  walk_at "w1"
  refine (number_ok C3.st h0 h1).mono ?_
  rintro _ m4 ⟨y, rfl, y1, y2, S4, F4⟩
  have C4 := C3.go S4 F4
  walk_at "w1"
  rw [append_r C4.c0 (by rw [List.length_map]; omega)]
  walk_at "w1"
  exact q ⟨t, x, y⟩ _ ⟨hN, ⟨x1, x2⟩, ⟨y1, y2⟩⟩ (C4.addL ⟨t, x, y⟩)
structure BS (b d : Nat) (ds : List Int) (m m' : MH) (ns : List (List Nat)) (L : List Loft) (B : List Bird) (R : List Race) (rg : Nat) : Prop where
  cs : CS b d ds m m' ns L B R
  rr : m'[rg]? = some (.lst ((B.map Bird.ring).map .int))
  rg : m.length + 5 ≤ rg
  bx : ∀ b ∈ B, BirdOk L.length b
  bn : (B.map Bird.ring).Nodup
theorem BS.go {m2 : MH} {rg : Nat} (h : BS b d ds m m' ns L B R rg) (S : St b d ds m2) (F : Fr b m' m2) : BS b d ds m m2 ns L B R rg :=
  ⟨h.cs.go S F, F.get _ _ (by have := h.rg; have := h.cs.lb; omega) h.rr, h.rg, h.bx, h.bn⟩
theorem club_l2 {rg : Nat} (h : BS b d ds m m' ns L B R rg) (hl : 1 ≤ L.length) (hb : B.length ≤ 100) {D : ED} {x7 x9 : Option PV} {r : SM.Loc}
    (q : ∀ x9 B' m2, BS b d ds m m2 ns L B' R rg → B'.length ≤ B.length + 1 → D.nx (some (.ref b) :: some (.int nl) :: some (.int nb) :: some (.int nr) :: some (.ref m.length) :: some (.ref (m.length + 4)) :: some (.int size) :: x7 :: some (.ref rg) :: x9 :: r) m2) :
    WS (law_club_l2 (some (.ref b) :: some (.int nl) :: some (.int nb) :: some (.int nr) :: some (.ref m.length) :: some (.ref (m.length + 4)) :: some (.int size) :: x7 :: some (.ref rg) :: x9 :: r) m') D := by
  have lb := h.cs.lb
  have hrg := h.rg
  unfold law_club_l2
  rw [s_seq]
  walk_at "w1"
  refine (drw h.cs.st (by decide)).mono ?_
  rintro _ m1 ⟨v, rfl, v1, v2, S1, F1⟩
  have C1 := h.go S1 F1
  walk_at "w1"
  by_cases c : 1 + v ∈ B.map Bird.ring
  · rw [nins_r (b := true) ((inD_int (seq_of_lst C1.rr)).trans (by rw [decide_eq_true c]))]
    walk_at "w1"
    exact q _ B m1 C1 (by omega)
  · rw [nins_r (b := false) ((inD_int (seq_of_lst C1.rr)).trans (by rw [decide_eq_false c]))]
    walk_at "w1"
    rw [s_seq]
    walk_at "w1"
    refine ⟨isLst_r C1.rr, ?_⟩
    rw [append_r C1.rr (by simp; omega)]
    have C2 := C1.cs.oth (n := rg) (o := .lst ((B.map Bird.ring).map .int ++ [.int (1 + v)])) h.rg
    have R2 := get_set_eq (o := .lst ((B.map Bird.ring).map .int ++ [.int (1 + v)])) C1.rr
    generalize m1.set rg (.lst ((B.map Bird.ring).map .int ++ [.int (1 + v)])) = m2 at *
    walk_at "w1"
    rw [(sub_cell C2.co).2.1]
    walk_at "w1"
    refine ⟨isLst_r C2.c1, ?_⟩
    rw [(sub_cell C2.co).1]
    walk_at "w1"
    rw [len_r (seq_of_lst C2.c0), List.length_map]
    walk_at "w1"
    refine (drw C2.st (by omega)).mono ?_
    rintro _ m3 ⟨x, rfl, x1, x2, S3, F3⟩
    have C3 := C2.go S3 F3
    have R3 := F3.get _ _ (by omega) R2
    walk_at "w1"
    refine (drw C3.st (by decide)).mono ?_
    rintro _ m4 ⟨y, rfl, y1, y2, S4, F4⟩
    have C4 := C3.go S4 F4
    have R4 := F4.get _ _ (by omega) R3
    walk_at "w1"
    rw [append_r C4.c1 (by rw [List.length_map]; omega)]
    walk_at "w1"
    refine q _ (B ++ [(⟨1 + v, x, y⟩ : Bird)]) _ ⟨C4.addB ⟨1 + v, x, y⟩, ?_, h.rg, ?_, ?_⟩ (by simp)
    · refine (get_set_ne R4 (by omega)).trans ?_
      simp
    · intro z hz
      rcases List.mem_append.mp hz with e | e
      · exact h.bx z e
      · rw [List.mem_singleton.mp e]
        exact ⟨⟨by show 1 ≤ 1 + v; omega, by show 1 + v ≤ 999; omega⟩, ⟨x1, x2⟩, ⟨y1, by show y ≤ 99; omega⟩⟩
    · rw [List.map_append, List.nodup_append]
      refine ⟨h.bn, by simp, ?_⟩
      intro u hu w hw e
      have hw : w = 1 + v := by simpa using hw
      exact c (by rw [← hw, ← e]; exact hu)
def atPV (p : Int × Int) : PV := .tup [.int p.1, .int p.2]
theorem club_l3 {pl : Nat} (h : CS b d ds m m' ns L B R) (hp : m'[pl]? = some (.lst ((L.map Loft.At).map atPV))) (hpl : m.length + 5 ≤ pl) (h0 : 0 ≤ size) (h1 : size ≤ 9999) (hn : ns.length ≤ 100) (hl : R.length ≤ 100) {D : ED} {x7 x8 x9 x11 x12 x13 x14 x15 x16 x17 : Option PV}
    (q : ∀ x12 x13 x14 x15 x16 x17 ns' R' m2, CS b d ds m m2 ns' L B R' → m2[pl]? = some (.lst ((L.map Loft.At).map atPV)) → ns'.length ≤ ns.length + 1 → R'.length ≤ R.length + 1 → (∀ r ∈ R', r ∈ R ∨ RaceOk L r) → D.nx [some (.ref b), some (.int nl), some (.int nb), some (.int nr), some (.ref m.length), some (.ref (m.length + 4)), some (.int size), x7, x8, x9, some (.ref pl), x11, x12, x13, x14, x15, x16, x17] m2) :
    WS (law_club_l3 [some (.ref b), some (.int nl), some (.int nb), some (.int nr), some (.ref m.length), some (.ref (m.length + 4)), some (.int size), x7, x8, x9, some (.ref pl), x11, x12, x13, x14, x15, x16, x17] m') D := by
  have lb := h.lb
  unfold law_club_l3
  rw [s_seq]
  walk_at "w1"
  refine (number_ok h.st h0 h1).mono ?_
  rintro _ m1 ⟨x, rfl, x1, x2, S1, F1⟩
  have C1 := h.go S1 F1
  have P1 := F1.get _ _ (by omega) hp
  walk_at "w1"
  rw [s_seq]
  walk_at "w1"
  refine (number_ok C1.st h0 h1).mono ?_
  rintro _ m2 ⟨y, rfl, y1, y2, S2, F2⟩
  have C2 := C1.go S2 F2
  have P2 := F2.get _ _ (by omega) P1
  walk_at "w1"
  by_cases c : (x, y) ∈ L.map Loft.At
  · rw [nins_r (b := true) ((inD_pair (seq_of_lst P2)).trans (by rw [decide_eq_true c]))]
    walk_at "w1"
    exact q _ _ _ _ _ _ ns R m2 C2 P2 (by omega) (by omega) fun r hr => .inl hr
  rw [nins_r (b := false) ((inD_pair (seq_of_lst P2)).trans (by rw [decide_eq_false c]))]
  walk_at "w1"
  rw [s_seq]
  walk_at "w1"
  refine ⟨isLst_r C2.cn, ?_⟩
  refine (word_ok C2.st C2.cn (by omega) C2.nn).mono ?_
  rintro _ m3 ⟨t, rfl, hN, S3, F3⟩
  have C3 := C2.go S3 F3
  walk_at "w1"
  rw [append_r C3.cn (by rw [List.length_map]; omega)]
  have P3 := get_set_ne (n := m.length) (o := .lst (ns.map .str ++ [.str t])) (F3.get _ _ (by omega) P2) (by omega)
  have C4 := C3.addN t hN
  generalize m3.set m.length (.lst (ns.map .str ++ [.str t])) = m4 at *
  walk_at "w1"
  rw [s_seq]
  walk_at "w1"
  refine (drw C4.st (by decide)).mono ?_
  rintro _ m5 ⟨u1, rfl, u11, u12, S5, F5⟩
  have C5 := C4.go S5 F5
  have P5 := F5.get _ _ (by omega) P3
  walk_at "w1"
  refine (drw C5.st (by decide)).mono ?_
  rintro _ m6 ⟨u2, rfl, u21, u22, S6, F6⟩
  have C6 := C5.go S6 F6
  have P6 := F6.get _ _ (by omega) P5
  walk_at "w1"
  rw [if_pos (.inl (.inl (by decide)))]
  walk_at "w1"
  refine (drw C6.st.push (by decide)).mono ?_
  rintro _ m7 ⟨u3, rfl, u31, u32, S7, F7⟩
  have C7 := (C6.push _).go S7 F7
  have P7 := F7.get _ _ (by omega) (get_old P6)
  obtain ⟨start, e, hst⟩ := pick_int (F7.new C6.st.lt) u31 u32
  rw [e]
  have hst : 0 ≤ start ∧ start ≤ 2997 := by omega
  walk_at "w1"
  rw [s_seq]
  walk_at "w1"
  refine (drw C7.st.push (by decide)).mono ?_
  rintro _ m8 ⟨u4, rfl, u41, u42, S8, F8⟩
  have C8 := (C7.push _).go S8 F8
  have P8 := F8.get _ _ (by omega) (get_old P7)
  obtain ⟨w, e, hw⟩ := pick_int (F8.new C7.st.lt) u41 u42
  rw [e]
  walk_at "w1"
  refine (drw C8.st (by omega)).mono ?_
  rintro _ m9 ⟨u5, rfl, u51, u52, S9, F9⟩
  have C9 := C8.go S9 F9
  have P9 := F9.get _ _ (by omega) P8
  walk_at "w1"
  refine (drw C9.st.push (by decide)).mono ?_
  rintro _ m10 ⟨u6, rfl, u61, u62, S10, F10⟩
  have C10 := (C9.push _).go S10 F10
  have P10 := F10.get _ _ (by omega) (get_old P9)
  obtain ⟨w2, e, hw2⟩ := pick_int (F10.new C9.st.lt) u61 u62
  rw [e]
  walk_at "w1"
  rw [if_pos (.inl (.inl (by omega)))]
  have hcl : 0 ≤ u5 * w2 ∧ u5 * w2 ≤ 3996 := by
    rcases hw2 with rfl | rfl <;> omega
  generalize u5 * w2 = more at *
  walk_at "w1"
  rw [s_seq]
  walk_at "w1"
  refine (drw C10.st (by decide)).mono ?_
  rintro _ m11 ⟨u7, rfl, u71, u72, S11, F11⟩
  have C11 := C10.go S11 F11
  have P11 := F11.get _ _ (by omega) P10
  walk_at "w1"
  refine (drw C11.st (by decide)).mono ?_
  rintro _ m12 ⟨u8, rfl, u81, u82, S12, F12⟩
  have C12 := C11.go S12 F12
  have P12 := F12.get _ _ (by omega) P11
  walk_at "w1"
  rw [if_pos (.inl (.inl (by decide)))]
  have hdu : 0 ≤ u7 + 400 * u8 ∧ u7 + 400 * u8 ≤ 1399 := by omega
  generalize u7 + 400 * u8 = dusk at *
  walk_at "w1"
  rw [s_seq]
  walk_at "w1"
  refine (drw C12.st (by decide)).mono ?_
  rintro _ m13 ⟨u9, rfl, u91, u92, S13, F13⟩
  have C13 := C12.go S13 F13
  have P13 := F13.get _ _ (by omega) P12
  walk_at "w1"
  refine (drw C13.st.push (by decide)).mono ?_
  rintro _ m14 ⟨u10, rfl, u101, u102, S14, F14⟩
  have C14 := (C13.push _).go S14 F14
  have P14 := F14.get _ _ (by omega) (get_old P13)
  walk_at "w1"
  rw [if_pos ⟨by decide, big_of (by decide)⟩, fdiv_pos (by decide)]
  walk_at "w1"
  obtain ⟨dawn, e, hda⟩ := pick_int (F14.new C13.st.lt) (v := u10 / 5) (by omega) (by omega)
  rw [e]
  have hda : 0 ≤ dawn ∧ dawn ≤ 1399 := by omega
  walk_at "w1"
  rw [(sub_cell C14.co).2.2]
  walk_at "w1"
  refine ⟨isLst_r C14.c2, ?_⟩
  rw [last_name C14.cn]
  walk_at "w1"
  rw [append_r C14.c2 (by rw [List.length_map]; omega)]
  walk_at "w1"
  refine q _ _ _ _ _ _ (ns ++ [t]) (R ++ [(⟨t, x, y, start, start + 1 + more, dusk, dawn⟩ : Race)]) _ (C14.addR ⟨t, x, y, start, start + 1 + more, dusk, dawn⟩) ?_ (by simp) (by simp) ?_
  · exact get_set_ne P14 (by omega)
  · intro r hr
    rcases List.mem_append.mp hr with e | e
    · exact .inl e
    · rw [List.mem_singleton.mp e]
      exact .inr ⟨hN, ⟨x1, x2⟩, ⟨y1, y2⟩, hst, ⟨by show start < start + 1 + more; omega, by show start + 1 + more ≤ start + 3997; omega⟩, hdu, hda, c⟩
end
theorem loft_cut (l : Loft) : cut [PV.str l.name, .int l.x, .int l.y] (some 1) none = [.int l.x, .int l.y] := by
  unfold cut
  simp [HT.sIx]
theorem club_ok {b d : Nat} {ds : List Int} {m : MH} {nl nb nr : Int} (h : St b d ds m) (hl : 1 ≤ nl ∧ nl ≤ 6) (hb : 0 ≤ nb ∧ nb ≤ 12) (hr : 1 ≤ nr ∧ nr ≤ 4) :
    WP (f_law_club [.ref b, .int nl, .int nb, .int nr] m) (fun x m' => ∃ L B R, x = clubPV L B R ∧ ClubOk nl nb nr L B R ∧ St b d ds m' ∧ Fr b m m') NoE := by
  have lb := h.lt
  unfold f_law_club b_law_club
  walk_at "w1"
  rw [s_seq]
  walk_at "w1"
  rw [s_seq]
  walk_at "w1"
  simp only [List.length_append, List.length_cons, List.length_nil, Nat.add_assoc, Nat.reduceAdd, List.append_assoc, List.cons_append, List.nil_append, Nat.zero_add, Nat.add_zero]
  have C0 := CS.new h
  generalize m ++ [MO.lst [], .lst [], .lst [], .lst [], .lst [.ref (m.length + 1), .ref (m.length + 2), .ref (m.length + 3)]] = m0 at *
  rw [s_seq]
  walk_at "w1"
  refine (drw C0.st.push (by decide)).mono ?_
  rintro _ m1 ⟨v, rfl, v1, v2, S1, F1⟩
  have C1 := (C0.push _).go S1 F1
  obtain ⟨size, e, hs⟩ := pick_int3 (F1.new C0.st.lt) v1 v2
  rw [e]
  have h0 : 0 ≤ size := by omega
  have h1 : size ≤ 9999 := by omega
  walk_at "w1"
  rw [s_seq]
  refine s_for1W ?_
  walk_at "w1"
  refine (drw C1.st (by omega)).mono ?_
  rintro _ m2 ⟨v, rfl, v1, v2, S2, F2⟩
  have C2 := C1.go S2 F2
  walk_at "w1"
  refine ⟨_, rfl, by omega, by omega, fun i l m' => ∃ ns L x7, l = [some (.ref b), some (.int nl), some (.int nb), some (.int nr), some (.ref m.length), some (.ref (m.length + 4)), some (.int size), x7, none, none, none, none, none, none, none, none, none, none] ∧ CS b d ds m m' ns L [] [] ∧ ns.length = i ∧ L.length = i ∧ ∀ l ∈ L, LoftOk l, ⟨[], [], _, rfl, C2, rfl, rfl, no_mem1⟩, ?_, ?_⟩
  · rintro i l m' hi ⟨ns, L, x7, rfl, C, e1, e2, hL⟩
    walk_at "w1"
    refine club_l1 C h0 h1 (by omega) (by omega) ?_
    intro t m3 ht C3
    exact ⟨_, _, _, rfl, C3, by simp; omega, by simp; omega, fun l hl => (List.mem_append.mp hl).elim (hL l) fun e => by rw [List.mem_singleton.mp e]; exact ht⟩
  rintro l m3 ⟨ns, L, x7, rfl, C3, e1, e2, hL⟩
  walk_at "w1"
  rw [s_seq]
  walk_at "w1"
  rw [s_seq]
  refine s_for1W ?_
  walk_at "w1"
  refine (drw C3.st.push (by omega)).mono ?_
  rintro _ m4 ⟨v', rfl, v1', v2', S4, F4⟩
  have C4 := (C3.push _).go S4 F4
  have R4 := F4.new C3.st.lt
  have hm3 : m.length + 5 ≤ m3.length := by
    have := (List.getElem?_eq_some_iff.mp C3.co).1
    omega
  refine ⟨_, rfl, by omega, by omega, fun i l m' => ∃ B x7 x9, l = [some (.ref b), some (.int nl), some (.int nb), some (.int nr), some (.ref m.length), some (.ref (m.length + 4)), some (.int size), x7, some (.ref m3.length), x9, none, none, none, none, none, none, none, none] ∧ BS b d ds m m' ns L B [] m3.length ∧ B.length ≤ i, ⟨[], _, _, rfl, ⟨C4, R4, hm3, no_mem1, by simp⟩, by simp⟩, ?_, ?_⟩
  · rintro i l m' hi ⟨B, x7, x9, rfl, C, e3⟩
    walk_at "w1"
    refine club_l2 C (by omega) (by omega) ?_
    intro x9 B' m5 C5 e4
    exact ⟨_, _, _, rfl, C5, by omega⟩
  rintro l m5 ⟨B, x7, x9, rfl, C5, e3⟩
  walk_at "w1"
  rw [s_seq]
  walk_at "w1"
  refine w_lcL ?_
  walk_at "w1"
  rw [(sub_cell C5.cs.co).1]
  walk_at "w1"
  have hm5 : m.length + 5 ≤ m5.length := by
    have := (List.getElem?_eq_some_iff.mp C5.cs.co).1
    omega
  refine ⟨_, _, rfl, seq_of_lst C5.cs.c0, fun i acc m' => acc = ((L.take i).map Loft.At).map atPV ∧ CS b d ds m m' ns L B [], ⟨by simp, C5.cs.push _⟩, ?_, ?_⟩
  · rintro i x acc m' hx ha ⟨rfl, C⟩
    refine ⟨seq_of_lst C.c0, ?_⟩
    rw [List.getElem?_map] at hx
    cases hi : L[i]? with
    | none => rw [hi] at hx; cases hx
    | some l =>
      rw [hi] at hx
      cases hx
      have hlt := (List.getElem?_eq_some_iff.mp hi).1
      simp only [wipeP, List.set_cons_succ, List.set_cons_zero]
      walk_at "w1"
      rw [w_yes]
      walk_at "w1"
      unfold Loft.pv
      walk_at "w1"
      rw [loft_cut]
      refine ⟨ha, by simp; omega, ?_, C.oth hm5⟩
      rw [List.take_succ, hi]
      simp
      rfl
  rintro acc m6 ha ⟨rfl, C6⟩
  refine ⟨seq_of_lst C6.c0, ?_⟩
  rw [List.length_map, List.take_length] at ha
  rw [s_seq]
  refine s_for1W ?_
  walk_at "w1"
  refine (drw C6.st (by omega)).mono ?_
  rintro _ m7 ⟨w, rfl, w1, w2, S7, F7⟩
  have C7 := C6.go S7 F7
  have P7 := F7.get _ _ (by omega) ha
  walk_at "w1"
  refine ⟨_, rfl, by omega, by omega, fun i l m' => ∃ ns R x7 x11 x12 x13 x14 x15 x16 x17, l = [some (.ref b), some (.int nl), some (.int nb), some (.int nr), some (.ref m.length), some (.ref (m.length + 4)), some (.int size), x7, some (.ref m3.length), x9, some (.ref m5.length), x11, x12, x13, x14, x15, x16, x17] ∧ CS b d ds m m' ns L B R ∧ m'[m5.length]? = some (.lst ((L.map Loft.At).map atPV)) ∧ ns.length ≤ 20 + i ∧ R.length ≤ i ∧ ∀ r ∈ R, RaceOk L r, ⟨ns, [], _, _, _, _, _, _, _, _, rfl, C7, P7, by omega, by simp, no_mem1⟩, ?_, ?_⟩
  · rintro i l m' hi ⟨ns, R, x7, x11, x12, x13, x14, x15, x16, x17, rfl, C, P, e5, e6, hR⟩
    walk_at "w1"
    refine club_l3 C P hm5 h0 h1 (by omega) (by omega) ?_
    intro x12 x13 x14 x15 x16 x17 ns' R' m8 C8 P8 e7 e8 hR'
    exact ⟨_, _, _, _, _, _, _, _, _, _, rfl, C8, P8, by omega, by omega, fun r hr => (hR' r hr).elim (hR r) id⟩
  rintro l m8 ⟨ns, R, x7, x11, x12, x13, x14, x15, x16, x17, rfl, C8, P8, e5, e6, hR⟩
  walk_at "w1"
  rw [(sub_cell C8.co).1]
  walk_at "w1"
  rw [tuple_r (seq_of_lst C8.c0)]
  walk_at "w1"
  rw [(sub_cell C8.co).2.1]
  walk_at "w1"
  rw [tuple_r (seq_of_lst C8.c1)]
  walk_at "w1"
  rw [(sub_cell C8.co).2.2]
  walk_at "w1"
  rw [tuple_r (seq_of_lst C8.c2)]
  walk_at "w1"
  exact ⟨L, B, R, rfl, ⟨by omega, by omega, by omega, by omega, hL, C5.bx, C5.bn, hR⟩, C8.st, C8.fr⟩
theorem at_map {α : Type} {f : α → PV} {xs : List α} {i : Nat} {x : α} (h : xs[i]? = some x) : atI (xs.map f) ((i : Nat) : Int) = some (f x) :=
  atI_nat (by rw [List.getElem?_map, h]; rfl)
/-- where a turn of the law stands: the time p/q, the flight f/g before -/
structure TI (D W s : Int) (k : Nat) (p q f g : Int) : Prop where
  q0 : 0 < q
  q1 : q ≤ 12 ^ k
  p0 : s * q ≤ p
  p1 : p ≤ (s + 1000 * k) * q
  fl : flv D W s p q = fpv f g
  g0 : 0 < g
  g1 : g ≤ q
  fe : f * q = Nf D W s p q * g
theorem TI.of {D W s p q : Int} {k : Nat} (q0 : 0 < q) (q1 : q ≤ 12 ^ k) (p0 : s * q ≤ p) (p1 : p ≤ (s + 1000 * k) * q) : ∃ f g, TI D W s k p q f g ∧ f.natAbs ≤ (Nf D W s p q).natAbs := by
  obtain ⟨f, g, e1, e2, e3, e4, e5⟩ := lowv_red (p := Nf D W s p q) q0
  exact ⟨f, g, ⟨q0, q1, p0, p1, e1, e2.pos, e5, e3⟩, e4⟩
theorem pow12 {k : Nat} (h : k ≤ 4) : (12 : Int) ^ k ≤ 20736 := by
  match k, h with
  | 0, _ => decide
  | 1, _ => decide
  | 2, _ => decide
  | 3, _ => decide
  | 4, _ => decide
theorem rise {N q N' q' f g u v p p' : Int} (hq : 0 < q) (hg : 0 < g) (hv : 0 < v) (ef : f * q = N * g) (et : p' * (q * v) = (p * v + u * q) * q') (h : N' * q - N * q' ≤ p' * q - p * q') : ¬ (f * v + u * g) * q' < N' * (g * v) := by
  intro z
  have z1 := Int.mul_lt_mul_of_pos_right z hq
  have h1 := Int.mul_le_mul_of_nonneg_right h (Int.le_of_lt (Int.mul_pos hg hv))
  have e1 : (f * v + u * g) * q' * q = (f * q) * v * q' + u * g * q' * q := by grind
  rw [e1, ef] at z1
  have e2 : (N' * q - N * q') * (g * v) = N' * (g * v) * q - N * g * v * q' := by grind
  have e3 : (p' * q - p * q') * (g * v) = g * (p' * (q * v)) - p * q' * g * v := by grind
  rw [e2, e3, et] at h1
  have e4 : g * ((p * v + u * q) * q') - p * q' * g * v = u * g * q' * q := by grind
  omega
theorem goal : Goal := by
  intro ns hns
  suffices h : WP (f_law [.ref 0] [.frz (ns.map .int)]) (fun x m' => x = .bl true) NoE by
    obtain ⟨x, m', e, rfl⟩ := h.run
    exact ⟨m', e⟩
  unfold f_law b_law
  walk_at "w1"
  walk_at "sq"
  refine (digits_ok (m := [.frz (ns.map .int)]) (r := 0) (ns := ns) rfl).mono ?_
  rintro _ _ ⟨ds, rfl, rfl, hd, hdl⟩
  walk_at "w1"
  have hS : St 2 1 ds [MO.frz (ns.map .int), .lst (ds.map .int), .lst [.ref 1, .int 0]] := ⟨hd, 0, rfl, rfl, by decide⟩
  generalize [MO.frz (ns.map .int), .lst (ds.map .int), .lst [.ref 1, .int 0]] = m0 at *
  rw [s_seq]
  walk_at "w1"
  refine (club_ok hS (by decide) (by decide) (by decide)).mono ?_
  rintro _ m1 ⟨L, B, R, rfl, hC, S1, F1⟩
  walk_at "w1"
  rw [s_seq]
  refine s_forTW ?_
  unfold clubPV
  try simp -dsimp only [at0, at1, at2, at3, at4, at5, at6, wp_fn, s_nil, s_brk, s_cnt, s_expr, s_ret, s_retN, s_if, s_asn, s_par, s_asg, g_nm, g_nil, g_cons, g_tupT, g_subW, w_v0, w_vS, w_c, w_op, w_un, w_anil, w_acons, w_tup, w_lst, w_call, w_callU, w_isi, w_meth, w_tru, w_bool, w_notS, w_andS, w_orS, w_ifx, w_andV, w_orV, w_notV, w_chain, wp_ok, wp_bad, wp_some, wp_none, wp_liftif, wp_if, asB_b, wp_noex, add_ii, sub_ii, mul_ii, fdiv_ii, mod_ii, pow_ii, neg_i, cmp_ii, lt_ii, le_ii, gt_ii, ge_ii, le_cc, muls_ii, muls_si, ins_cs, iadd_ii, isub_ii, w_onone, w_osome, w_sl, sl_s, sl_t, s_aug, eq_ss, len_s, ix_s, add_ss, str_s, tuple_t, list_t, is_n, not_n, non_n, non_i, non_b, non_s, non_t, non_r, abs_i, max_ii, min_ii, int_i, int_b, gcd_ii, len_t, ix_t, eq_v, ne_v, eq_ii, eq_bb, eq_nn, eq_in, eq_ni, iv_n_list, iv_n_tuple, iv_n_bool, iv_n_str, iv_n_int, okt_n, iv_b_list, iv_b_tuple, iv_b_bool, iv_b_str, iv_b_int, okt_b, iv_i_list, iv_i_tuple, iv_i_bool, iv_i_str, iv_i_int, okt_i, iv_s_list, iv_s_tuple, iv_s_bool, iv_s_str, iv_s_int, okt_s, iv_t_list, iv_t_tuple, iv_t_bool, iv_t_str, iv_t_int, okt_t, iv_r_list, iv_r_tuple, iv_r_bool, iv_r_str, iv_r_int, tru_b, tru_i, tru_n, tru_t, Option.map_some, Option.map_none, List.map_cons, List.map_nil, List.length_cons, List.length_nil, List.set_cons_zero, List.set_cons_succ, List.cons_append, List.nil_append, List.replicate, Nat.reduceAdd, Nat.reduceSub, Nat.reduceLeDiff, true_and, and_true, decide_eq_true_eq, reduceIte, Bool.false_eq_true, Bool.not_true, Bool.not_false, decide_true, decide_false]
  refine ⟨_, rfl, fun i l m' => ∃ x3 x4 x5 x6 x7 x8 x9, l = [some (.ref 0), some (.ref 2), some (.tup [.tup (L.map Loft.pv), .tup (B.map Bird.pv), .tup (R.map Race.pv)]), x3, x4, x5, x6, x7, x8, x9] ∧ St 2 1 ds m', ⟨_, _, _, _, _, _, _, rfl, S1⟩, ?_, ?_⟩
  · rintro i x l m2 hx ⟨x3, x4, x5, x6, x7, x8, x9, rfl, S2⟩
    rw [List.getElem?_map] at hx
    cases er : R[i]? with
    | none => rw [er] at hx; cases hx
    | some r =>
    rw [er] at hx
    cases hx
    have ro := hC.rx _ (List.mem_of_getElem? er)
    have os := ro.start
    have hD : 0 ≤ r.dusk ∧ r.dusk ≤ 1439 := by have := ro.dusk; omega
    have hW : 0 ≤ r.dawn ∧ r.dawn ≤ 1439 := by have := ro.dawn; omega
    have hfl := fun (p q : Int) (hq : 0 < q) (hq2 : q ≤ 65536) (m : MH) => flight_ok (s := r.start) (p := p) (q := q) (m := m) (x1 := .str r.name) (x2 := .int r.x) (x3 := .int r.y) (x5 := .int r.close) hq (by omega) hD hW
    have hlf := fun (p q : Int) (hq : 0 < q) (hq2 : q ≤ 65536) (h : r.start * q ≤ p) (hp : p ≤ 30000 * q) (m : MH) => lflight_ok (s := r.start) (p := p) (q := q) (m := m) (x1 := .str r.name) (x2 := .int r.x) (x3 := .int r.y) (x5 := .int r.close) hq hq2 os.1 h hp hD hW
    unfold law_l2 Race.pv
    try simp -dsimp only [at0, at1, at2, at3, at4, at5, at6, wp_fn, s_nil, s_brk, s_cnt, s_expr, s_ret, s_retN, s_if, s_asn, s_par, s_asg, g_nm, g_nil, g_cons, g_tupT, g_subW, w_v0, w_vS, w_c, w_op, w_un, w_anil, w_acons, w_tup, w_lst, w_call, w_callU, w_isi, w_meth, w_tru, w_bool, w_notS, w_andS, w_orS, w_ifx, w_andV, w_orV, w_notV, w_chain, wp_ok, wp_bad, wp_some, wp_none, wp_liftif, wp_if, asB_b, wp_noex, add_ii, sub_ii, mul_ii, fdiv_ii, mod_ii, pow_ii, neg_i, cmp_ii, lt_ii, le_ii, gt_ii, ge_ii, le_cc, muls_ii, muls_si, ins_cs, iadd_ii, isub_ii, w_onone, w_osome, w_sl, sl_s, sl_t, s_aug, eq_ss, len_s, ix_s, add_ss, str_s, tuple_t, list_t, is_n, not_n, non_n, non_i, non_b, non_s, non_t, non_r, abs_i, max_ii, min_ii, int_i, int_b, gcd_ii, len_t, ix_t, eq_v, ne_v, eq_ii, eq_bb, eq_nn, eq_in, eq_ni, iv_n_list, iv_n_tuple, iv_n_bool, iv_n_str, iv_n_int, okt_n, iv_b_list, iv_b_tuple, iv_b_bool, iv_b_str, iv_b_int, okt_b, iv_i_list, iv_i_tuple, iv_i_bool, iv_i_str, iv_i_int, okt_i, iv_s_list, iv_s_tuple, iv_s_bool, iv_s_str, iv_s_int, okt_s, iv_t_list, iv_t_tuple, iv_t_bool, iv_t_str, iv_t_int, okt_t, iv_r_list, iv_r_tuple, iv_r_bool, iv_r_str, iv_r_int, tru_b, tru_i, tru_n, tru_t, Option.map_some, Option.map_none, List.map_cons, List.map_nil, List.length_cons, List.length_nil, List.set_cons_zero, List.set_cons_succ, List.cons_append, List.nil_append, List.replicate, Nat.reduceAdd, Nat.reduceSub, Nat.reduceLeDiff, true_and, and_true, decide_eq_true_eq, reduceIte, Bool.false_eq_true, Bool.not_true, Bool.not_false, decide_true, decide_false]
    rw [s_seq]
    try simp -dsimp only [at0, at1, at2, at3, at4, at5, at6, wp_fn, s_nil, s_brk, s_cnt, s_expr, s_ret, s_retN, s_if, s_asn, s_par, s_asg, g_nm, g_nil, g_cons, g_tupT, g_subW, w_v0, w_vS, w_c, w_op, w_un, w_anil, w_acons, w_tup, w_lst, w_call, w_callU, w_isi, w_meth, w_tru, w_bool, w_notS, w_andS, w_orS, w_ifx, w_andV, w_orV, w_notV, w_chain, wp_ok, wp_bad, wp_some, wp_none, wp_liftif, wp_if, asB_b, wp_noex, add_ii, sub_ii, mul_ii, fdiv_ii, mod_ii, pow_ii, neg_i, cmp_ii, lt_ii, le_ii, gt_ii, ge_ii, le_cc, muls_ii, muls_si, ins_cs, iadd_ii, isub_ii, w_onone, w_osome, w_sl, sl_s, sl_t, s_aug, eq_ss, len_s, ix_s, add_ss, str_s, tuple_t, list_t, is_n, not_n, non_n, non_i, non_b, non_s, non_t, non_r, abs_i, max_ii, min_ii, int_i, int_b, gcd_ii, len_t, ix_t, eq_v, ne_v, eq_ii, eq_bb, eq_nn, eq_in, eq_ni, iv_n_list, iv_n_tuple, iv_n_bool, iv_n_str, iv_n_int, okt_n, iv_b_list, iv_b_tuple, iv_b_bool, iv_b_str, iv_b_int, okt_b, iv_i_list, iv_i_tuple, iv_i_bool, iv_i_str, iv_i_int, okt_i, iv_s_list, iv_s_tuple, iv_s_bool, iv_s_str, iv_s_int, okt_s, iv_t_list, iv_t_tuple, iv_t_bool, iv_t_str, iv_t_int, okt_t, iv_r_list, iv_r_tuple, iv_r_bool, iv_r_str, iv_r_int, tru_b, tru_i, tru_n, tru_t, Option.map_some, Option.map_none, List.map_cons, List.map_nil, List.length_cons, List.length_nil, List.set_cons_zero, List.set_cons_succ, List.cons_append, List.nil_append, List.replicate, Nat.reduceAdd, Nat.reduceSub, Nat.reduceLeDiff, true_and, and_true, decide_eq_true_eq, reduceIte, Bool.false_eq_true, Bool.not_true, Bool.not_false, decide_true, decide_false]
    rw [s_seq]
    try simp -dsimp only [at0, at1, at2, at3, at4, at5, at6, wp_fn, s_nil, s_brk, s_cnt, s_expr, s_ret, s_retN, s_if, s_asn, s_par, s_asg, g_nm, g_nil, g_cons, g_tupT, g_subW, w_v0, w_vS, w_c, w_op, w_un, w_anil, w_acons, w_tup, w_lst, w_call, w_callU, w_isi, w_meth, w_tru, w_bool, w_notS, w_andS, w_orS, w_ifx, w_andV, w_orV, w_notV, w_chain, wp_ok, wp_bad, wp_some, wp_none, wp_liftif, wp_if, asB_b, wp_noex, add_ii, sub_ii, mul_ii, fdiv_ii, mod_ii, pow_ii, neg_i, cmp_ii, lt_ii, le_ii, gt_ii, ge_ii, le_cc, muls_ii, muls_si, ins_cs, iadd_ii, isub_ii, w_onone, w_osome, w_sl, sl_s, sl_t, s_aug, eq_ss, len_s, ix_s, add_ss, str_s, tuple_t, list_t, is_n, not_n, non_n, non_i, non_b, non_s, non_t, non_r, abs_i, max_ii, min_ii, int_i, int_b, gcd_ii, len_t, ix_t, eq_v, ne_v, eq_ii, eq_bb, eq_nn, eq_in, eq_ni, iv_n_list, iv_n_tuple, iv_n_bool, iv_n_str, iv_n_int, okt_n, iv_b_list, iv_b_tuple, iv_b_bool, iv_b_str, iv_b_int, okt_b, iv_i_list, iv_i_tuple, iv_i_bool, iv_i_str, iv_i_int, okt_i, iv_s_list, iv_s_tuple, iv_s_bool, iv_s_str, iv_s_int, okt_s, iv_t_list, iv_t_tuple, iv_t_bool, iv_t_str, iv_t_int, okt_t, iv_r_list, iv_r_tuple, iv_r_bool, iv_r_str, iv_r_int, tru_b, tru_i, tru_n, tru_t, Option.map_some, Option.map_none, List.map_cons, List.map_nil, List.length_cons, List.length_nil, List.set_cons_zero, List.set_cons_succ, List.cons_append, List.nil_append, List.replicate, Nat.reduceAdd, Nat.reduceSub, Nat.reduceLeDiff, true_and, and_true, decide_eq_true_eq, reduceIte, Bool.false_eq_true, Bool.not_true, Bool.not_false, decide_true, decide_false]
    obtain ⟨f0, g0, T0, _⟩ := TI.of (D := r.dusk) (W := r.dawn) (s := r.start) (p := r.start) (q := 1) (k := 0) (by decide) (by decide) (by omega) (by omega)
    have ez : fpv f0 g0 = fpv 0 1 := by
      rw [← T0.fl]
      unfold flv Nf
      exact lowv_eq (by decide) (Fq.one _) (by grind)
    refine s_for1 (j := 4) 4 rfl rfl (by decide) (by decide) (fun k l m' => ∃ p q f g x6 x7 x8 x9, l = [some (.ref 0), some (.ref 2), some (.tup [.tup (L.map Loft.pv), .tup (B.map Bird.pv), .tup (R.map Race.pv)]), some (.tup [.str r.name, .int r.x, .int r.y, .int r.start, .int r.close, .int r.dusk, .int r.dawn]), some (fpv p q), some (fpv f g), x6, x7, x8, x9] ∧ St 2 1 ds m' ∧ TI r.dusk r.dawn r.start k p q f g) ⟨r.start, 1, f0, g0, _, _, _, _, by rw [ez]; rfl, S2, T0⟩ ?_ ?_
    · rintro k l m3 hk ⟨p, q, f, g, x6, x7, x8, x9, rfl, S3, T⟩
      have q0 := T.q0; have q1 := T.q1; have p0 := T.p0; have p1 := T.p1; have g0 := T.g0; have g1 := T.g1
      have hk1 := pow12 (k := k) (by omega)
      have hk2 := pow12 (k := k + 1) (by omega)
      have hq2 : q ≤ 20736 := by omega
      unfold law_l1
      walk_at "w1"
      rw [s_seq]
      walk_at "w1"
      refine (drw S3 (by decide)).mono ?_
      rintro _ m4 ⟨v1, rfl, v11, v12, S4, F4⟩
      walk_at "w1"
      rw [s_seq]
      walk_at "w1"
      refine (drw S4 (by decide)).mono ?_
      rintro _ m5 ⟨v2, rfl, v21, v22, S5, F5⟩
      walk_at "w1"
      rw [if_pos (.inl (.inl (by omega)))]
      refine (drw S5 (by omega)).mono ?_
      rintro _ m6 ⟨v3, rfl, v31, v32, S6, F6⟩
      walk_at "w1"
      have z1 : 0 ≤ v2 * (1 + v1) := Int.mul_nonneg v21 (by omega)
      have z2 : v2 * (1 + v1) ≤ 999 * (1 + v1) := Int.mul_le_mul_of_nonneg_right (by omega) (by omega)
      refine (low_ok (by omega) (by omega) (by omega)).mono ?_
      rintro _ m6 ⟨rfl, rfl⟩
      obtain ⟨u, v, e1, e2, e3, e4, e5⟩ := lowv_red (p := v2 * (1 + v1) + v3) (q := 1 + v1) (by omega)
      have vp := e2.pos
      have up : 0 ≤ u := by
        refine Int.le_of_mul_le_mul_right (a := 1 + v1) ?_ (by omega)
        rw [e3, Int.zero_mul]
        exact Int.mul_nonneg (by omega) (by omega)
      have uv : u ≤ 1000 * v := by
        refine Int.le_of_mul_le_mul_right (a := 1 + v1) ?_ (by omega)
        rw [e3]
        have : (v2 * (1 + v1) + v3) * v ≤ 1000 * (1 + v1) * v := Int.mul_le_mul_of_nonneg_right (by omega) (by omega)
        have e7 : 1000 * v * (1 + v1) = 1000 * (1 + v1) * v := by grind
        omega
      rw [e1]
      walk_at "w1"
      rw [s_seq]
      walk_at "w1"
      have pb : 0 ≤ p ∧ p ≤ 7000 * 20736 := by
        have a1 : 0 ≤ r.start * q := Int.mul_nonneg os.1 (by omega)
        have a2 : (r.start + 1000 * (k : Nat)) * q ≤ 7000 * 20736 := Int.mul_le_mul (by omega) hq2 (by omega) (by decide)
        omega
      refine (lplus_ok (p := p) (q := q) (r := u) (s := v) q0 vp (by omega) (by omega) (by omega) (by omega)).mono ?_
      rintro _ m6 ⟨rfl, rfl⟩
      obtain ⟨p', q', y1, y2, y3, y4, y5⟩ := lowv_red (p := p * v + u * q) (q := q * v) (Int.mul_pos q0 vp)
      have q0' := y2.pos
      have qv : q * v ≤ 12 ^ (k + 1) := by
        rw [Int.pow_succ]
        exact Int.mul_le_mul q1 (by omega) (by omega) (by omega)
      have huq : 0 ≤ u * q := Int.mul_nonneg up (by omega)
      have hqv := Int.mul_pos q0 vp
      have lt : p * q' ≤ p' * q := by
        refine Int.le_of_mul_le_mul_right (a := q * v) ?_ hqv
        have a1 : p' * q * (q * v) = (p' * (q * v)) * q := by grind
        have a2 : (p * v + u * q) * q' * q = p * q' * (q * v) + u * q * (q' * q) := by grind
        have a3 : 0 ≤ u * q * (q' * q) := Int.mul_nonneg huq (Int.mul_nonneg (by omega) (by omega))
        rw [a1, y3, a2]
        omega
      have p0' : r.start * q' ≤ p' := by
        refine Int.le_of_mul_le_mul_right (a := q) ?_ q0
        have a1 := Int.mul_le_mul_of_nonneg_right p0 (Int.le_of_lt q0')
        have a2 : r.start * q' * q = r.start * q * q' := by grind
        omega
      have p1' : p' ≤ (r.start + 1000 * ((k + 1 : Nat) : Int)) * q' := by
        refine Int.le_of_mul_le_mul_right (a := q * v) ?_ hqv
        rw [y3]
        have a1 := Int.mul_le_mul_of_nonneg_right p1 (Int.le_of_lt vp)
        have a2 := Int.mul_le_mul_of_nonneg_right uv (Int.le_of_lt q0)
        have a3 : (p * v + u * q) * q' ≤ ((r.start + 1000 * (k : Nat)) * q * v + 1000 * v * q) * q' := Int.mul_le_mul_of_nonneg_right (by omega) (by omega)
        have a4 : (r.start + 1000 * ((k + 1 : Nat) : Int)) * q' * (q * v) = ((r.start + 1000 * (k : Nat)) * q * v + 1000 * v * q) * q' := by
          rw [show ((k + 1 : Nat) : Int) = (k : Int) + 1 by omega]
          grind
        omega
      have pb' : p' ≤ 30000 * q' := by
        have : (r.start + 1000 * ((k + 1 : Nat) : Int)) * q' ≤ 30000 * q' := Int.mul_le_mul_of_nonneg_right (by omega) (by omega)
        omega
      obtain ⟨f', g', T', hf'⟩ := TI.of (D := r.dusk) (W := r.dawn) (s := r.start) (p := p') (q := q') (k := k + 1) q0' (by omega) p0' p1'
      have g0' := T'.g0
      have mono := Nf_mono (D := r.dusk) (W := r.dawn) (s := r.start) hD hW q0 q0' lt
      rw [y1]
      walk_at "w1"
      rw [s_seq]
      walk_at "w1"
      refine (hfl p' q' q0' (by omega) _).mono ?_
      rintro _ m6 ⟨rfl, rfl⟩
      walk_at "w1"
      rw [s_seq]
      walk_at "w1"
      refine (hlf p' q' q0' (by omega) p0' pb' _).mono ?_
      rintro _ m6 ⟨rfl, rfl⟩
      rw [T'.fl]
      walk_at "w1"
      refine (same_ok same_fpv).mono ?_
      rintro _ m6 ⟨rfl, rfl⟩
      walk_at "w1"
      have g1' := T'.g1
      refine (lless_ok (p := f') (q := g') (r := f) (s := g) (by omega) (by omega)).mono ?_
      rintro _ m6 ⟨rfl, rfl⟩
      rw [decide_eq_false (show ¬ f' * g < f * g' from fun z => by
        have := (lt_red g0' g0 q0' q0 T'.fe T.fe).mp z
        omega)]
      walk_at "w1"
      rw [s_seq]
      walk_at "w1"
      have fb : f.natAbs ≤ 7000 * 20736 := by
        have n1 := Nf_pos (D := r.dusk) (W := r.dawn) hD hW q0 p0
        have a0 : 0 ≤ r.start * q := Int.mul_nonneg os.1 (by omega)
        have a1 : 0 ≤ f := by
          refine Int.le_of_mul_le_mul_right (a := q) ?_ q0
          rw [T.fe, Int.zero_mul]
          exact Int.mul_nonneg n1.1 (by omega)
        have a2 : f ≤ Nf r.dusk r.dawn r.start p q := by
          refine Int.le_of_mul_le_mul_right (a := q) ?_ q0
          rw [T.fe]
          exact Int.mul_le_mul_of_nonneg_left g1 n1.1
        omega
      refine (lplus_ok (p := f) (q := g) (r := u) (s := v) g0 vp (by omega) (by omega) (by omega) (by omega)).mono ?_
      rintro _ m6 ⟨rfl, rfl⟩
      obtain ⟨h1, h2, t1, t2, t3, t4, t5⟩ := lowv_red (p := f * v + u * g) (q := g * v) (Int.mul_pos g0 vp)
      have h20 := t2.pos
      have gv : g * v ≤ q * v := Int.mul_le_mul_of_nonneg_right g1 (by omega)
      rw [t1]
      walk_at "w1"
      refine (lless_ok (p := h1) (q := h2) (r := f') (s := g') (by omega) (by omega)).mono ?_
      rintro _ m6 ⟨rfl, rfl⟩
      rw [decide_eq_false (show ¬ h1 * g' < f' * h2 from fun z => by
        have := (lt_red h20 g0' (Int.mul_pos g0 vp) q0' t3 T'.fe).mp z
        exact rise q0 g0 vp T.fe y3 mono.2 this)]
      walk_at "w1"
      exact ⟨p', q', f', g', _, _, _, _, rfl, S6, T'⟩
    · rintro l m3 ⟨p, q, f, g, x6, x7, x8, x9, rfl, S3, T⟩
      exact ⟨_, _, _, _, _, _, _, rfl, S3⟩
  · rintro l m2 ⟨x3, x4, x5, x6, x7, x8, x9, rfl, S2⟩
    walk_at "w1"
end Lw

open PySem PySem.W PyProof.Rows
set_option maxHeartbeats 0 in
theorem PySem.Challenge.cw_homingtrue_k11_flights_holds : PySem.Challenge.rw_homingtrue_k11_flights.Holds := by
  w_on; o_law; k_head; (case hw => w_witness2)
  k_fill
  refine L2.walk_of (l := PySem.Challenge.rw_homingtrue_k11_flights) (n := 63) (k := 10) (x := "script") (CX := fun _ => L2.CX0) (sp := fun w => SM.SpQ _ 1 Lw.f_law) rfl (by decide) rfl ⟨rfl, by decide, by decide⟩ (fun w h Y => PySem.W.kIn_of Y) ?F (fun _ _ a ns hl ho hS => let ⟨_, e⟩ := Lw.goal ns hl; SM.law_sp e ho hS) (fun _ _ _ _ _ h => h)
  case F =>
    intro w mg fa h KX G hmg
    refine' Lw.all_mk KX G hmg ?a0 ?l0 ?c0 ?k0 ?a1 ?l1 ?c1 ?k1 ?a2 ?l2 ?c2 ?k2 ?a3 ?l3 ?c3 ?k3 ?a4 ?l4 ?c4 ?k4 ?a5 ?l5 ?c5 ?k5 ?a6 ?l6 ?c6 ?k6 ?a7 ?l7 ?c7 ?k7 ?a8 ?l8 ?c8 ?k8 ?a9 ?l9 ?c9 ?k9 ?a10 ?l10 ?c10 ?k10 ?a11 ?l11 ?c11 ?k11 ?a12 ?l12 ?c12 ?k12 ?a13 ?l13 ?c13 ?k13 ?a14 ?l14 ?c14 ?k14 ?a15 ?l15 ?c15 ?k15 ?a16 ?l16 ?c16 ?k16 ?a17 ?l17 ?c17 ?k17 ?a18 ?l18 ?c18 ?k18 ?a19 ?l19 ?c19 ?k19 ?a20 ?l20 ?c20 ?k20 ?z_len ?z_int ?z_range ?z_tuple ?z_abs ?z_isinstance ?z_list ?z_bool ?z_str ?z_min ?z_max ?z_gcd ?z_DAY
    (case a0 => k_is); (case l0 => k_is); (case c0 => k_is); (case k0 => k_is); (case a1 => k_is); (case l1 => k_is); (case c1 => k_is); (case k1 => k_is); (case a2 => k_is); (case l2 => k_is); (case c2 => k_is); (case k2 => k_is); (case a3 => k_is); (case l3 => k_is); (case c3 => k_is); (case k3 => k_is); (case a4 => k_is); (case l4 => k_is); (case c4 => k_is); (case k4 => k_is); (case a5 => k_is); (case l5 => k_is); (case c5 => k_is); (case k5 => k_is); (case a6 => k_is); (case l6 => k_is); (case c6 => k_is); (case k6 => k_is); (case a7 => k_is); (case l7 => k_is); (case c7 => k_is); (case k7 => k_is); (case a8 => k_is); (case l8 => k_is); (case c8 => k_is); (case k8 => k_is); (case a9 => k_is); (case l9 => k_is); (case c9 => k_is); (case k9 => k_is); (case a10 => k_is); (case l10 => k_is); (case c10 => k_is); (case k10 => k_is); (case a11 => k_is); (case l11 => k_is); (case c11 => k_is); (case k11 => k_is); (case a12 => k_is); (case l12 => k_is); (case c12 => k_is); (case k12 => k_is); (case a13 => k_is); (case l13 => k_is); (case c13 => k_is); (case k13 => k_is); (case a14 => k_is); (case l14 => k_is); (case c14 => k_is); (case k14 => k_is); (case a15 => k_is); (case l15 => k_is); (case c15 => k_is); (case k15 => k_is); (case a16 => k_is); (case l16 => k_is); (case c16 => k_is); (case k16 => k_is); (case a17 => k_is); (case l17 => k_is); (case c17 => k_is); (case k17 => k_is); (case a18 => k_is); (case l18 => k_is); (case c18 => k_is); (case k18 => k_is); (case a19 => k_is); (case l19 => k_is); (case c19 => k_is); (case k19 => k_is); (case a20 => k_is); (case l20 => k_is); (case c20 => k_is); (case k20 => k_is); (case z_len => k_is); (case z_int => k_is); (case z_range => k_is); (case z_tuple => k_is); (case z_abs => k_is); (case z_isinstance => k_is); (case z_list => k_is); (case z_bool => k_is); (case z_str => k_is); (case z_min => k_is); (case z_max => k_is); (case z_gcd => k_is); (case z_DAY => k_is)

