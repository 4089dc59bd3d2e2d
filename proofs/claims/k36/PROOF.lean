import PyProof.Rows.All
import Wide.All
import OpenK.AllK
import Wide.FinOn
import HandS.ForSpec
import HandS.Gcd
import HandS.IsInst
import HandS.Wide
import HandS.TupAny
import HandS.Deep
import HandS.NoneIn
import HandS.Walk
import HandS.Text
import HandS.Comp
import HandS.Steps
import HandS.HeadHook1
import HandS.RaiseMore
import HandS.SortInts
import HandS.More
import HandS.ExcInit
import HandS.ExcField
import HandS.ExcOwn
import HandS.WordsExc
import KE.GoesEnum
import HandS.Iter
import HandS.HotCalls
import KE.SortData
import KE.KTupSum
import HandS.DictEq
import HandS.Conv
import KE.SortKeyHeap
import HandS.SortKw
import HandS.Keys
import PyProof.Rows.PlainStore
import PySem.Challenge.RW_homingtrue_k36_who_can_be_ahead
set_option Elab.async false
set_option linter.all false
set_option maxRecDepth 100000
set_option maxHeartbeats 1000000
namespace SM
open PySem PySem.Spec PyProof.Rows L2

/-! values of the reckoning, its heap -/
inductive PV where
  | non | bl (b : Bool) | int (i : Int) | str (s : List Nat) | tup (xs : List PV) | ref (n : Nat)
inductive MO where
  | lst (xs : List PV) | frz (xs : List PV) | dct (kvs : List (List Int × PV)) | dck (kvs : List (Int × PV)) | frk (kvs : List (Int × PV))
abbrev MH := List MO
abbrev Loc := List (Option PV)
inductive R (α : Type) where
  | ok (a : α) (m : MH) | ex (c : String) (fs : List PV) (m : MH) | bad
inductive RS where
  | nx (l : Loc) (m : MH) | rt (x : PV) (m : MH) | bk (l : Loc) (m : MH) | ct (l : Loc) (m : MH) | ex (c : String) (fs : List PV) (l : Loc) (m : MH) | bad
def R.bind {α β : Type} (r : R α) (k : α → MH → R β) : R β := match r with
  | .ok a m => k a m
  | .ex c fs m => .ex c fs m
  | .bad => .bad
/-- the statement's end from an expression's -/
def R.then (l : Loc) (r : R α) (k : α → MH → RS) : RS := match r with
  | .ok a m => k a m
  | .ex c fs m => .ex c fs l m
  | .bad => .bad
def RS.seq (r : RS) (k : Loc → MH → RS) : RS := match r with
  | .nx l m => k l m
  | r => r
abbrev SE := Loc → MH → R PV
abbrev SB := Loc → MH → R Bool
abbrev SA := Loc → MH → R (List PV)
abbrev SS := Loc → MH → RS

/-! what stands for what -/
section
variable (K : PySem.W.Frag) (H : Hp) (φ : List Addr)
mutual
def RV : PV → V → Prop
  | .non, v => v = .non
  | .bl b, v => v = .bl b
  | .int i, v => v = .int i
  | .str s, v => v = .str ⟨s.toArray⟩
  | .tup xs, v => ∃ a vs, v = .ref a ∧ SqT K H a vs ∧ RVs xs vs
  | .ref n, v => ∃ a, φ[n]? = some a ∧ v = .ref a
def RVs : List PV → List V → Prop
  | [], vs => vs = []
  | x :: xs, vs => ∃ v r, vs = v :: r ∧ RV x v ∧ RVs xs r
end
def SqF (a : Addr) (xs : List V) : Prop := (∃ o, H a = some (.frz o (.lst xs))) ∨
  ∃ (o : Obj) (its : Array Value) (n : Nat), K.lookup a = some o ∧ o.cls = .type "list" ∧ o.dict = none ∧ o.data = .seq its n ∧ its.size ≤ sizeLine ∧ Vals xs its.toList
/-- entries of a dict -/
def RKs {κ κ' : Type} (enc : κ → κ') : List (κ × PV) → List (κ' × V) → Prop
  | [], ws => ws = []
  | p :: r, ws => ∃ v t, ws = (enc p.1, v) :: t ∧ RV K H φ p.2 v ∧ RKs enc r t
def encT (k : List Int) : List Key := k.map Sum.inl
def encK (k : Int) : Key := Sum.inl k
def RO : MO → Addr → Prop
  | .lst xs, a => ∃ vs, H a = some (.lst vs) ∧ RVs K H φ xs vs
  | .frz xs, a => ∃ vs, SqF K H a vs ∧ RVs K H φ xs vs
  | .dct kvs, a => ∃ ws, H a = some (.dT ws) ∧ RKs K H φ encT kvs ws
  | .dck kvs, a => ∃ ws, H a = some (.dK ws) ∧ RKs K H φ encK kvs ws
  | .frk kvs, a => ∃ od ws, H a = some (.frz od (.dK ws)) ∧ RKs K H φ encK kvs ws
def MO.mut : MO → Bool
  | .frz _ => false
  | _ => true
structure RH (m : MH) : Prop where
  len : φ.length = m.length
  nd : ∀ (i j : Nat) (a : Addr) (o u : MO), φ[i]? = some a → φ[j]? = some a → m[i]? = some o → m[j]? = some u → o.mut = true → u.mut = true → i = j
  obj : ∀ (n : Nat) (a : Addr) (o : MO), φ[n]? = some a → m[n]? = some o → RO K H φ o a
def RL (l : Loc) (σ : L2.St) : Prop := l.length = σ.length ∧ ∀ (i : Nat) (x : PV), l[i]? = some (some x) → ∃ v, σ[i]? = some (some v) ∧ RV K H φ x v
end
structure Ext (K : PySem.W.Frag) (φ : List Addr) (H : Hp) (φ' : List Addr) (H' : Hp) : Prop where
  pre : ∃ e, φ' = φ ++ e
  tup : ∀ a vs, SqT K H a vs → SqT K H' a vs
  frz : ∀ a od (ws : List (Key × V)), H a = some (.frz od (.dK ws)) → H' a = some (.frz od (.dK ws))
section
variable {K : PySem.W.Frag} {H H' H'' : Hp} {φ φ' φ'' : List Addr}
theorem Ext.refl : Ext K φ H φ H := ⟨⟨[], by simp⟩, fun _ _ h => h, fun _ _ _ h => h⟩
theorem Ext.trans (a : Ext K φ H φ' H') (b : Ext K φ' H' φ'' H'') : Ext K φ H φ'' H'' := by
  obtain ⟨e1, h1⟩ := a.pre
  obtain ⟨e2, h2⟩ := b.pre
  exact ⟨⟨e1 ++ e2, by rw [h2, h1, List.append_assoc]⟩, fun x vs h => b.tup x vs (a.tup x vs h), fun x od ws h => b.frz x od ws (a.frz x od ws h)⟩
theorem Ext.get (e : Ext K φ H φ' H') {n : Nat} {a : Addr} (h : φ[n]? = some a) : φ'[n]? = some a := by
  obtain ⟨w, rfl⟩ := e.pre
  have hl : n < φ.length := (List.getElem?_eq_some_iff.mp h).1
  rw [List.getElem?_append_left hl]; exact h
mutual
theorem RV.ext (e : Ext K φ H φ' H') : ∀ {x : PV} {v : V}, RV K H φ x v → RV K H' φ' x v
  | .non, _, h => h
  | .bl _, _, h => h
  | .int _, _, h => h
  | .str _, _, h => h
  | .tup xs, v, h => by
    obtain ⟨a, vs, h1, h2, h3⟩ := h
    exact ⟨a, vs, h1, e.tup _ _ h2, RVs.ext e h3⟩
  | .ref n, v, h => by
    obtain ⟨a, h1, h2⟩ := h
    exact ⟨a, e.get h1, h2⟩
theorem RVs.ext (e : Ext K φ H φ' H') : ∀ {xs : List PV} {vs : List V}, RVs K H φ xs vs → RVs K H' φ' xs vs
  | [], _, h => h
  | x :: xs, vs, h => by
    obtain ⟨v, r, h1, h2, h3⟩ := h
    exact ⟨v, r, h1, RV.ext e h2, RVs.ext e h3⟩
end
theorem RKs.ext {κ κ' : Type} {enc : κ → κ'} (e : Ext K φ H φ' H') : ∀ {kvs : List (κ × PV)} {ws : List (κ' × V)}, RKs K H φ enc kvs ws → RKs K H' φ' enc kvs ws
  | [], _, h => h
  | p :: r, _, h => by
    obtain ⟨v, t, h1, h2, h3⟩ := h
    exact ⟨v, t, h1, h2.ext e, RKs.ext e h3⟩
theorem RL.ext {l : Loc} {σ : L2.St} (e : Ext K φ H φ' H') (h : RL K H φ l σ) : RL K H' φ' l σ := ⟨h.1, fun i x hx => by
  obtain ⟨v, h1, h2⟩ := h.2 i x hx
  exact ⟨v, h1, h2.ext e⟩⟩
/-- the weaker link: what is known of addresses and tuples stays -/
structure ExtT (K : PySem.W.Frag) (φ : List Addr) (H : Hp) (φ' : List Addr) (H' : Hp) : Prop where
  pre : ∃ e, φ' = φ ++ e
  tup : ∀ a vs, SqT K H a vs → SqT K H' a vs
theorem ExtT.get (e : ExtT K φ H φ' H') {n : Nat} {a : Addr} (h : φ[n]? = some a) : φ'[n]? = some a := by
  obtain ⟨w, rfl⟩ := e.pre
  have hl : n < φ.length := (List.getElem?_eq_some_iff.mp h).1
  rw [List.getElem?_append_left hl]; exact h
theorem Ext.t (e : Ext K φ H φ' H') : ExtT K φ H φ' H' := ⟨e.pre, e.tup⟩
mutual
theorem RV.extT (e : ExtT K φ H φ' H') : ∀ {x : PV} {v : V}, RV K H φ x v → RV K H' φ' x v
  | .non, _, h => h
  | .bl _, _, h => h
  | .int _, _, h => h
  | .str _, _, h => h
  | .tup xs, v, h => by
    obtain ⟨a, vs, h1, h2, h3⟩ := h
    exact ⟨a, vs, h1, e.tup _ _ h2, RVs.extT e h3⟩
  | .ref n, v, h => by
    obtain ⟨a, h1, h2⟩ := h
    exact ⟨a, e.get h1, h2⟩
theorem RVs.extT (e : ExtT K φ H φ' H') : ∀ {xs : List PV} {vs : List V}, RVs K H φ xs vs → RVs K H' φ' xs vs
  | [], _, h => h
  | x :: xs, vs, h => by
    obtain ⟨v, r, h1, h2, h3⟩ := h
    exact ⟨v, r, h1, RV.extT e h2, RVs.extT e h3⟩
end
theorem RKs.extT {κ κ' : Type} {enc : κ → κ'} (e : ExtT K φ H φ' H') : ∀ {kvs : List (κ × PV)} {ws : List (κ' × V)}, RKs K H φ enc kvs ws → RKs K H' φ' enc kvs ws
  | [], _, h => h
  | p :: r, _, h => by
    obtain ⟨v, t, h1, h2, h3⟩ := h
    exact ⟨v, t, h1, h2.extT e, RKs.extT e h3⟩
theorem RL.extT {l : Loc} {σ : L2.St} (e : ExtT K φ H φ' H') (h : RL K H φ l σ) : RL K H' φ' l σ := ⟨h.1, fun i x hx => by
  obtain ⟨v, h1, h2⟩ := h.2 i x hx
  exact ⟨v, h1, h2.extT e⟩⟩
theorem RVs.length : ∀ {xs : List PV} {vs : List V}, RVs K H φ xs vs → vs.length = xs.length
  | [], _, h => by cases h; rfl
  | x :: xs, vs, h => by
    obtain ⟨v, r, rfl, h2, h3⟩ := h
    simp [RVs.length h3]
theorem RVs.get : ∀ {xs : List PV} {vs : List V} {i : Nat} {x : PV}, RVs K H φ xs vs → xs[i]? = some x → ∃ v, vs[i]? = some v ∧ RV K H φ x v
  | [], _, i, x, h, e => by simp at e
  | x :: xs, vs, 0, y, h, e => by
    obtain ⟨v, r, rfl, h2, h3⟩ := h
    simp at e; subst e
    exact ⟨v, by simp, h2⟩
  | x :: xs, vs, i + 1, y, h, e => by
    obtain ⟨v, r, rfl, h2, h3⟩ := h
    simp at e
    obtain ⟨w, h4, h5⟩ := RVs.get h3 e
    exact ⟨w, by simpa using h4, h5⟩
theorem RVs.append : ∀ {xs ys : List PV} {vs ws : List V}, RVs K H φ xs vs → RVs K H φ ys ws → RVs K H φ (xs ++ ys) (vs ++ ws)
  | [], _, _, _, h, g => by cases h; exact g
  | x :: xs, ys, vs, ws, h, g => by
    obtain ⟨v, r, rfl, h2, h3⟩ := h
    exact ⟨v, r ++ ws, rfl, h2, RVs.append h3 g⟩
theorem RVs.drop : ∀ {xs : List PV} {vs : List V} (n : Nat), RVs K H φ xs vs → RVs K H φ (xs.drop n) (vs.drop n)
  | _, _, 0, h => h
  | [], _, n + 1, h => by cases h; exact rfl
  | x :: xs, vs, n + 1, h => by
    obtain ⟨v, r, rfl, h2, h3⟩ := h
    exact RVs.drop n h3
theorem RVs.take : ∀ {xs : List PV} {vs : List V} (n : Nat), RVs K H φ xs vs → RVs K H φ (xs.take n) (vs.take n)
  | _, _, 0, h => by simp; exact rfl
  | [], _, n + 1, h => by cases h; exact rfl
  | x :: xs, vs, n + 1, h => by
    obtain ⟨v, r, rfl, h2, h3⟩ := h
    exact ⟨v, r.take n, rfl, h2, RVs.take n h3⟩
theorem RVs.set {y : PV} {w : V} (q : RV K H φ y w) : ∀ {xs : List PV} {vs : List V} (i : Nat), RVs K H φ xs vs → RVs K H φ (xs.set i y) (vs.set i w)
  | [], _, _, h => by cases h; exact rfl
  | x :: xs, vs, 0, h => by
    obtain ⟨v, r, rfl, h2, h3⟩ := h
    exact ⟨w, r, rfl, q, h3⟩
  | x :: xs, vs, i + 1, h => by
    obtain ⟨v, r, rfl, h2, h3⟩ := h
    exact ⟨v, r.set i w, rfl, h2, RVs.set q i h3⟩
/-- a value of the heap's kinds -/
theorem sqt_upd_new {K : PySem.W.Frag} {H : Hp} {p a : Addr} {o : HO} {vs : List V} (n : H p = none) (h : SqT K H a vs) : SqT K (upd H p o) a vs := by
  rcases h with (h | ⟨o, h⟩) | h
  · exact .inl (.inl (by rw [upd_ne (ne_of_none h n)]; exact h))
  · exact .inl (.inr ⟨o, by rw [upd_ne (ne_of_none h n)]; exact h⟩)
  · exact .inr h
theorem sql_upd_new {K : PySem.W.Frag} {H : Hp} {p a : Addr} {o : HO} {vs : List V} (n : H p = none) (h : SqL K H a vs) : SqL K (upd H p o) a vs := by
  rcases h with (h | ⟨o, h⟩) | h
  · exact .inl (.inl (by rw [upd_ne (ne_of_none h n)]; exact h))
  · exact .inl (.inr ⟨o, by rw [upd_ne (ne_of_none h n)]; exact h⟩)
  · exact .inr h
theorem sqt_upd_lst {K : PySem.W.Frag} {H : Hp} {p a : Addr} {xs ys vs : List V} (n : H p = some (.lst xs)) (h : SqT K H a vs) : SqT K (upd H p (.lst ys)) a vs := by
  rcases h with (h | ⟨o, h⟩) | h
  · exact .inl (.inl (by rw [upd_ne (ne_of h n (by intro z; cases z))]; exact h))
  · exact .inl (.inr ⟨o, by rw [upd_ne (ne_of h n (by intro z; cases z))]; exact h⟩)
  · exact .inr h
theorem sql_upd_ne {K : PySem.W.Frag} {H : Hp} {p a : Addr} {o : HO} {vs : List V} (n : a ≠ p) (h : SqL K H a vs) : SqL K (upd H p o) a vs := by
  rcases h with (h | ⟨o, h⟩) | h
  · exact .inl (.inl (by rw [upd_ne n]; exact h))
  · exact .inl (.inr ⟨o, by rw [upd_ne n]; exact h⟩)
  · exact .inr h
theorem SqF.l {K : PySem.W.Frag} {H : Hp} {a : Addr} {vs : List V} (h : SqF K H a vs) : SqL K H a vs := by
  rcases h with h | h
  · exact .inl (.inr h)
  · exact .inr h
theorem sqf_upd_new {K : PySem.W.Frag} {H : Hp} {p a : Addr} {o : HO} {vs : List V} (n : H p = none) (h : SqF K H a vs) : SqF K (upd H p o) a vs := by
  rcases h with ⟨o, h⟩ | h
  · exact .inl ⟨o, by rw [upd_ne (ne_of_none h n)]; exact h⟩
  · exact .inr h
theorem sqf_upd_mut {K : PySem.W.Frag} {H : Hp} {p a : Addr} {o u : HO} {vs : List V} (n : H p = some u) (hu : ∀ o x, u ≠ .frz o x) (h : SqF K H a vs) : SqF K (upd H p o) a vs := by
  rcases h with ⟨o, h⟩ | h
  · exact .inl ⟨o, by rw [upd_ne (ne_of h n (by intro z; exact hu _ _ z.symm))]; exact h⟩
  · exact .inr h
theorem RO.tracked {o : MO} {a : Addr} (h : RO K H φ o a) (hm : o.mut = true) : ∃ u, H a = some u := by
  cases o with
  | lst xs => obtain ⟨vs, h1, _⟩ := h; exact ⟨_, h1⟩
  | frz xs => cases hm
  | dct xs => obtain ⟨vs, h1, _⟩ := h; exact ⟨_, h1⟩
  | dck xs => obtain ⟨vs, h1, _⟩ := h; exact ⟨_, h1⟩
  | frk xs => obtain ⟨od, vs, h1, _⟩ := h; exact ⟨_, h1⟩
/-- the objects stay where a new thing is laid -/
theorem RO.new {o : MO} {a p : Addr} {u : HO} (h : RO K H φ o a) (n : H p = none) (e : Ext K φ H φ' (upd H p u)) : RO K (upd H p u) φ' o a := by
  cases o with
  | lst ys =>
    obtain ⟨ws, q1, q2⟩ := h
    exact ⟨ws, by rw [upd_ne (ne_of_none q1 n)]; exact q1, q2.ext e⟩
  | frz ys =>
    obtain ⟨ws, q1, q2⟩ := h
    exact ⟨ws, sqf_upd_new n q1, q2.ext e⟩
  | dct ys =>
    obtain ⟨ws, q1, q2⟩ := h
    exact ⟨ws, by rw [upd_ne (ne_of_none q1 n)]; exact q1, q2.ext e⟩
  | dck ys =>
    obtain ⟨ws, q1, q2⟩ := h
    exact ⟨ws, by rw [upd_ne (ne_of_none q1 n)]; exact q1, q2.ext e⟩
  | frk ys =>
    obtain ⟨od, ws, q1, q2⟩ := h
    exact ⟨od, ws, by rw [upd_ne (ne_of_none q1 n)]; exact q1, q2.ext e⟩
/-- a new object -/
theorem RH.newO {m : MH} {p : Addr} {u : HO} {x : MO} (h : RH K H φ m) (n : H p = none) (e : Ext K φ H (φ ++ [p]) (upd H p u)) (q : RO K (upd H p u) (φ ++ [p]) x p) :
    RH K (upd H p u) (φ ++ [p]) (m ++ [x]) := by
  have cut : ∀ (i : Nat) (a : Addr) (o : MO), (φ ++ [p])[i]? = some a → (m ++ [x])[i]? = some o → (i < φ.length ∧ φ[i]? = some a ∧ m[i]? = some o) ∨ (i = φ.length ∧ a = p ∧ o = x) := by
    intro i a o h1 h2
    by_cases hi : i < φ.length
    · rw [List.getElem?_append_left hi] at h1
      rw [List.getElem?_append_left (by rw [← h.len]; exact hi)] at h2
      exact .inl ⟨hi, h1, h2⟩
    · have hi' : i = φ.length := by
        have := (List.getElem?_eq_some_iff.mp h1).1
        simp at this; omega
      subst hi'
      simp at h1
      rw [h.len] at h2
      simp at h2
      exact .inr ⟨rfl, h1.symm, h2.symm⟩
  refine ⟨by simp [h.len], ?_, ?_⟩
  · intro i j a o w h1 h2 h3 h4 m1 m2
    rcases cut i a o h1 h3 with ⟨_, c1, c2⟩ | ⟨c1, c2, c3⟩ <;> rcases cut j a w h2 h4 with ⟨_, d1, d2⟩ | ⟨d1, d2, d3⟩
    · exact h.nd i j a o w c1 d1 c2 d2 m1 m2
    · obtain ⟨z, hz⟩ := (h.obj i a o c1 c2).tracked m1
      rw [d2, n] at hz; cases hz
    · obtain ⟨z, hz⟩ := (h.obj j a w d1 d2).tracked m2
      rw [c2, n] at hz; cases hz
    · omega
  · intro i a o h1 h2
    rcases cut i a o h1 h2 with ⟨_, c1, c2⟩ | ⟨c1, c2, c3⟩
    · exact (h.obj i a o c1 c2).new n e
    · rw [c2, c3]; exact q
/-- a new list -/
theorem RH.newL {m : MH} {p : Addr} {xs : List PV} {vs : List V} (h : RH K H φ m) (n : H p = none) (q : RVs K H φ xs vs) :
    Ext K φ H (φ ++ [p]) (upd H p (.lst vs)) ∧ RH K (upd H p (.lst vs)) (φ ++ [p]) (m ++ [.lst xs]) ∧ RV K (upd H p (.lst vs)) (φ ++ [p]) (.ref m.length) (.ref p) := by
  have e : Ext K φ H (φ ++ [p]) (upd H p (.lst vs)) := ⟨⟨[p], rfl⟩, fun a ws w => sqt_upd_new n w, fun _ _ _ w => by rw [upd_ne (ne_of_none w n)]; exact w⟩
  exact ⟨e, h.newO n e ⟨vs, upd_same, q.ext e⟩, ⟨p, by simp [← h.len], rfl⟩⟩
/-- a new tuple -/
theorem RH.newT {m : MH} {p : Addr} {xs : List PV} {vs : List V} (h : RH K H φ m) (n : H p = none) (q : RVs K H φ xs vs) :
    Ext K φ H φ (upd H p (.tup vs)) ∧ RH K (upd H p (.tup vs)) φ m ∧ RV K (upd H p (.tup vs)) φ (.tup xs) (.ref p) := by
  have e : Ext K φ H φ (upd H p (.tup vs)) := ⟨⟨[], by simp⟩, fun a ws w => sqt_upd_new n w, fun _ _ _ w => by rw [upd_ne (ne_of_none w n)]; exact w⟩
  exact ⟨e, ⟨h.len, h.nd, fun i a o h1 h2 => (h.obj i a o h1 h2).new n e⟩, ⟨p, vs, rfl, .inl (.inl upd_same), q.ext e⟩⟩
theorem sqt_upd_mut {K : PySem.W.Frag} {H : Hp} {p a : Addr} {u o : HO} {vs : List V} (n : H p = some u) (nt : ∀ xs, u ≠ .tup xs) (nf : ∀ o x, u ≠ .frz o x) (h : SqT K H a vs) : SqT K (upd H p o) a vs := by
  rcases h with (h | ⟨o, h⟩) | h
  · exact .inl (.inl (by rw [upd_ne (ne_of h n (by intro z; exact nt _ z.symm))]; exact h))
  · exact .inl (.inr ⟨o, by rw [upd_ne (ne_of h n (by intro z; exact nf _ _ z.symm))]; exact h⟩)
  · exact .inr h
/-- an object is changed -/
theorem RH.setG {m : MH} {k : Nat} {a : Addr} {o1 o2 : MO} {u2 : HO} (h : RH K H φ m) (hk : φ[k]? = some a) (hm : m[k]? = some o1) (mu : o1.mut = true) (st : ∀ b vs, SqT K H b vs → SqT K (upd H a u2) b vs) (sf : ∀ b vs, SqF K H b vs → SqF K (upd H a u2) b vs) (mu2 : o2.mut = true)
    (q : ExtT K φ H φ (upd H a u2) → RO K (upd H a u2) φ o2 a) : ExtT K φ H φ (upd H a u2) ∧ RH K (upd H a u2) φ (m.set k o2) := by
  have e : ExtT K φ H φ (upd H a u2) := ⟨⟨[], by simp⟩, fun b us w => st b us w⟩
  have hkm : k < m.length := (List.getElem?_eq_some_iff.mp hm).1
  refine ⟨e, ⟨by simp [h.len], ?_, ?_⟩⟩
  · intro i j b o w h1 h2 h3 h4 m1 m2
    have back : ∀ (i : Nat) (o : MO), (m.set k o2)[i]? = some o → o.mut = true → ∃ o', m[i]? = some o' ∧ o'.mut = true := by
      intro i o h3 m1
      by_cases hi : i = k
      · subst hi; exact ⟨_, hm, mu⟩
      · rw [List.getElem?_set_ne (Ne.symm hi)] at h3; exact ⟨o, h3, m1⟩
    obtain ⟨o', e1, e2⟩ := back i o h3 m1
    obtain ⟨w', e3, e4⟩ := back j w h4 m2
    exact h.nd i j b o' w' h1 h2 e1 e3 e2 e4
  · intro i b o h1 h2
    by_cases hi : i = k
    · subst hi
      rw [List.getElem?_set_self hkm] at h2
      cases h2
      rw [hk] at h1; cases h1
      exact q e
    · rw [List.getElem?_set_ne (Ne.symm hi)] at h2
      have r := h.obj i b o h1 h2
      have nb : o.mut = true → b ≠ a := fun om z => hi (h.nd i k a _ _ (z ▸ h1) hk h2 hm om mu)
      cases o with
      | lst zs =>
        obtain ⟨us, q1, q2⟩ := r
        exact ⟨us, by rw [upd_ne (nb rfl)]; exact q1, q2.extT e⟩
      | frz zs =>
        obtain ⟨us, q1, q2⟩ := r
        exact ⟨us, sf b us q1, q2.extT e⟩
      | dct zs =>
        obtain ⟨us, q1, q2⟩ := r
        exact ⟨us, by rw [upd_ne (nb rfl)]; exact q1, q2.extT e⟩
      | dck zs =>
        obtain ⟨us, q1, q2⟩ := r
        exact ⟨us, by rw [upd_ne (nb rfl)]; exact q1, q2.extT e⟩
      | frk zs =>
        obtain ⟨od, us, q1, q2⟩ := r
        exact ⟨od, us, by rw [upd_ne (nb rfl)]; exact q1, q2.extT e⟩
theorem RH.setM {m : MH} {k : Nat} {a : Addr} {o1 o2 : MO} {u1 u2 : HO} (h : RH K H φ m) (hk : φ[k]? = some a) (hm : m[k]? = some o1) (mu : o1.mut = true) (ha : H a = some u1) (nt : ∀ xs, u1 ≠ .tup xs) (nf : ∀ o x, u1 ≠ .frz o x) (mu2 : o2.mut = true)
    (q : Ext K φ H φ (upd H a u2) → RO K (upd H a u2) φ o2 a) : Ext K φ H φ (upd H a u2) ∧ RH K (upd H a u2) φ (m.set k o2) := by
  have e : Ext K φ H φ (upd H a u2) := ⟨⟨[], by simp⟩, fun _ _ w => sqt_upd_mut ha nt nf w, fun b od ws w => by rw [upd_ne (fun z => by rw [z, ha] at w; exact nf _ _ (Option.some.inj w))]; exact w⟩
  exact ⟨e, (h.setG hk hm mu (fun _ _ w => sqt_upd_mut ha nt nf w) (fun _ _ w => sqf_upd_mut ha nf w) mu2 fun _ => q e).2⟩
theorem sqt_upd_frk {K : PySem.W.Frag} {H : Hp} {p a : Addr} {od : Obj} {ws : List (Key × V)} {o : HO} {vs : List V} (n : H p = some (.frz od (.dK ws))) (h : SqT K H a vs) : SqT K (upd H p o) a vs := by
  rcases h with (h | ⟨o, h⟩) | h
  · exact .inl (.inl (by rw [upd_ne (ne_of h n (by intro z; cases z))]; exact h))
  · exact .inl (.inr ⟨o, by rw [upd_ne (ne_of h n (by intro z; cases z))]; exact h⟩)
  · exact .inr h
theorem sqf_upd_frk {K : PySem.W.Frag} {H : Hp} {p a : Addr} {od : Obj} {ws : List (Key × V)} {o : HO} {vs : List V} (n : H p = some (.frz od (.dK ws))) (h : SqF K H a vs) : SqF K (upd H p o) a vs := by
  rcases h with ⟨o, h⟩ | h
  · exact .inl ⟨o, by rw [upd_ne (ne_of h n (by intro z; cases z))]; exact h⟩
  · exact .inr h
/-- a list is changed -/
theorem RH.setL {m : MH} {k : Nat} {a : Addr} {xs ys : List PV} {ws : List V} (h : RH K H φ m) (hk : φ[k]? = some a) (hm : m[k]? = some (.lst xs)) (q : RVs K H φ ys ws) :
    Ext K φ H φ (upd H a (.lst ws)) ∧ RH K (upd H a (.lst ws)) φ (m.set k (.lst ys)) := by
  obtain ⟨vs, ha, _⟩ := h.obj k a _ hk hm
  exact h.setM hk hm rfl ha (fun _ z => by cases z) (fun _ _ z => by cases z) rfl fun e => ⟨ws, upd_same, q.ext e⟩
end
end SM

set_option Elab.async false
set_option linter.all false
set_option maxRecDepth 100000
set_option maxHeartbeats 1000000
namespace SM
open PySem PySem.Spec PyProof.Rows L2

/-- what is wanted of an exception: its class, its fields, the addresses, the heap of the reckoning, the slots, the heap -/
abbrev XM := String → List PV → List Addr → Loc → MH → L2.St → Hp → Prop
def W0 : XM := fun _ _ _ _ _ _ _ => False
abbrev Rel (α β : Type) := Hp → List Addr → α → β → Prop
def rV (K : PySem.W.Frag) : Rel PV V := fun H φ x v => RV K H φ x v
def rA (K : PySem.W.Frag) : Rel (List PV) (List V) := fun H φ x v => RVs K H φ x v
def rB : Rel Bool Bool := fun _ _ b c => c = b
class Stays {α β : Type} (K : PySem.W.Frag) (rel : Rel α β) : Prop where
  st : ∀ {φ φ' : List Addr} {H H' : Hp} {x : α} {v : β}, Ext K φ H φ' H' → rel H φ x v → rel H' φ' x v
instance {K} : Stays K (rV K) := ⟨fun e h => RV.ext e h⟩
instance {K} : Stays K (rA K) := ⟨fun e h => RVs.ext e h⟩
instance {K} : Stays K rB := ⟨fun _ h => h⟩

def Post {α β : Type} (K : PySem.W.Frag) (rel : Rel α β) (W : XM) (φ : List Addr) (l : Loc) (σ : L2.St) (H : Hp) (r : R α) (Q : β → Hp → Prop) : Prop := match r with
  | .ok x m => ∀ φ' H' v, Ext K φ H φ' H' → RH K H' φ' m → rel H' φ' x v → Q v H'
  | .ex c fs m => ∀ φ' H', Ext K φ H φ' H' → RH K H' φ' m → W c fs φ' l m σ H'
  | .bad => False
def Rdg {α β : Type} (K : PySem.W.Frag) (rel : Rel α β) (W : XM) (s : Loc → MH → R α) : L2.St → Hp → (β → Hp → Prop) → Prop := fun σ H Q =>
  ∃ φ l m, RH K H φ m ∧ RL K H φ l σ ∧ Post K rel W φ l σ H (s l m) Q
section
variable {K : PySem.W.Frag} {α β α' β' : Type} {rel : Rel α β} {rel' : Rel α' β'} {W : XM} {φ φ' : List Addr} {σ : L2.St} {H H' : Hp} {r : R α} {Q Q' : β → Hp → Prop} {s : Loc → MH → R α} {l : Loc} {m : MH}
theorem Post.ext (e : Ext K φ H φ' H') (h : Post K rel W φ l σ H r Q) : Post K rel W φ' l σ H' r Q := by
  cases r with
  | ok x m => exact fun φ2 H2 v e2 => h φ2 H2 v (e.trans e2)
  | ex c fs m => exact fun φ2 H2 e2 => h φ2 H2 (e.trans e2)
  | bad => exact h
theorem Post.mono (h : Post K rel W φ l σ H r Q) (q : ∀ v H, Q v H → Q' v H) : Post K rel W φ l σ H r Q' := by
  cases r with
  | ok x m => exact fun φ2 H2 v e2 a b => q _ _ (h φ2 H2 v e2 a b)
  | ex c fs m => exact h
  | bad => exact h
theorem Rdg.mono (h : Rdg K rel W s σ H Q) (q : ∀ v H, Q v H → Q' v H) : Rdg K rel W s σ H Q' := by
  obtain ⟨φ, l, m, h1, h2, h3⟩ := h
  exact ⟨φ, l, m, h1, h2, h3.mono q⟩
theorem Rdg.at (h1 : RH K H φ m) (h2 : RL K H φ l σ) (h3 : Post K rel W φ l σ H (s l m) Q) : Rdg K rel W s σ H Q := ⟨φ, l, m, h1, h2, h3⟩
/-- behind the first part -/
theorem Post.bind {k : α → MH → R α'} {Q : β' → Hp → Prop} (hl : RL K H φ l σ) (h : Post K rel' W φ l σ H (r.bind k) Q) :
    Post K rel W φ l σ H r (fun v H1 => ∃ φ1 x m1, Ext K φ H φ1 H1 ∧ RH K H1 φ1 m1 ∧ RL K H1 φ1 l σ ∧ rel H1 φ1 x v ∧ Post K rel' W φ1 l σ H1 (k x m1) Q) := by
  cases r with
  | ok x m => exact fun φ2 H2 v e a b => ⟨φ2, x, m, e, a, hl.ext e, b, Post.ext e h⟩
  | ex c fs m => exact h
  | bad => exact h
end
structure QE (X : Cx) (W : XM) (e : Expr) (s : SE) : Prop where
  pe : PE X e (Rdg X.K (rV X.K) W s)
structure QA (X : Cx) (W : XM) (es : List Expr) (s : SA) : Prop where
  pa : PA X es (Rdg X.K (rA X.K) W s)
structure QT (X : Cx) (W : XM) (e : Expr) (s : SB) : Prop where
  pt : PT X e (Rdg X.K rB W s)
structure QW (X : Cx) (W : XM) (e : Expr) (s : SB) : Prop where
  pw : PW X e (Rdg X.K rB W s)
theorem pe_imp {X : Cx} {e : Expr} {t t' : TE} (h : PE X e t) (i : ∀ σ H Q, t' σ H Q → t σ H Q) : PE X e t' := ⟨fun pins s σ H Q I q => h.run pins s σ H Q I (i σ H Q q)⟩
theorem pt_imp {X : Cx} {e : Expr} {t t' : TT} (h : PT X e t) (i : ∀ σ H Q, t' σ H Q → t σ H Q) : PT X e t' := ⟨fun pins s σ H Q I q => h.run pins s σ H Q I (i σ H Q q)⟩
theorem pw_imp {X : Cx} {e : Expr} {t t' : TT} (h : PW X e t) (i : ∀ σ H Q, t' σ H Q → t σ H Q) : PW X e t' := ⟨fun wh pins s σ H Q I q => h.run wh pins s σ H Q I (i σ H Q q)⟩
theorem pa_imp {X : Cx} {e : List Expr} {t t' : TA} (h : PA X e t) (i : ∀ σ H Q, t' σ H Q → t σ H Q) : PA X e t' := ⟨fun pos pins s σ H Q I q => h.run pos pins s σ H Q I (i σ H Q q)⟩

/-! ## names, constants -/
section
variable {X : Cx} {W : XM}
def sVar (i : Nat) : SE := fun l m => match l[i]? with
  | some (some v) => .ok v m
  | _ => .bad
def sC (v : PV) : SE := fun _ m => .ok v m
theorem q_var (i : Nat) {x : Str} {pos : Pos} (hN : X.N[i]? = some x := by rfl) (hv : Vis X.env.scope x := by first | exact Or.inl rfl | exact Or.inr (Or.inl rfl) | exact Or.inr (Or.inr rfl)) (hd : (x == ("__debug__" : Str)) = false := by decide)
    (hcd : (x == ("__classdict__" : Str)) = false := by decide) : QE X W (.Name x pos) (sVar i) := ⟨pe_imp (pe_var hN hv hd hcd) fun σ H Q h => by
  obtain ⟨φ, l, m, h1, h2, h3⟩ := h
  unfold sVar at h3
  cases hl : l[i]? with
  | none => rw [hl] at h3; exact h3.elim
  | some o =>
    cases o with
    | none => rw [hl] at h3; exact h3.elim
    | some x =>
      rw [hl] at h3
      obtain ⟨v, e1, e2⟩ := h2.2 i x hl
      exact ⟨v, e1, h3 φ H v Ext.refl h1 e2⟩⟩
theorem q_int {i j pos} : QE X W (.Constant (.int i) j pos) (sC (.int i)) := ⟨pe_imp pe_int fun σ H Q h => by
  obtain ⟨φ, l, m, h1, h2, h3⟩ := h
  exact h3 φ H _ Ext.refl h1 rfl⟩
theorem q_bl {i j pos} : QE X W (.Constant (.bool i) j pos) (sC (.bl i)) := ⟨pe_imp pe_bl fun σ H Q h => by
  obtain ⟨φ, l, m, h1, h2, h3⟩ := h
  exact h3 φ H _ Ext.refl h1 rfl⟩
theorem q_non {j pos} : QE X W (.Constant .none j pos) (sC .non) := ⟨pe_imp pe_non fun σ H Q h => by
  obtain ⟨φ, l, m, h1, h2, h3⟩ := h
  exact h3 φ H _ Ext.refl h1 rfl⟩
theorem q_str {x : Str} {j pos} : QE X W (.Constant (.str x) j pos) (sC (.str x.cps.toList)) := ⟨pe_imp pe_str fun σ H Q h => by
  obtain ⟨φ, l, m, h1, h2, h3⟩ := h
  exact h3 φ H _ Ext.refl h1 rfl⟩
end

/-! ## heaps of the reckoning -/
def lst? (m : MH) (n : Nat) : Option (List PV) := match m[n]? with
  | some (.lst xs) => some xs
  | _ => none
def seq? (m : MH) (n : Nat) : Option (List PV) := match m[n]? with
  | some (.lst xs) => some xs
  | some (.frz xs) => some xs
  | _ => none
theorem lst_some {m : MH} {n : Nat} {xs : List PV} (h : lst? m n = some xs) : m[n]? = some (.lst xs) := by
  unfold lst? at h
  split at h
  · rename_i e; cases h; exact e
  · cases h
theorem seq_some {m : MH} {n : Nat} {xs : List PV} (h : seq? m n = some xs) : m[n]? = some (.lst xs) ∨ m[n]? = some (.frz xs) := by
  unfold seq? at h
  split at h
  · rename_i e; cases h; exact .inl e
  · rename_i e; cases h; exact .inr e
  · cases h
section
variable {K : PySem.W.Frag} {H : Hp} {φ : List Addr} {m : MH} {n : Nat} {xs : List PV} {v : V}
theorem RH.lst (h : RH K H φ m) (r : RV K H φ (.ref n) v) (e : lst? m n = some xs) : ∃ a vs, φ[n]? = some a ∧ v = .ref a ∧ H a = some (.lst vs) ∧ RVs K H φ xs vs := by
  obtain ⟨a, h1, h2⟩ := r
  obtain ⟨vs, q1, q2⟩ := h.obj n a _ h1 (lst_some e)
  exact ⟨a, vs, h1, h2, q1, q2⟩
theorem RH.seq (h : RH K H φ m) (r : RV K H φ (.ref n) v) (e : seq? m n = some xs) : ∃ a vs, v = .ref a ∧ SqL K H a vs ∧ RVs K H φ xs vs := by
  obtain ⟨a, h1, h2⟩ := r
  rcases seq_some e with e | e
  · obtain ⟨vs, q1, q2⟩ := h.obj n a _ h1 e
    exact ⟨a, vs, h2, .inl (.inl q1), q2⟩
  · obtain ⟨vs, q1, q2⟩ := h.obj n a _ h1 e
    exact ⟨a, vs, h2, q1.l, q2⟩
end

/-! ## operators -/
abbrev OR := Option (PV × MH)
def lift {α : Type} (o : Option (α × MH)) : R α := match o with
  | some (x, m) => .ok x m
  | none => .bad
def PostO (K : PySem.W.Frag) (φ : List Addr) (H : Hp) (o : OR) (Q : VK) : Prop := ∃ x m, o = some (x, m) ∧ ∀ φ' H' v, Ext K φ H φ' H' → RH K H' φ' m → RV K H' φ' x v → Q v H'
theorem PostO.of {K : PySem.W.Frag} {W : XM} {φ : List Addr} {l : Loc} {σ : L2.St} {H : Hp} {o : OR} {Q : VK} (h : Post K (rV K) W φ l σ H (lift o) Q) : PostO K φ H o Q := by
  cases o with
  | none => exact h.elim
  | some p => obtain ⟨x, m⟩ := p; exact ⟨x, m, rfl, h⟩
/-- an operation on two values -/
def OpQ (X : Cx) (f : Value → Value → Sem Value) (op : PV → PV → MH → OR) : Prop :=
  OpR X f (fun v w H Q => ∃ φ m x y, RH X.K H φ m ∧ RV X.K H φ x v ∧ RV X.K H φ y w ∧ PostO X.K φ H (op x y m) Q)
def UnQ (X : Cx) (f : Value → Sem Value) (op : PV → MH → OR) : Prop :=
  UnR X f (fun v H Q => ∃ φ m x, RH X.K H φ m ∧ RV X.K H φ x v ∧ PostO X.K φ H (op x m) Q)
def sOp (op : PV → PV → MH → OR) (a b : SE) : SE := fun l m => (a l m).bind fun x m1 => (b l m1).bind fun y m2 => lift (op x y m2)
def sUn (op : PV → MH → OR) (a : SE) : SE := fun l m => (a l m).bind fun x m1 => lift (op x m1)
/-- two readings in a row -/
theorem two {K : PySem.W.Frag} {W : XM} {a b : SE} {σ : L2.St} {H : Hp} {α β : Type} {rel : Rel α β} {k : PV → PV → MH → R α} {Q : β → Hp → Prop} (h : Rdg K rel W (fun l m => (a l m).bind fun x m1 => (b l m1).bind fun y m2 => k x y m2) σ H Q) :
    Rdg K (rV K) W a σ H fun v H1 => Rdg K (rV K) W b σ H1 fun w H2 => ∃ φ m x y l, RH K H2 φ m ∧ RV K H2 φ x v ∧ RV K H2 φ y w ∧ Post K rel W φ l σ H2 (k x y m) Q := by
  obtain ⟨φ, l, m, h1, h2, h3⟩ := h
  refine ⟨φ, l, m, h1, h2, (Post.bind (rel := rV K) h2 h3).mono ?_⟩
  rintro v H1 ⟨φ1, x, m1, e1, a1, b1, c1, d1⟩
  refine ⟨φ1, l, m1, a1, b1, (Post.bind (rel := rV K) b1 d1).mono ?_⟩
  rintro w H2 ⟨φ2, y, m2, e2, a2, b2, c2, d2⟩
  exact ⟨φ2, m2, x, y, l, a2, RV.ext e2 c1, c2, d2⟩
theorem one {K : PySem.W.Frag} {W : XM} {a : SE} {σ : L2.St} {H : Hp} {α β : Type} {rel : Rel α β} {k : PV → MH → R α} {Q : β → Hp → Prop} (h : Rdg K rel W (fun l m => (a l m).bind fun x m1 => k x m1) σ H Q) :
    Rdg K (rV K) W a σ H fun v H1 => ∃ φ m x l, RH K H1 φ m ∧ RV K H1 φ x v ∧ Post K rel W φ l σ H1 (k x m) Q := by
  obtain ⟨φ, l, m, h1, h2, h3⟩ := h
  refine ⟨φ, l, m, h1, h2, (Post.bind (rel := rV K) h2 h3).mono ?_⟩
  rintro v H1 ⟨φ1, x, m1, e1, a1, b1, c1, d1⟩
  exact ⟨φ1, m1, x, l, a1, c1, d1⟩
section
variable {X : Cx} {W : XM} {a b : Expr} {sa sb : SE} {pos : Pos}
theorem q_bin {op : Operator} {f : PV → PV → MH → OR} (ho : OpQ X (binaryOp op) f) (ha : QE X W a sa) (hb : QE X W b sb) : QE X W (.BinOp a op b pos) (sOp f sa sb) :=
  ⟨pe_imp (pe_op ho ha.pe hb.pe) fun σ H Q h => (two h).mono fun v H1 h1 => Rdg.mono h1 fun w H2 ⟨φ, m, x, y, _, c1, c2, c3, c4⟩ => ⟨φ, m, x, y, c1, c2, c3, .of c4⟩⟩
theorem q_un {op : UnaryOp} {f : PV → MH → OR} (ho : UnQ X (unaryOp op) f) (ha : QE X W a sa) : QE X W (.UnaryOp op a pos) (sUn f sa) :=
  ⟨pe_imp (pe_un ho ha.pe) fun σ H Q h => (one h).mono fun v H1 ⟨φ, m, x, _, c1, c2, c4⟩ => ⟨φ, m, x, c1, c2, .of c4⟩⟩
theorem q_cmp {op : CmpOp} {f : PV → PV → MH → OR} (ho : OpQ X (compareOp op) f) (ha : QE X W a sa) (hb : QE X W b sb) (hm : behindInMarks op b = false) : QE X W (.Compare a [op] [b] pos) (sOp f sa sb) :=
  ⟨pe_imp (pe_cmpR ho ha.pe hb.pe hm) fun σ H Q h => (two h).mono fun v H1 h1 => Rdg.mono h1 fun w H2 ⟨φ, m, x, y, _, c1, c2, c3, c4⟩ => ⟨φ, m, x, y, c1, c2, c3, .of c4⟩⟩
end

/-! ### ints -/
set_option exponentiation.threshold 5000
@[irreducible] def big : Nat := 2 ^ 4096
theorem big_eq : big = 2 ^ 4096 := by unfold big; rfl
theorem log2_big {n : Nat} (h : n < big) : n.log2 < 4096 := PySem.Flt.log2_lt_of (by decide) (by rw [← big_eq]; exact h)
section
variable {K : PySem.W.Frag} {H : Hp} {φ : List Addr} {x : PV} {v : V}
theorem RV.int {i : Int} (h : RV K H φ (.int i) v) : v = .int i := h
end
def addv : PV → PV → MH → OR
  | .int a, .int b, m => some (.int (a + b), m)
  | .str a, .str b, m => if a.length + b.length ≤ 16777216 then some (.str (a ++ b), m) else none
  | .tup a, .tup b, m => if a.length + b.length ≤ 16777216 then some (.tup (a ++ b), m) else none
  | .ref i, .ref j, m => match lst? m i, lst? m j with
    | some xs, some ys => if xs.length + ys.length ≤ 16777216 then some (.ref m.length, m ++ [.lst (xs ++ ys)]) else none
    | _, _ => none
  | _, _, _ => none
def subv : PV → PV → MH → OR
  | .int a, .int b, m => some (.int (a - b), m)
  | _, _, _ => none
def mulv : PV → PV → MH → OR
  | .int a, .int b, m => if (a.natAbs < 18446744073709551616 ∨ b.natAbs < 18446744073709551616) ∨ (a.natAbs < big ∧ b.natAbs < big) then some (.int (a * b), m) else none
  | _, _, _ => none
def fdivv : PV → PV → MH → OR
  | .int a, .int b, m => if b ≠ 0 ∧ b.natAbs < big then some (.int (a.fdiv b), m) else none
  | _, _, _ => none
def modv : PV → PV → MH → OR
  | .int a, .int b, m => if b ≠ 0 then some (.int (a.fmod b), m) else none
  | _, _, _ => none
def powv : PV → PV → MH → OR
  | .int a, .int b, m => if 0 ≤ b ∧ b ≤ 1000 ∧ a.natAbs < 18446744073709551616 then some (.int (a ^ b.toNat), m) else none
  | _, _, _ => none
def negv : PV → MH → OR
  | .int a, m => some (.int (-a), m)
  | _, _ => none
theorem str_app (a b : List Nat) : (⟨a.toArray⟩ : Str) ++ (⟨b.toArray⟩ : Str) = ⟨(a ++ b).toArray⟩ := by
  show Str.mk _ = _
  simp
theorem str_len (a : List Nat) : (⟨a.toArray⟩ : Str).length = a.length := by simp [Str.length]
theorem sl_eq : sizeLine = 16777216 := sizeLine_eq
section
variable {X : Cx}
theorem OpQ.of_eq {f : Value → Value → Sem Value} {op : PV → PV → MH → OR} (h : ∀ (v w : V) (H : Hp) (Q : VK) φ m x y, RH X.K H φ m → RV X.K H φ x v → RV X.K H φ y w → PostO X.K φ H (op x y m) Q → ∃ r : R2, OpR X f r ∧ r v w H Q) : OpQ X f op := by
  intro pins s σ H v w vv ww Q I rv rw' ⟨φ, m, x, y, h1, h2, h3, h4⟩
  obtain ⟨r, hr, q⟩ := h v w H Q φ m x y h1 h2 h3 h4
  exact hr pins s σ H v w vv ww Q I rv rw' q
theorem PostO.same {K : PySem.W.Frag} {φ : List Addr} {H : Hp} {m : MH} {x : PV} {v : V} {Q : VK} (h : PostO K φ H (some (x, m)) Q) (h1 : RH K H φ m) (r : RV K H φ x v) : Q v H := by
  obtain ⟨y, m', e, q⟩ := h
  cases e
  exact q φ H v Ext.refl h1 r
theorem PostO.not {K : PySem.W.Frag} {φ : List Addr} {H : Hp} {Q : VK} (h : PostO K φ H none Q) : False := by
  obtain ⟨y, m', e, q⟩ := h
  cases e
theorem PostO.newT {K : PySem.W.Frag} {φ : List Addr} {H : Hp} {m : MH} {xs : List PV} {vs : List V} {Q : VK} (h : PostO K φ H (some (.tup xs, m)) Q) (h1 : RH K H φ m) (r : RVs K H φ xs vs) : ∀ p, H p = none → Q (.ref p) (upd H p (.tup vs)) := by
  obtain ⟨y, m', e, q⟩ := h
  cases e
  intro p np
  obtain ⟨e, a, b⟩ := h1.newT np r
  exact q _ _ _ e a b
theorem PostO.newL {K : PySem.W.Frag} {φ : List Addr} {H : Hp} {m : MH} {xs : List PV} {vs : List V} {Q : VK} (h : PostO K φ H (some (.ref m.length, m ++ [.lst xs])) Q) (h1 : RH K H φ m) (r : RVs K H φ xs vs) : ∀ p, H p = none → Q (.ref p) (upd H p (.lst vs)) := by
  obtain ⟨y, m', e, q⟩ := h
  cases e
  intro p np
  obtain ⟨e, a, b⟩ := h1.newL np r
  exact q _ _ _ e a b
theorem o_sub : OpQ X (binaryOp .Sub) subv := .of_eq fun v w H Q φ m x y h1 h2 h3 h4 => by
  unfold subv at h4
  split at h4
  · cases h2; cases h3
    exact ⟨_, op_sub, _, _, rfl, rfl, h4.same h1 rfl⟩
  · exact h4.not.elim
theorem o_add : OpQ X (binaryOp .Add) addv := .of_eq fun v w H Q φ m x y h1 h2 h3 h4 => by
  unfold addv at h4
  split at h4
  · cases h2; cases h3
    exact ⟨_, op_add, _, _, rfl, rfl, h4.same h1 rfl⟩
  · cases h2; cases h3
    split at h4
    · rename_i hz
      exact ⟨_, op_add_str, _, _, rfl, rfl, by rw [str_len, str_len, sl_eq]; exact hz, by rw [str_app]; exact h4.same h1 rfl⟩
    · exact h4.not.elim
  · obtain ⟨p, vs, rfl, a1, a2⟩ := h2
    obtain ⟨q, ws, rfl, b1, b2⟩ := h3
    split at h4
    · rename_i hz
      refine ⟨_, op_catA, p, q, vs, ws, rfl, rfl, a1, b1, by rw [a2.length, b2.length, sl_eq]; exact hz, fun z => ?_, fun z1 z2 => ?_, fun _ _ => ?_⟩
      · subst z
        have e := List.eq_nil_of_length_eq_zero a2.length.symm; subst e
        exact h4.same h1 ⟨q, ws, rfl, b1, b2⟩
      · subst z2
        have e := List.eq_nil_of_length_eq_zero b2.length.symm; subst e
        simp only [List.append_nil] at h4
        exact h4.same h1 ⟨p, vs, rfl, a1, a2⟩
      · exact h4.newT h1 (a2.append b2)
    · exact h4.not.elim
  · split at h4
    · rename_i e1 e2
      obtain ⟨p, vs, _, rfl, a1, a2⟩ := h1.lst h2 e1
      obtain ⟨q, ws, _, rfl, b1, b2⟩ := h1.lst h3 e2
      split at h4
      · rename_i hz
        exact ⟨_, op_cat, p, q, vs, ws, rfl, rfl, a1, b1, by rw [a2.length, b2.length, sl_eq]; exact hz, h4.newL h1 (a2.append b2)⟩
      · exact h4.not.elim
    · exact h4.not.elim
  · exact h4.not.elim
theorem o_mul : OpQ X (binaryOp .Mult) mulv := .of_eq fun v w H Q φ m x y h1 h2 h3 h4 => by
  unfold mulv at h4
  split at h4
  · cases h2; cases h3
    split at h4
    · rename_i hz
      rcases hz with hz | hz
      · exact ⟨_, op_mul, _, _, rfl, rfl, (by rcases hz with z | z; exact .inl (by omega); exact .inr (by omega)), h4.same h1 rfl⟩
      exact ⟨_, op_mulW, _, _, rfl, rfl, wide_mul (a := 4096) (b := 4096) (by rw [← big_eq]; exact hz.1) (by rw [← big_eq]; exact hz.2) (by decide) (by decide) (by decide), h4.same h1 rfl⟩
    · exact h4.not.elim
  · exact h4.not.elim
theorem op_fdivB : OpR X (binaryOp .FloorDiv) (rI (fun _ j => j ≠ 0 ∧ j.natAbs < big) fun i j => .int (i.fdiv j)) := opI fun i j _ _ _ _ _ hc q =>
  floordiv_int hc.1 q (.inl (PyProof.noPylong_of_log2 (Nat.lt_trans (log2_big hc.2) (by decide))))
theorem o_fdiv : OpQ X (binaryOp .FloorDiv) fdivv := .of_eq fun v w H Q φ m x y h1 h2 h3 h4 => by
  unfold fdivv at h4
  split at h4
  · cases h2; cases h3
    split at h4
    · rename_i hz
      exact ⟨_, op_fdivB, _, _, rfl, rfl, hz, h4.same h1 rfl⟩
    · exact h4.not.elim
  · exact h4.not.elim
theorem o_mod : OpQ X (binaryOp .Mod) modv := .of_eq fun v w H Q φ m x y h1 h2 h3 h4 => by
  unfold modv at h4
  split at h4
  · cases h2; cases h3
    split at h4
    · rename_i hz
      exact ⟨_, op_modN, _, _, rfl, rfl, hz, h4.same h1 rfl⟩
    · exact h4.not.elim
  · exact h4.not.elim
theorem o_pow : OpQ X (binaryOp .Pow) powv := .of_eq fun v w H Q φ m x y h1 h2 h3 h4 => by
  unfold powv at h4
  split at h4
  · cases h2; cases h3
    split at h4
    · rename_i hz
      exact ⟨_, op_pow, _, _, rfl, rfl, ⟨hz.1, by omega, hz.2.2⟩, h4.same h1 rfl⟩
    · exact h4.not.elim
  · exact h4.not.elim
theorem o_neg : UnQ X (unaryOp .USub) negv := by
  intro pins s σ H v vv Q I rv ⟨φ, m, x, h1, h2, h4⟩
  unfold negv at h4
  split at h4
  · cases h2
    exact un_neg pins s σ H _ vv Q I rv ⟨_, rfl, h4.same h1 rfl⟩
  · exact h4.not.elim
end

/-! ### comparisons -/
def eqF : PV → PV → Option Bool
  | .non, .non => some true | .int a, .int b => some (decide (a = b)) | .bl a, .bl b => some (decide (a = b)) | .str a, .str b => some (decide (a = b))
  | .non, .int _ => some false | .int _, .non => some false | .non, .bl _ => some false | .bl _, .non => some false | .non, .str _ => some false | .str _, .non => some false
  | .int _, .str _ => some false | .str _, .int _ => some false | .bl _, .str _ => some false | .str _, .bl _ => some false
  | _, _ => none
def cmpI (f : Int → Int → Bool) : PV → PV → MH → OR
  | .int a, .int b, m => some (.bl (f a b), m)
  | _, _, _ => none
def isNon : PV → Bool
  | .non => true
  | _ => false
def isNv : PV → PV → MH → OR
  | x, .non, m => some (.bl (isNon x), m)
  | _, _, _ => none
def notNv : PV → PV → MH → OR
  | x, .non, m => some (.bl (!isNon x), m)
  | _, _, _ => none
theorem rv_non {K : PySem.W.Frag} {H : Hp} {φ : List Addr} : ∀ {x : PV} {v : V}, RV K H φ x v → decide (v = V.non) = isNon x
  | .non, _, h => by cases h; rfl
  | .bl _, _, h => by cases h; rfl
  | .int _, _, h => by cases h; rfl
  | .str _, _, h => by cases h; rfl
  | .tup _, _, h => by obtain ⟨p, vs, rfl, _⟩ := h; rfl
  | .ref _, _, h => by obtain ⟨p, _, rfl⟩ := h; rfl
section
variable {X : Cx}
theorem str_inj {a b : List Nat} : (V.str ⟨a.toArray⟩ = V.str ⟨b.toArray⟩) ↔ a = b := by simp
theorem eqF_scal {K : PySem.W.Frag} {H : Hp} {φ : List Addr} {x y : PV} {v w : V} {b : Bool} (h : eqF x y = some b) (r1 : RV K H φ x v) (r2 : RV K H φ y w) : scal v w = true ∧ decide (v = w) = b := by
  unfold eqF at h
  split at h <;> first
    | (cases h; cases r1; cases r2; refine ⟨rfl, ?_⟩; simp)
    | cases h
theorem o_ltI : OpQ X (compareOp .Lt) (cmpI fun a b => decide (a < b)) := .of_eq fun v w H Q φ m x y h1 h2 h3 h4 => by
  unfold cmpI at h4
  split at h4
  · cases h2; cases h3
    exact ⟨_, op_lt, _, _, rfl, rfl, h4.same h1 rfl⟩
  · exact h4.not.elim
theorem o_leI : OpQ X (compareOp .LtE) (cmpI fun a b => decide (a ≤ b)) := .of_eq fun v w H Q φ m x y h1 h2 h3 h4 => by
  unfold cmpI at h4
  split at h4
  · cases h2; cases h3
    exact ⟨_, op_le, _, _, rfl, rfl, h4.same h1 rfl⟩
  · exact h4.not.elim
theorem o_gtI : OpQ X (compareOp .Gt) (cmpI fun a b => decide (b < a)) := .of_eq fun v w H Q φ m x y h1 h2 h3 h4 => by
  unfold cmpI at h4
  split at h4
  · cases h2; cases h3
    exact ⟨_, op_gt, _, _, rfl, rfl, h4.same h1 rfl⟩
  · exact h4.not.elim
theorem o_geI : OpQ X (compareOp .GtE) (cmpI fun a b => decide (b ≤ a)) := .of_eq fun v w H Q φ m x y h1 h2 h3 h4 => by
  unfold cmpI at h4
  split at h4
  · cases h2; cases h3
    exact ⟨_, op_ge, _, _, rfl, rfl, h4.same h1 rfl⟩
  · exact h4.not.elim
theorem o_is : OpQ X (compareOp .Is) isNv := .of_eq fun v w H Q φ m x y h1 h2 h3 h4 => by
  unfold isNv at h4
  split at h4
  · cases h3
    exact ⟨_, op_isN, rfl, by rw [rv_non h2]; exact h4.same h1 rfl⟩
  · exact h4.not.elim
theorem o_isnot : OpQ X (compareOp .IsNot) notNv := .of_eq fun v w H Q φ m x y h1 h2 h3 h4 => by
  unfold notNv at h4
  split at h4
  · cases h3
    exact ⟨_, op_notN, rfl, by rw [rv_non h2]; exact h4.same h1 rfl⟩
  · exact h4.not.elim
end
end SM

set_option Elab.async false
set_option linter.all false
set_option maxRecDepth 100000
set_option maxHeartbeats 1000000
namespace SM
open PySem PySem.Spec PyProof.Rows L2

/-! ## data at any depth -/
@[simp] def allO {α : Type} : List (Option α) → Option (List α)
  | [] => some []
  | some x :: r => (allO r).map (x :: ·)
  | none :: _ => none
def toD (m : MH) : Nat → PV → Option PyData
  | 0, .non => some .none
  | 0, .bl b => some (.bool b)
  | 0, .int i => some (.int i)
  | 0, .str s => some (.str ⟨s.toArray⟩)
  | 0, _ => none
  | n + 1, .non => some .none
  | n + 1, .bl b => some (.bool b)
  | n + 1, .int i => some (.int i)
  | n + 1, .str s => some (.str ⟨s.toArray⟩)
  | n + 1, .tup xs => (allO (xs.map (toD m n))).map .tuple
  | n + 1, .ref i => match seq? m i with
    | some xs => (allO (xs.map (toD m n))).map .list
    | none => none
section
variable {K : PySem.W.Frag} {H : Hp} {φ : List Addr} {m : MH}
theorem dpAll {f : PV → Option PyData} (hf : ∀ x v d, RV K H φ x v → f x = some d → Dp K H v d) : ∀ (xs : List PV) (vs : List V) (ds : List PyData), RVs K H φ xs vs → allO (xs.map f) = some ds → DpAll K H vs ds
  | [], vs, ds, h, e => by cases h; cases e; exact .nil
  | x :: xs, vs, ds, h, e => by
    obtain ⟨v, r, rfl, h1, h2⟩ := h
    simp only [List.map_cons] at e
    cases hx : f x with
    | none => rw [hx] at e; simp at e
    | some d =>
      rw [hx] at e
      cases hr : allO (xs.map f) with
      | none => simp [hr] at e
      | some dr =>
        simp [hr] at e
        subst e
        exact .cons (hf _ _ _ h1 hx) (dpAll hf xs r dr h2 hr)
theorem dp_of (h : RH K H φ m) : ∀ (n : Nat) (x : PV) (v : V) (d : PyData), RV K H φ x v → toD m n x = some d → Dp K H v d
  | 0, .non, v, d, r, e => by cases r; cases e; exact .non
  | 0, .bl _, v, d, r, e => by cases r; cases e; exact .bl _
  | 0, .int _, v, d, r, e => by cases r; cases e; exact .int _
  | 0, .str _, v, d, r, e => by cases r; cases e; exact .str _
  | 0, .tup _, v, d, r, e => by cases e
  | 0, .ref _, v, d, r, e => by cases e
  | n + 1, .non, v, d, r, e => by cases r; cases e; exact .non
  | n + 1, .bl _, v, d, r, e => by cases r; cases e; exact .bl _
  | n + 1, .int _, v, d, r, e => by cases r; cases e; exact .int _
  | n + 1, .str _, v, d, r, e => by cases r; cases e; exact .str _
  | n + 1, .tup xs, v, d, r, e => by
    obtain ⟨a, vs, rfl, h1, h2⟩ := r
    simp only [toD] at e
    cases hr : allO (xs.map (toD m n)) with
    | none => simp [hr] at e
    | some ds =>
      simp [hr] at e
      subst e
      exact .tup h1 (dpAll (fun x v d r e => dp_of h n x v d r e) xs vs ds h2 hr)
  | n + 1, .ref i, v, d, r, e => by
    simp only [toD] at e
    cases hs : seq? m i with
    | none => rw [hs] at e; cases e
    | some xs =>
      rw [hs] at e
      obtain ⟨a, vs, rfl, h1, h2⟩ := h.seq r hs
      cases hr : allO (xs.map (toD m n)) with
      | none => simp [hr] at e
      | some ds =>
        simp [hr] at e
        subst e
        exact .lst h1 (dpAll (fun x v d r e => dp_of h n x v d r e) xs vs ds h2 hr)
end
/-- two values as data: equal or not -/
def eqD (m : MH) (x y : PV) : Option Bool := match toD m 8 x, toD m 8 y with
  | some d, some e => if SeqAt.shaped d = true ∧ SeqAt.shaped e = true then some (PyData.eqv d e) else none
  | _, _ => none
def eqV (m : MH) (x y : PV) : Option Bool := match eqF x y with
  | some b => some b
  | none => eqD m x y
def eqv : PV → PV → MH → OR := fun x y m => (eqV m x y).map fun b => (.bl b, m)
def nev : PV → PV → MH → OR := fun x y m => (eqV m x y).map fun b => (.bl (!b), m)
theorem eqV_flat {m : MH} {x y : PV} {b : Bool} (h : eqF x y = some b) : eqV m x y = some b := by unfold eqV; rw [h]
/-- x in a list, as data -/
def inD (m : MH) (x y : PV) : Option Bool := match toD m 8 x, y with
  | some d, .ref i => match toD m 8 (.ref i) with
    | some (.list ds) => if SeqAt.shaped d = true ∧ SeqAt.shaped (.list ds) = true then some (ds.any fun z => PyData.eqv z d) else none
    | _ => none
  | _, _ => none
def inv : PV → PV → MH → OR := fun x y m => (inD m x y).map fun b => (.bl b, m)
def ninv : PV → PV → MH → OR := fun x y m => (inD m x y).map fun b => (.bl (!b), m)
section
variable {X : Cx} {k : Nat}
theorem o_eq (hr : Room k X.A) : OpQ X (compareOp .Eq) eqv := .of_eq fun v w H Q φ m x y h1 h2 h3 h4 => by
  unfold eqv eqV at h4
  cases hf : eqF x y with
  | some b =>
    rw [hf] at h4
    obtain ⟨s1, s2⟩ := eqF_scal hf h2 h3
    exact ⟨_, op_eq, s1, by rw [s2]; exact h4.same h1 rfl⟩
  | none =>
    rw [hf] at h4
    unfold eqD at h4
    cases hx : toD m 8 x with
    | none => rw [hx] at h4; exact h4.not.elim
    | some d =>
      cases hy : toD m 8 y with
      | none => rw [hx, hy] at h4; exact h4.not.elim
      | some e =>
        rw [hx, hy] at h4
        simp only at h4
        split at h4
        · rename_i hz
          exact ⟨_, op_eqD hr.units, d, e, dp_of h1 8 x v d h2 hx, dp_of h1 8 y w e h3 hy, hz.1, hz.2, h4.same h1 rfl⟩
        · exact h4.not.elim
theorem o_ne (hr : Room k X.A) : OpQ X (compareOp .NotEq) nev := .of_eq fun v w H Q φ m x y h1 h2 h3 h4 => by
  unfold nev eqV at h4
  cases hf : eqF x y with
  | some b =>
    rw [hf] at h4
    obtain ⟨s1, s2⟩ := eqF_scal hf h2 h3
    exact ⟨_, op_ne, s1, by rw [s2]; exact h4.same h1 rfl⟩
  | none =>
    rw [hf] at h4
    unfold eqD at h4
    cases hx : toD m 8 x with
    | none => rw [hx] at h4; exact h4.not.elim
    | some d =>
      cases hy : toD m 8 y with
      | none => rw [hx, hy] at h4; exact h4.not.elim
      | some e =>
        rw [hx, hy] at h4
        simp only at h4
        split at h4
        · rename_i hz
          exact ⟨_, op_neD hr.units, d, e, dp_of h1 8 x v d h2 hx, dp_of h1 8 y w e h3 hy, hz.1, hz.2, h4.same h1 rfl⟩
        · exact h4.not.elim
theorem o_in (hr : Room k X.A) : OpQ X (compareOp .In) inv := .of_eq fun v w H Q φ m x y h1 h2 h3 h4 => by
  unfold inv inD at h4
  split at h4
  · rename_i d i hx
    split at h4
    · rename_i ds hy
      split at h4
      · rename_i hz
        exact ⟨_, op_inD (by have := hr.un; omega), d, ds, dp_of h1 8 x v d h2 hx, dp_of h1 8 _ w _ h3 hy, hz.1, hz.2, h4.same h1 rfl⟩
      · exact h4.not.elim
    · exact h4.not.elim
  · exact h4.not.elim
theorem o_nin (hr : Room k X.A) : OpQ X (compareOp .NotIn) ninv := .of_eq fun v w H Q φ m x y h1 h2 h3 h4 => by
  unfold ninv inD at h4
  split at h4
  · rename_i d i hx
    split at h4
    · rename_i ds hy
      split at h4
      · rename_i hz
        exact ⟨_, op_notInD (by have := hr.un; omega), d, ds, dp_of h1 8 x v d h2 hx, dp_of h1 8 _ w _ h3 hy, hz.1, hz.2, h4.same h1 rfl⟩
      · exact h4.not.elim
    · exact h4.not.elim
  · exact h4.not.elim
end

/-! ## subscripts, stores -/
def ixv : PV → PV → MH → OR
  | .ref n, .int i, m => match seq? m n with
    | some xs => (atI xs i).map fun x => (x, m)
    | none => none
  | .tup xs, .int i, m => (atI xs i).map fun x => (x, m)
  | .str s, .int i, m => if s.length ≤ 16777216 then (atI s i).map fun c => (.str [c], m) else none
  | _, _, _ => none
def setv : PV → PV → PV → MH → Option MH
  | .ref n, .int i, v, m => match lst? m n with
    | some xs => (ixN xs.length i).map fun j => m.set n (.lst (xs.set j v))
    | none => none
  | _, _, _, _ => none
section
variable {X : Cx} {W : XM} {a b : Expr} {sa sb : SE} {pos : Pos}
theorem RVs.atI {K : PySem.W.Frag} {H : Hp} {φ : List Addr} {xs : List PV} {vs : List V} {i : Int} {x : PV} (h : RVs K H φ xs vs) (e : L2.atI xs i = some x) : ∃ v, L2.atI vs i = some v ∧ RV K H φ x v := by
  unfold L2.atI at e ⊢
  rw [h.length]
  cases hx : ixN xs.length i with
  | none => rw [hx] at e; cases e
  | some j =>
    rw [hx] at e
    obtain ⟨v, h1, h2⟩ := h.get (i := j) (x := x) e
    exact ⟨v, h1, h2⟩
theorem IxR.ofQ {op : PV → PV → MH → OR} (h : ∀ (v w : V) (H : Hp) (Q : VK) φ m x y, RH X.K H φ m → RV X.K H φ x v → RV X.K H φ y w → PostO X.K φ H (op x y m) Q → ∃ r : R2, IxR X r ∧ r v w H Q) :
    IxR X (fun v w H Q => ∃ φ m x y, RH X.K H φ m ∧ RV X.K H φ x v ∧ RV X.K H φ y w ∧ PostO X.K φ H (op x y m) Q) := by
  intro value slice pins s σ H x y v u Q I rx ry ⟨φ, m, px, py, h1, h2, h3, h4⟩ hs
  obtain ⟨r, hr, q⟩ := h x y H Q φ m px py h1 h2 h3 h4
  exact hr value slice pins s σ H x y v u Q I rx ry q hs
theorem o_ix : IxR X (fun v w H Q => ∃ φ m x y, RH X.K H φ m ∧ RV X.K H φ x v ∧ RV X.K H φ y w ∧ PostO X.K φ H (ixv x y m) Q) := IxR.ofQ fun v w H Q φ m x y h1 h2 h3 h4 => by
  unfold ixv at h4
  split at h4
  · rename_i n i
    cases h3
    split at h4
    · rename_i xs hs
      obtain ⟨p, vs, rfl, q1, q2⟩ := h1.seq h2 hs
      cases hx : L2.atI xs i with
      | none => rw [hx] at h4; exact h4.not.elim
      | some x =>
        rw [hx] at h4
        obtain ⟨v, e1, e2⟩ := q2.atI hx
        exact ⟨_, ix_list, p, vs, i, v, rfl, rfl, q1, e1, h4.same h1 e2⟩
    · exact h4.not.elim
  · rename_i xs i
    cases h3
    obtain ⟨p, vs, rfl, q1, q2⟩ := h2
    cases hx : L2.atI xs i with
    | none => rw [hx] at h4; exact h4.not.elim
    | some x =>
      rw [hx] at h4
      obtain ⟨v, e1, e2⟩ := q2.atI hx
      exact ⟨_, ix_tup, p, vs, i, v, rfl, rfl, q1, e1, h4.same h1 e2⟩
  · rename_i s i
    cases h2; cases h3
    split at h4
    · rename_i hz
      cases hx : L2.atI s i with
      | none => rw [hx] at h4; exact h4.not.elim
      | some x =>
        rw [hx] at h4
        exact ⟨_, ix_str, _, i, x, rfl, rfl, by rw [str_len, sl_eq]; exact hz, by simpa using hx, h4.same h1 rfl⟩
    · exact h4.not.elim
  · exact h4.not.elim
theorem q_ix (ha : QE X W a sa) (hb : QE X W b sb) (hs : PlainIx b) : QE X W (.Subscript a b pos) (sOp ixv sa sb) :=
  ⟨pe_imp (pe_ix o_ix ha.pe hb.pe hs) fun σ H Q h => (two h).mono fun v H1 h1 => Rdg.mono h1 fun w H2 ⟨φ, m, x, y, _, c1, c2, c3, c4⟩ => ⟨φ, m, x, y, c1, c2, c3, .of c4⟩⟩

/-! ## argument lists, displays -/
variable {e : Expr} {es : List Expr} {se : SE} {ses : SA}
def aNil : SA := fun _ m => .ok [] m
def aCons (a : SE) (r : SA) : SA := fun l m => (a l m).bind fun x m1 => (r l m1).bind fun xs m2 => .ok (x :: xs) m2
theorem a_nil : QA X W [] aNil := ⟨pa_imp pa_nil fun σ H Q ⟨φ, l, m, h1, h2, h3⟩ => h3 φ H [] Ext.refl h1 rfl⟩
theorem a_cons (he : QE X W e se) (hr : QA X W es ses) (hs : starEach (e :: es) X.env = (false, eval e X.env) :: starEach es X.env := by rfl) : QA X W (e :: es) (aCons se ses) :=
  ⟨pa_imp (pa_cons he.pe hr.pa hs) fun σ H Q ⟨φ, l, m, h1, h2, h3⟩ => ⟨φ, l, m, h1, h2, (Post.bind (rel := rV X.K) h2 h3).mono fun v H1 ⟨φ1, x, m1, e1, a1, b1, c1, d1⟩ =>
    ⟨φ1, l, m1, a1, b1, (Post.bind (rel := rA X.K) b1 d1).mono fun vs H2 ⟨φ2, xs, m2, e2, a2, b2, c2, d2⟩ => d2 φ2 H2 (v :: vs) Ext.refl a2 ⟨v, vs, rfl, RV.ext e2 c1, c2⟩⟩⟩⟩
theorem oneA {K : PySem.W.Frag} {a : SA} {σ : L2.St} {H : Hp} {α β : Type} {rel : SM.Rel α β} {k : List PV → MH → R α} {Q : β → Hp → Prop} (h : Rdg K rel W (fun l m => (a l m).bind fun x m1 => k x m1) σ H Q) :
    Rdg K (rA K) W a σ H fun v H1 => ∃ φ m x l, RH K H1 φ m ∧ RVs K H1 φ x v ∧ Post K rel W φ l σ H1 (k x m) Q := by
  obtain ⟨φ, l, m, h1, h2, h3⟩ := h
  refine ⟨φ, l, m, h1, h2, (Post.bind (rel := rA K) h2 h3).mono ?_⟩
  rintro v H1 ⟨φ1, x, m1, e1, a1, b1, c1, d1⟩
  exact ⟨φ1, m1, x, l, a1, c1, d1⟩
def sTup (s : SA) : SE := fun l m => (s l m).bind fun xs m1 => if xs.length ≤ 16777216 then .ok (.tup xs) m1 else .bad
def sLst (s : SA) : SE := fun l m => (s l m).bind fun xs m1 => if xs.length ≤ 16777216 then .ok (.ref m1.length) (m1 ++ [.lst xs]) else .bad
theorem q_tup {x1} (h : QA X W es ses) : QE X W (.Tuple es x1 pos) (sTup ses) := ⟨pe_imp (pe_tup h.pa) fun σ H Q q => (oneA q).mono fun vs H1 ⟨φ, m, xs, _, c1, c2, c3⟩ => by
  by_cases hz : xs.length ≤ 16777216
  · rw [if_pos hz] at c3
    exact ⟨by rw [c2.length, sl_eq]; exact hz, fun p np => by
      obtain ⟨e, a, b⟩ := c1.newT np c2
      exact c3 _ _ _ e a b⟩
  · rw [if_neg hz] at c3
    exact c3.elim⟩
theorem q_lst (h : QA X W es ses) : QE X W (.List es pos) (sLst ses) := ⟨pe_imp (pe_lst h.pa) fun σ H Q q => (oneA q).mono fun vs H1 ⟨φ, m, xs, _, c1, c2, c3⟩ => by
  by_cases hz : xs.length ≤ 16777216
  · rw [if_pos hz] at c3
    exact ⟨by rw [c2.length, sl_eq]; exact hz, fun p np => by
      obtain ⟨e, a, b⟩ := c1.newL np c2
      exact c3 _ _ _ e a b⟩
  · rw [if_neg hz] at c3
    exact c3.elim⟩

/-! ## calls of builtins -/
def CrQ (X : Cx) (f : Value) (op : List PV → MH → OR) : Prop := CallR X f fun vs H Q => ∃ φ m xs, RH X.K H φ m ∧ RVs X.K H φ xs vs ∧ PostO X.K φ H (op xs m) Q
def MtQ (X : Cx) (id : String) (op : PV → List PV → MH → OR) : Prop := MtR X id fun v vs H Q => ∃ φ m x xs, RH X.K H φ m ∧ RV X.K H φ x v ∧ RVs X.K H φ xs vs ∧ PostO X.K φ H (op x xs m) Q
def sCall (op : List PV → MH → OR) (a : SA) : SE := fun l m => (a l m).bind fun xs m1 => lift (op xs m1)
variable {x : Str} {p : Pos} {id T : String} {op : List PV → MH → OR}
theorem q_callB (hc : CrQ X (.builtin id) op) (hg : Gl X x) (hm : X.mg x = none) (hv : bootBuiltins x = some (.builtin id)) (ha : QA X W (e :: es) ses) (hn : x ≠ "__name__" := by decide) (hdb : (x == ("__debug__" : Str)) = false := by decide)
    (he : starEach (e :: es) X.env = (false, eval e X.env) :: starEach es X.env := by rfl) (hpl : (backTo pos (starEach es X.env)).any (·.1) = false := by rfl) : QE X W (.Call (.Name x p) (e :: es) [] pos) (sCall op ses) :=
  ⟨pe_imp (pe_callB hc hg hm hv ha.pa hn hdb he hpl) fun σ H Q q => (oneA q).mono fun vs H1 ⟨φ, m, xs, _, c1, c2, c3⟩ => ⟨φ, m, xs, c1, c2, .of c3⟩⟩
theorem q_callTy (hc : CrQ X (.type T) op) (hg : Gl X x) (hm : X.mg x = none) (hv : bootBuiltins x = some (.type T)) (ha : QA X W (e :: es) ses) (hn : x ≠ "__name__" := by decide) (hdb : (x == ("__debug__" : Str)) = false := by decide)
    (he : starEach (e :: es) X.env = (false, eval e X.env) :: starEach es X.env := by rfl) (hpl : (backTo pos (starEach es X.env)).any (·.1) = false := by rfl) : QE X W (.Call (.Name x p) (e :: es) [] pos) (sCall op ses) :=
  ⟨pe_imp (pe_callTy hc hg hm hv ha.pa hn hdb he hpl) fun σ H Q q => (oneA q).mono fun vs H1 ⟨φ, m, xs, _, c1, c2, c3⟩ => ⟨φ, m, xs, c1, c2, .of c3⟩⟩
theorem q_callF (hc : CrQ X (.builtin id) op) (hg : Gl X x) (hm : X.mg x = some (.builtin id)) (ha : QA X W (e :: es) ses) (hdb : (x == ("__debug__" : Str)) = false := by decide)
    (he : starEach (e :: es) X.env = (false, eval e X.env) :: starEach es X.env := by rfl) (hpl : (backTo pos (starEach es X.env)).any (·.1) = false := by rfl) : QE X W (.Call (.Name x p) (e :: es) [] pos) (sCall op ses) :=
  ⟨pe_imp (pe_callBfun hc hg hm ha.pa hdb he hpl) fun σ H Q q => (oneA q).mono fun vs H1 ⟨φ, m, xs, _, c1, c2, c3⟩ => ⟨φ, m, xs, c1, c2, .of c3⟩⟩
theorem CrQ.of {f : Value} {op : List PV → MH → OR} (h : ∀ (vs : List V) (H : Hp) (Q : VK) φ m xs, RH X.K H φ m → RVs X.K H φ xs vs → PostO X.K φ H (op xs m) Q → ∃ r, CallR X f r ∧ r vs H Q) : CrQ X f op := by
  intro pins s σ H xs us Q I rs ⟨φ, m, ps, h1, h2, h3⟩
  obtain ⟨r, hr, q⟩ := h xs H Q φ m ps h1 h2 h3
  exact hr pins s σ H xs us Q I rs q
theorem MtQ.of {op : PV → List PV → MH → OR} (h : ∀ (v : V) (vs : List V) (H : Hp) (Q : VK) φ m x xs, RH X.K H φ m → RV X.K H φ x v → RVs X.K H φ xs vs → PostO X.K φ H (op x xs m) Q → ∃ r, MtR X id r ∧ r v vs H Q) : MtQ X id op := by
  intro pins s σ H x xs v us Q I rx rs ⟨φ, m, px, ps, h1, h2, h3, h4⟩
  obtain ⟨r, hr, q⟩ := h x xs H Q φ m px ps h1 h2 h3 h4
  exact hr pins s σ H x xs v us Q I rx rs q
theorem RVs.one {K : PySem.W.Frag} {H : Hp} {φ : List Addr} {x : PV} {vs : List V} (h : RVs K H φ [x] vs) : ∃ v, vs = [v] ∧ RV K H φ x v := by
  obtain ⟨v, r, rfl, h1, h2⟩ := h
  cases h2
  exact ⟨v, rfl, h1⟩
theorem RVs.two {K : PySem.W.Frag} {H : Hp} {φ : List Addr} {x y : PV} {vs : List V} (h : RVs K H φ [x, y] vs) : ∃ v w, vs = [v, w] ∧ RV K H φ x v ∧ RV K H φ y w := by
  obtain ⟨v, r, rfl, h1, h2⟩ := h
  obtain ⟨w, rfl, h3⟩ := RVs.one h2
  exact ⟨v, w, rfl, h1, h3⟩
def lenv : List PV → MH → OR
  | [.ref n], m => (seq? m n).map fun xs => (.int xs.length, m)
  | [.tup xs], m => some (.int xs.length, m)
  | [.str s], m => if s.length ≤ 16777216 then some (.int s.length, m) else none
  | _, _ => none
theorem c_len : CrQ X (.builtin "len") lenv := .of fun vs H Q φ m xs h1 h2 h4 => by
  unfold lenv at h4
  split at h4
  · rename_i n
    obtain ⟨v, rfl, r⟩ := h2.one
    cases hs : seq? m n with
    | none => rw [hs] at h4; exact h4.not.elim
    | some xs =>
      rw [hs] at h4
      obtain ⟨p, vs, rfl, q1, q2⟩ := h1.seq r hs
      exact ⟨_, call_len_seq, p, vs, rfl, .inl q1, by rw [q2.length]; exact h4.same h1 rfl⟩
  · obtain ⟨v, rfl, p, vs, rfl, q1, q2⟩ := h2.one
    exact ⟨_, call_len_seq, p, vs, rfl, .inr q1, by rw [q2.length]; exact h4.same h1 rfl⟩
  · obtain ⟨v, rfl, r⟩ := h2.one
    cases r
    split at h4
    · rename_i hz
      exact ⟨_, call_len_str, _, rfl, by rw [str_len, sl_eq]; exact hz, by rw [str_len]; exact h4.same h1 rfl⟩
    · exact h4.not.elim
  · exact h4.not.elim
def absv : List PV → MH → OR
  | [.int i], m => some (.int (if i < 0 then -i else i), m)
  | _, _ => none
theorem c_abs : CrQ X (.builtin "abs") absv := .of fun vs H Q φ m xs h1 h2 h4 => by
  unfold absv at h4
  split at h4
  · obtain ⟨v, rfl, r⟩ := h2.one
    cases r
    exact ⟨_, call_abs, _, rfl, h4.same h1 rfl⟩
  · exact h4.not.elim
def max2v : List PV → MH → OR
  | [.int i, .int j], m => some (.int (if j > i then j else i), m)
  | _, _ => none
def min2v : List PV → MH → OR
  | [.int i, .int j], m => some (.int (if j < i then j else i), m)
  | _, _ => none
theorem c_max2 (hc : X.calm = true) : CrQ X (.builtin "max") max2v := .of fun vs H Q φ m xs h1 h2 h4 => by
  unfold max2v at h4
  split at h4
  · obtain ⟨v, w, rfl, r, r'⟩ := h2.two
    cases r; cases r'
    exact ⟨_, call_max2 hc, _, _, rfl, h4.same h1 rfl⟩
  · exact h4.not.elim
theorem c_min2 (hc : X.calm = true) : CrQ X (.builtin "min") min2v := .of fun vs H Q φ m xs h1 h2 h4 => by
  unfold min2v at h4
  split at h4
  · obtain ⟨v, w, rfl, r, r'⟩ := h2.two
    cases r; cases r'
    exact ⟨_, call_min2 hc, _, _, rfl, h4.same h1 rfl⟩
  · exact h4.not.elim
def intv : List PV → MH → OR
  | [.int i], m => some (.int i, m)
  | [.bl b], m => some (.int (if b then 1 else 0), m)
  | _, _ => none
theorem c_int : CrQ X (.type "int") intv := .of fun vs H Q φ m xs h1 h2 h4 => by
  unfold intv at h4
  split at h4
  · obtain ⟨v, rfl, r⟩ := h2.one
    cases r
    exact ⟨_, call_int1, .inl ⟨_, rfl, h4.same h1 rfl⟩⟩
  · obtain ⟨v, rfl, r⟩ := h2.one
    cases r
    exact ⟨_, call_int1, .inr ⟨_, rfl, h4.same h1 rfl⟩⟩
  · exact h4.not.elim
def gcdv : List PV → MH → OR
  | [.int i, .int j], m => some (.int (Nat.gcd i.natAbs j.natAbs : Nat), m)
  | _, _ => none
theorem c_gcd : CrQ X (.builtin "math.gcd") gcdv := .of fun vs H Q φ m xs h1 h2 h4 => by
  unfold gcdv at h4
  split at h4
  · obtain ⟨v, w, rfl, r, r'⟩ := h2.two
    cases r; cases r'
    exact ⟨_, cr_gcd, _, _, rfl, h4.same h1 rfl⟩
  · exact h4.not.elim

/-! ## isinstance -/
def tyName : PV → String
  | .non => "NoneType" | .bl _ => "bool" | .int _ => "int" | .str _ => "str" | .tup _ => "tuple" | .ref _ => "list"
def okTy (m : MH) : PV → Bool
  | .ref n => (seq? m n).isSome
  | _ => true
def isTab : String → String → Bool
  | "bool", "int" => true
  | a, b => a == b
theorem tyx_of {K : PySem.W.Frag} {H : Hp} {φ : List Addr} {m : MH} (h : RH K H φ m) : ∀ {x : PV} {v : V}, RV K H φ x v → okTy m x = true → TyX K H v (.type (tyName x))
  | .non, _, r, _ => by cases r; exact .base .non
  | .bl _, _, r, _ => by cases r; exact .base (.bl _)
  | .int _, _, r, _ => by cases r; exact .base (.int _)
  | .str _, _, r, _ => by cases r; exact .base (.str _)
  | .tup xs, v, r, _ => by
    obtain ⟨p, vs, rfl, q1, q2⟩ := r
    rcases q1 with (q | ⟨o, q⟩) | ⟨o, its, n, q, c, _⟩
    · exact .base (.tup q)
    · exact .fTuple q
    · exact .kTuple q c
  | .ref n, v, r, hk => by
    simp only [okTy] at hk
    cases hs : seq? m n with
    | none => rw [hs] at hk; cases hk
    | some xs =>
      obtain ⟨p, vs, rfl, q1, q2⟩ := h.seq r hs
      rcases q1 with (q | ⟨o, q⟩) | ⟨o, its, n, q, c, _⟩
      · exact .base (.lst q)
      · exact .base (.frz q)
      · exact .kList q c
theorem kit_tab : ∀ a ∈ ["NoneType", "bool", "int", "str", "tuple", "list"], ∀ T ∈ ["list", "tuple", "bool", "str", "int"], kitB a T = some (isTab a T) := by decide +kernel
theorem kit_all {K : PySem.W.Frag} {T : String} (hT : T = "list" ∨ T = "tuple" ∨ T = "bool" ∨ T = "str" ∨ T = "int") (x : PV) : PySem.W.kitOne K (.type (tyName x)) (.type T) = some (isTab (tyName x) T) := by
  refine kit_ty (kit_tab _ ?_ _ ?_)
  · cases x <;> simp [tyName]
  · simpa using hT
def sIsi (T : String) (a : SE) : SE := fun l m => (a l m).bind fun x m1 => if okTy m1 x = true then .ok (.bl (isTab (tyName x) T)) m1 else .bad
theorem q_isi {Tn : Str} {pT : Pos} (hT : T = "list" ∨ T = "tuple" ∨ T = "bool" ∨ T = "str" ∨ T = "int") (hg : Gl X "isinstance") (hm : X.mg "isinstance" = none) (hgT : Gl X Tn) (hmT : X.mg Tn = none) (hvT : bootBuiltins Tn = some (.type T)) (ha : QE X W a sa)
    (hn : Tn ≠ "__name__" := by decide) (hd : (Tn == ("__debug__" : Str)) = false := by decide)
    (he : starEach [a, .Name Tn pT] X.env = [(false, eval a X.env), (false, eval (.Name Tn pT) X.env)] := by rfl)
    (he2 : starEach [.Name Tn pT] X.env = [(false, eval (.Name Tn pT) X.env)] := by rfl) :
    QE X W (.Call (.Name "isinstance" p) [a, .Name Tn pT] [] pos) (sIsi T sa) :=
  ⟨pe_imp (pe_callB call_isi hg hm (by decide +kernel) (pa_cons ha.pe (pa_cons (pe_bltn (v := .ty T) hgT hmT hvT rfl hn hd) pa_nil (by rw [he2] <;> rfl)) (by rw [he, he2])) (by decide) (by decide) (by rw [he, he2]) (by rw [he2] <;> rfl)) fun σ H Q h => (one h).mono fun v H1 ⟨φ, m, x, _, c1, c2, c4⟩ => by
    by_cases hk : okTy m x = true
    · rw [if_pos hk] at c4
      exact ⟨v, .ty T, _, _, _, rfl, .ty T, tyx_of c1 c2 hk, kit_all hT x, c4 φ H1 _ Ext.refl c1 rfl⟩
    · rw [if_neg hk] at c4
      exact c4.elim⟩

/-! ## methods of built-in types -/
def isLst (m : MH) : PV → Bool
  | .ref n => (seq? m n).isSome
  | _ => false
def isStr : PV → Bool
  | .str _ => true
  | _ => false
def sMeth (ty : MH → PV → Bool) (op : PV → List PV → MH → OR) (o : SE) (a : SA) : SE := fun l m => (o l m).bind fun x m1 => if ty m1 x = true then (a l m1).bind fun xs m2 => lift (op x xs m2) else .bad
def TyQ (X : Cx) (T : String) (ty : MH → PV → Bool) : Prop := ∀ H φ m x v, RH X.K H φ m → RV X.K H φ x v → ty m x = true → tyV X.K T v H
theorem ty_list : TyQ X "list" isLst := fun H φ m x v h r e => by
  cases x with
  | ref n =>
    simp only [isLst] at e
    cases hs : seq? m n with
    | none => rw [hs] at e; cases e
    | some xs =>
      obtain ⟨p, vs, rfl, q1, q2⟩ := h.seq r hs
      exact .inl ⟨rfl, vs, q1⟩
  | _ => cases e
theorem ty_str : TyQ X "str" (fun _ => isStr) := fun H φ m x v h r e => by
  cases x with
  | str s => cases r; rfl
  | _ => cases e
variable {o : Expr} {name : Str} {apos cpos : Pos} {ty : MH → PV → Bool} {mop : PV → List PV → MH → OR} {so : SE}
theorem q_m (hty : TyQ X T ty) (pa : PlainAttrs T) (slot : Slot T name id) (hty' : typeOf (.builtin id) = pure (.type "method_descriptor")) (hm : MtQ X id mop) (ho : QE X W o so) (ha : QA X W (e :: es) ses)
    (hbase : attributeBase o name X.env (eval o X.env) = eval o X.env := by rfl)
    (hfew : ((backTo cpos (starEach (e :: es) X.env)).all (fun x => !x.1) && (backToKw cpos (keywordEach [] X.env)).all (fun x => x.1.isSome)
      && decide ((e :: es).length + ([] : List Keyword).length + (if ([] : List Keyword).isEmpty then 0 else 1) < 30)) = true := by rfl)
    (hline : (apos.endLine == cpos.line) = true := by rfl) (hs : starEach (e :: es) X.env = (false, eval e X.env) :: starEach es X.env := by rfl) (hplain : (backTo cpos (starEach es X.env)).any (·.1) = false := by rfl) :
    QE X W (.Call (.Attribute o name apos) (e :: es) [] cpos) (sMeth ty mop so ses) :=
  ⟨pe_imp (pe_bm pa slot hty' hm ho.pe ha.pa hbase hfew hline hs hplain) fun σ H Q ⟨φ, l, m, h1, h2, h3⟩ => ⟨φ, l, m, h1, h2, (Post.bind (rel := rV X.K) h2 h3).mono fun v H1 ⟨φ1, x, m1, e1, a1, b1, c1, d1⟩ => by
    by_cases hk : ty m1 x = true
    · rw [if_pos hk] at d1
      exact ⟨hty _ _ _ _ _ a1 c1 hk, φ1, l, m1, a1, b1, (Post.bind (rel := rA X.K) b1 d1).mono fun vs H2 ⟨φ2, xs, m2, e2, a2, b2, c2, d2⟩ => ⟨φ2, m2, x, xs, a2, RV.ext e2 c1, c2, .of d2⟩⟩
    · rw [if_neg hk] at d1
      exact d1.elim⟩⟩
theorem q_m0 (hty : TyQ X T ty) (pa : PlainAttrs T) (slot : Slot T name id) (hty' : typeOf (.builtin id) = pure (.type "method_descriptor")) (hm : MtQ X id mop) (ho : QE X W o so)
    (hbase : attributeBase o name X.env (eval o X.env) = eval o X.env := by rfl) (hline : (apos.endLine == cpos.line) = true := by rfl) : QE X W (.Call (.Attribute o name apos) [] [] cpos) (sMeth ty mop so aNil) :=
  ⟨pe_imp (pe_bm0 pa slot hty' hm ho.pe hbase hline) fun σ H Q ⟨φ, l, m, h1, h2, h3⟩ => ⟨φ, l, m, h1, h2, (Post.bind (rel := rV X.K) h2 h3).mono fun v H1 ⟨φ1, x, m1, e1, a1, b1, c1, d1⟩ => by
    by_cases hk : ty m1 x = true
    · rw [if_pos hk] at d1
      exact ⟨hty _ _ _ _ _ a1 c1 hk, φ1, m1, x, [], a1, c1, rfl, .of d1⟩
    · rw [if_neg hk] at d1
      exact d1.elim⟩⟩
def appendv : PV → List PV → MH → OR
  | .ref n, [y], m => match lst? m n with
    | some xs => if xs.length < 16777216 then some (.non, m.set n (.lst (xs ++ [y]))) else none
    | none => none
  | _, _, _ => none
theorem m_append : MtQ X "list.append" appendv := .of fun v vs H Q φ m x xs h1 h2 h3 h4 => by
  unfold appendv at h4
  split at h4
  · rename_i n y
    split at h4
    · rename_i ys hs
      split at h4
      · rename_i hz
        obtain ⟨w, rfl, r⟩ := h3.one
        obtain ⟨p, ws, e1, rfl, q1, q2⟩ := h1.lst h2 hs
        obtain ⟨z, m', e, q⟩ := h4
        cases e
        refine ⟨_, mt_append, p, ws, w, rfl, rfl, q1, by rw [q2.length, sl_eq]; exact hz, ?_⟩
        obtain ⟨e2, e3⟩ := h1.setL e1 (lst_some hs) (q2.append (show RVs X.K H φ [y] [w] from ⟨w, [], rfl, r, rfl⟩))
        exact q _ _ _ e2 e3 rfl
      · exact h4.not.elim
    · exact h4.not.elim
  · exact h4.not.elim
end
end SM

set_option Elab.async false
set_option linter.all false
set_option maxRecDepth 100000
set_option maxHeartbeats 1000000
namespace SM
open PySem PySem.Spec PyProof.Rows L2

/-! ## tests -/
def asB : PV → MH → R Bool
  | .bl b, m => .ok b m
  | _, _ => .bad
def truv (m : MH) : PV → Option Bool
  | .non => some false
  | .bl b => some b
  | .int i => some (i != 0)
  | .str s => if s.length ≤ 16777216 then some (!s.isEmpty) else none
  | .tup xs => some (!xs.isEmpty)
  | .ref n => (seq? m n).map fun xs => !xs.isEmpty
def tTru (s : SE) : SB := fun l m => (s l m).bind fun x m1 => match truv m1 x with
  | some b => .ok b m1
  | none => .bad
def tBool (s : SE) : SB := fun l m => (s l m).bind asB
def tNotS (s : SB) : SB := fun l m => (s l m).bind fun b m1 => .ok (!b) m1
def tAndS (s t : SB) : SB := fun l m => (s l m).bind fun b m1 => if b = true then t l m1 else .ok false m1
def tOrS (s t : SB) : SB := fun l m => (s l m).bind fun b m1 => if b = true then .ok true m1 else t l m1
def sChain (f g : PV → PV → MH → OR) (a b c : SE) : SE := fun l m => (a l m).bind fun x m1 => (b l m1).bind fun y m2 => (lift (f x y m2)).bind fun z m3 => (asB z m3).bind fun k m4 => if k = true then (c l m4).bind fun u m5 => lift (g y u m5) else .ok (.bl false) m4
def sIf (t : SB) (a b : SE) : SE := fun l m => (t l m).bind fun k m1 => if k = true then a l m1 else b l m1
def sAndV (a b : SE) : SE := fun l m => (a l m).bind fun x m1 => (asB x m1).bind fun k m2 => if k = true then b l m2 else .ok (.bl false) m2
def sOrV (a b : SE) : SE := fun l m => (a l m).bind fun x m1 => (asB x m1).bind fun k m2 => if k = true then .ok (.bl true) m2 else b l m2
def sNotV (a : SE) : SE := fun l m => (a l m).bind fun x m1 => (asB x m1).bind fun k m2 => .ok (.bl (!k)) m2
theorem isEmpty_len {α β : Type} {xs : List α} {ys : List β} (h : xs.length = ys.length) : xs.isEmpty = ys.isEmpty := by
  cases xs <;> cases ys <;> simp at h <;> rfl
section
variable {K : PySem.W.Frag} {H : Hp} {φ : List Addr} {m : MH} {W : XM} {l : Loc} {σ : L2.St}
theorem truv_of (h : RH K H φ m) : ∀ {x : PV} {v : V} {b : Bool}, RV K H φ x v → truv m x = some b → TruV K v H b
  | .non, _, _, r, e => by cases r; cases e; rfl
  | .bl _, _, _, r, e => by cases r; cases e; rfl
  | .int _, _, _, r, e => by cases r; cases e; rfl
  | .str s, _, b, r, e => by
    cases r
    simp only [truv] at e
    split at e
    · rename_i hz
      cases e
      refine ⟨by rw [str_len, sl_eq]; exact hz, ?_⟩
      rw [str_len]
      cases s with
      | nil => rfl
      | cons a s =>
        have hne : (((a :: s).length : Nat) : Int) ≠ 0 := by simp; omega
        rw [bne_iff_ne.mpr hne]; rfl
    · cases e
  | .tup xs, v, b, r, e => by
    obtain ⟨p, vs, rfl, q1, q2⟩ := r
    cases e
    exact .inr (.inl ⟨vs, q1, by rw [isEmpty_len q2.length]⟩)
  | .ref n, v, b, r, e => by
    simp only [truv] at e
    cases hs : seq? m n with
    | none => rw [hs] at e; cases e
    | some xs =>
      rw [hs] at e
      obtain ⟨p, vs, rfl, q1, q2⟩ := h.seq r hs
      cases e
      exact .inl ⟨vs, q1, by rw [isEmpty_len q2.length]⟩
theorem post_asB {x : PV} {v : V} {Q : Bool → Hp → Prop} (h1 : RH K H φ m) (r : RV K H φ x v) (h : Post K rB W φ l σ H (asB x m) Q) : ∃ k, v = .bl k ∧ Q k H := by
  unfold asB at h
  split at h
  · cases r
    exact ⟨_, rfl, h φ H _ Ext.refl h1 rfl⟩
  · exact h.elim
theorem post_asB' {α β : Type} {rel : Rel α β} {x : PV} {v : V} {k : Bool → MH → R α} {Q : β → Hp → Prop} (r : RV K H φ x v) (h : Post K rel W φ l σ H ((asB x m).bind k) Q) : ∃ c, v = .bl c ∧ Post K rel W φ l σ H (k c m) Q := by
  unfold asB at h
  split at h
  · cases r
    exact ⟨_, rfl, h⟩
  · exact h.elim
end
/-- how a heap op goes on -/
theorem PostO.bind {K : PySem.W.Frag} {W : XM} {φ : List Addr} {l : Loc} {σ : L2.St} {H : Hp} {o : OR} {α β : Type} {rel : Rel α β} {k : PV → MH → R α} {Q : β → Hp → Prop} (hl : RL K H φ l σ) (h : Post K rel W φ l σ H ((lift o).bind k) Q) :
    PostO K φ H o (fun v H1 => ∃ φ1 x m1, Ext K φ H φ1 H1 ∧ RH K H1 φ1 m1 ∧ RL K H1 φ1 l σ ∧ RV K H1 φ1 x v ∧ Post K rel W φ1 l σ H1 (k x m1) Q) := .of (Post.bind hl h)
section
variable {X : Cx} {W : XM} {a b c e : Expr} {sa sb sc s : SE} {ta tb : SB} {pos : Pos} {rest : List Expr}
theorem t_val (h : QE X W e s) (he : ∀ whole, isTrue e X.env whole = (do let v ← whole; standAt e.pos; holding [v] (truthy v)) := by intro _; rfl) : QT X W e (tTru s) :=
  ⟨pt_imp (pt_truth h.pe he) fun σ H Q q => (one q).mono fun v H1 ⟨φ, m, x, l, c1, c2, c3⟩ => by
    cases ht : truv m x with
    | none => rw [ht] at c3; exact c3.elim
    | some b =>
      rw [ht] at c3
      exact ⟨b, truv_of c1 c2 ht, c3 φ H1 b Ext.refl c1 rfl⟩⟩
theorem Rdg.asB' {σ : L2.St} {H : Hp} {Q : Bool → Hp → Prop} {K : PySem.W.Frag} (h : Rdg K rB W (tBool s) σ H Q) : Rdg K (rV K) W s σ H fun v H1 => ∃ k, v = .bl k ∧ Q k H1 := by
  obtain ⟨φ, l, m, h1, h2, h3⟩ := h
  refine ⟨φ, l, m, h1, h2, (Post.bind (rel := rV K) h2 h3).mono fun v H1 ⟨φ1, x, m1, e1, a1, b1, c1, d1⟩ => post_asB a1 c1 d1⟩
/-- a test's two readings -/
theorem t_cmp {op : CmpOp} {f : PV → PV → MH → OR} (ho : OpQ X (compareOp op) f) (ha : QE X W a sa) (hb : QE X W b sb) (hm : behindInMarks op b = false) : QT X W (.Compare a [op] [b] pos) (tBool (sOp f sa sb)) :=
  ⟨pt_imp (pt_cmpR ho ha.pe hb.pe hm) fun σ H Q h => (two (Rdg.asB' h)).mono fun v H1 h1 => Rdg.mono h1 fun w H2 ⟨φ, m, x, y, _, c1, c2, c3, c4⟩ => ⟨φ, m, x, y, c1, c2, c3, .of c4⟩⟩
theorem chain_at {f g : PV → PV → MH → OR} {α β : Type} {rel : SM.Rel α β} {kk : R PV → R α} {σ : L2.St} {H : Hp} {Q : VK} (h : Rdg X.K (rV X.K) W (sChain f g sa sb sc) σ H Q) :
    tChain (fun v w H Q => ∃ φ m x y, RH X.K H φ m ∧ RV X.K H φ x v ∧ RV X.K H φ y w ∧ PostO X.K φ H (f x y m) Q) (fun v w H Q => ∃ φ m x y, RH X.K H φ m ∧ RV X.K H φ x v ∧ RV X.K H φ y w ∧ PostO X.K φ H (g x y m) Q)
      (Rdg X.K (rV X.K) W sa) (Rdg X.K (rV X.K) W sb) (Rdg X.K (rV X.K) W sc) σ H Q := by
  obtain ⟨φ, l, m, h1, h2, h3⟩ := h
  refine ⟨φ, l, m, h1, h2, (Post.bind (rel := rV X.K) h2 h3).mono fun v H1 ⟨φ1, x, m1, e1, a1, b1, c1, d1⟩ => ⟨φ1, l, m1, a1, b1, (Post.bind (rel := rV X.K) b1 d1).mono fun w H2 ⟨φ2, y, m2, e2, a2, b2, c2, d2⟩ => ⟨φ2, m2, x, y, a2, RV.ext e2 c1, c2, ?_⟩⟩⟩
  obtain ⟨z, m3, e3, q3⟩ := PostO.bind b2 d2
  refine ⟨z, m3, e3, fun φ' H' v' f1 f2 f3 => ?_⟩
  obtain ⟨φ4, x4, m4, g1, g2, g3, g4, g5⟩ := q3 φ' H' v' f1 f2 f3
  obtain ⟨k, rfl, g6⟩ := post_asB' g4 g5
  refine ⟨k, rfl, ?_⟩
  cases k with
  | true =>
    refine iteT ⟨φ4, l, m4, g2, g3, (Post.bind (rel := rV X.K) g3 g6).mono fun u H5 ⟨φ5, u', m5, e5, a5, b5, c5, d5⟩ => ⟨φ5, m5, y, u', a5, RV.ext e5 (RV.ext g1 c2), c5, .of d5⟩⟩
  | false => exact iteF (g6 φ4 H' _ Ext.refl g2 rfl)
theorem q_chain {op op' : CmpOp} {f g : PV → PV → MH → OR} (ho : OpQ X (compareOp op) f) (ho' : OpQ X (compareOp op') g) (ha : QE X W a sa) (hb : QE X W b sb) (hc : QE X W c sc)
    (hm : lastMarks [op, op'] [b, c] = false := by with_unfolding_all rfl) : QE X W (.Compare a [op, op'] [b, c] pos) (sChain f g sa sb sc) :=
  ⟨pe_imp (pe_chain ho ho' ha.pe hb.pe hc.pe hm) fun σ H Q h => chain_at (rel := rB) (kk := fun _ => .bad) h⟩
theorem t_chain {op op' : CmpOp} {f g : PV → PV → MH → OR} (ho : OpQ X (compareOp op) f) (ho' : OpQ X (compareOp op') g) (ha : QE X W a sa) (hb : QE X W b sb) (hc : QE X W c sc)
    (hm : lastMarks [op, op'] [b, c] = false := by with_unfolding_all rfl) : QT X W (.Compare a [op, op'] [b, c] pos) (tBool (sChain f g sa sb sc)) :=
  ⟨pt_imp (pt_chain ho ho' ha.pe hb.pe hc.pe hm) fun σ H Q h => chain_at (rel := rB) (kk := fun _ => .bad) (Rdg.asB' h)⟩
/-- two tests in a row -/
theorem oneB {K : PySem.W.Frag} {a : SB} {σ : L2.St} {H : Hp} {α β : Type} {rel : SM.Rel α β} {k : Loc → Bool → MH → R α} {Q : β → Hp → Prop} (h : Rdg K rel W (fun l m => (a l m).bind fun x m1 => k l x m1) σ H Q) :
    Rdg K rB W a σ H fun v H1 => ∃ φ m l, RH K H1 φ m ∧ RL K H1 φ l σ ∧ Post K rel W φ l σ H1 (k l v m) Q := by
  obtain ⟨φ, l, m, h1, h2, h3⟩ := h
  refine ⟨φ, l, m, h1, h2, (Post.bind (rel := rB) h2 h3).mono ?_⟩
  rintro v H1 ⟨φ1, x, m1, e1, a1, b1, rfl, d1⟩
  exact ⟨φ1, m1, l, a1, b1, d1⟩
theorem w_and1 (ha : QT X W a ta) : QW X W (.BoolOp .And [a] pos) ta := ⟨pw_imp (pw_and1 ha.pt) fun _ _ _ h => h⟩
theorem w_or1 (ha : QT X W a ta) : QW X W (.BoolOp .Or [a] pos) ta := ⟨pw_imp (pw_or1 ha.pt) fun _ _ _ h => h⟩
theorem w_and (ha : QT X W a ta) (hb : QW X W (.BoolOp .And (b :: rest) pos) tb) : QW X W (.BoolOp .And (a :: b :: rest) pos) (tAndS ta tb) :=
  ⟨pw_imp (pw_and ha.pt hb.pw) fun σ H Q h => (oneB h).mono fun v H1 ⟨φ, m, l, c1, c2, c3⟩ => by
    cases v with
    | true => exact iteT ⟨φ, l, m, c1, c2, c3⟩
    | false => exact iteF (c3 φ H1 _ Ext.refl c1 rfl)⟩
theorem w_or (ha : QT X W a ta) (hb : QW X W (.BoolOp .Or (b :: rest) pos) tb) : QW X W (.BoolOp .Or (a :: b :: rest) pos) (tOrS ta tb) :=
  ⟨pw_imp (pw_or ha.pt hb.pw) fun σ H Q h => (oneB h).mono fun v H1 ⟨φ, m, l, c1, c2, c3⟩ => by
    cases v with
    | false => exact iteF ⟨φ, l, m, c1, c2, c3⟩
    | true => exact iteT (c3 φ H1 _ Ext.refl c1 rfl)⟩
theorem t_w (h : QW X W e ta) : QT X W e ta := ⟨h.pw.pt⟩
theorem t_not (ha : QT X W a ta) : QT X W (.UnaryOp .Not a pos) (tNotS ta) :=
  ⟨pt_imp (pt_not ha.pt) fun σ H Q h => (oneB h).mono fun v H1 ⟨φ, m, l, c1, c2, c3⟩ => c3 φ H1 _ Ext.refl c1 rfl⟩
theorem q_ifx (ht : QT X W c ta) (ha : QE X W a sa) (hb : QE X W b sb) : QE X W (.IfExp c a b pos) (sIf ta sa sb) :=
  ⟨pe_imp (pe_ifExp ht.pt ha.pe hb.pe) fun σ H Q h => (oneB h).mono fun v H1 ⟨φ, m, l, c1, c2, c3⟩ => by
    cases v with
    | true => exact iteT ⟨φ, l, m, c1, c2, c3⟩
    | false => exact iteF ⟨φ, l, m, c1, c2, c3⟩⟩
theorem q_bo1 {op} (ha : QE X W a sa) : QE X W (.BoolOp op [a] pos) sa := ⟨pe_one ha.pe⟩
theorem oneL {K : PySem.W.Frag} {a : SE} {σ : L2.St} {H : Hp} {α β : Type} {rel : SM.Rel α β} {k : Loc → PV → MH → R α} {Q : β → Hp → Prop} (h : Rdg K rel W (fun l m => (a l m).bind fun x m1 => k l x m1) σ H Q) :
    Rdg K (rV K) W a σ H fun v H1 => ∃ φ m x l, RH K H1 φ m ∧ RL K H1 φ l σ ∧ RV K H1 φ x v ∧ Post K rel W φ l σ H1 (k l x m) Q := by
  obtain ⟨φ, l, m, h1, h2, h3⟩ := h
  refine ⟨φ, l, m, h1, h2, (Post.bind (rel := rV K) h2 h3).mono ?_⟩
  rintro v H1 ⟨φ1, x, m1, e1, a1, b1, c1, d1⟩
  exact ⟨φ1, m1, x, l, a1, b1, c1, d1⟩
theorem q_and (ha : QE X W a sa) (hb : QE X W (.BoolOp .And (b :: rest) pos) sb) : QE X W (.BoolOp .And (a :: b :: rest) pos) (sAndV sa sb) :=
  ⟨pe_imp (pe_and ha.pe hb.pe) fun σ H Q h => (oneL h).mono fun v H1 ⟨φ, m, x, l, c1, c2, c3, c4⟩ => by
    obtain ⟨k, rfl, c5⟩ := post_asB' c3 c4
    refine ⟨k, rfl, ?_⟩
    cases k with
    | true => exact iteT ⟨φ, l, m, c1, c2, c5⟩
    | false => exact iteF (c5 φ H1 _ Ext.refl c1 rfl)⟩
theorem q_or (ha : QE X W a sa) (hb : QE X W (.BoolOp .Or (b :: rest) pos) sb) : QE X W (.BoolOp .Or (a :: b :: rest) pos) (sOrV sa sb) :=
  ⟨pe_imp (pe_or ha.pe hb.pe) fun σ H Q h => (oneL h).mono fun v H1 ⟨φ, m, x, l, c1, c2, c3, c4⟩ => by
    obtain ⟨k, rfl, c5⟩ := post_asB' c3 c4
    refine ⟨k, rfl, ?_⟩
    cases k with
    | false => exact iteF ⟨φ, l, m, c1, c2, c5⟩
    | true => exact iteT (c5 φ H1 _ Ext.refl c1 rfl)⟩
theorem q_not (ha : QE X W a sa) : QE X W (.UnaryOp .Not a pos) (sNotV sa) :=
  ⟨pe_imp (pe_not ha.pe) fun σ H Q h => (oneL h).mono fun v H1 ⟨φ, m, x, l, c1, c2, c3, c4⟩ => by
    obtain ⟨k, rfl, c5⟩ := post_asB' c3 c4
    exact ⟨k, rfl, c5 φ H1 _ Ext.refl c1 rfl⟩⟩
end

/-! ## calls of own defs that raise nothing -/
abbrev FS := List PV → MH → R PV
def PostC (K : PySem.W.Frag) (φ : List Addr) (H : Hp) (r : R PV) (Q : VK) : Prop := match r with
  | .ok x m => ∀ φ' H' v, Ext K φ H φ' H' → RH K H' φ' m → RV K H' φ' x v → Q v H'
  | _ => False
def SpQ (K : PySem.W.Frag) (n : Nat) (f : FS) : Sp := fun vs H Q _ => vs.length = n ∧ ∃ φ m xs, RH K H φ m ∧ RVs K H φ xs vs ∧ PostC K φ H (f xs m) Q
def Cal (P : Program) (w : World) (K : PySem.W.Frag) (mg : Str → Option Value) (base : Heap) (x : Str) (n k : Nat) (f : FS) : Prop :=
  ∃ (fa : Addr) (fd : FuncData) (ps : List Str), ps.length = n ∧ FnOk P w K mg base CX0 k fa fd ps (SpQ K n f) ∧ mg x = some (.ref fa) ∧ PySem.W.keepIn K (.ref fa) = true ∧ Binds K fd ps []
def noex (r : R PV) : R PV := match r with
  | .ok x m => .ok x m
  | _ => .bad
def sCallU (n : Nat) (f : FS) (a : SA) : SE := fun l m => (a l m).bind fun xs m1 => if xs.length = n then noex (f xs m1) else .bad
section
variable {X : Cx} {W : XM} {e : Expr} {es : List Expr} {ses : SA} {x : Str} {p pos : Pos} {n k j : Nat} {f : FS}
theorem q_call (C : Cal X.prog X.w X.K X.mg X.base x n k f) (hr : Room j X.A) (hk : k ≤ j) (hg : Gl X x) (ha : QA X W (e :: es) ses) (hdb : (x == ("__debug__" : Str)) = false := by decide)
    (he : starEach (e :: es) X.env = (false, eval e X.env) :: starEach es X.env := by rfl) (hpl : (backTo pos (starEach es X.env)).any (·.1) = false := by rfl) : QE X W (.Call (.Name x p) (e :: es) [] pos) (sCallU n f ses) := by
  obtain ⟨fa, fd, ps, hps, F, hm, hkp, hb⟩ := C
  refine ⟨pe_imp (pe_call (E := E0) F (hr.mono hk) hg hm hkp hb .nil pass0 ha.pa hdb he hpl) fun σ H Q q => (oneA q).mono fun vs H1 ⟨φ, m, xs, l, c1, c2, c3⟩ => ?_⟩
  rw [List.append_nil]
  by_cases hz : xs.length = n
  · rw [if_pos hz] at c3
    refine ⟨by rw [c2.length]; exact hz, φ, m, xs, c1, c2, ?_⟩
    cases hf : f xs m with
    | ok y m' => rw [hf] at c3; exact c3
    | ex c fs m' => rw [hf] at c3; exact c3.elim
    | bad => rw [hf] at c3; exact c3.elim
  · rw [if_neg hz] at c3
    exact c3.elim
end

/-! ## statements -/
def PostS (K : PySem.W.Frag) (W : XM) (φ : List Addr) (H : Hp) (r : RS) (D : Ends) : Prop := match r with
  | .nx l m => ∀ φ' σ' H', Ext K φ H φ' H' → RH K H' φ' m → RL K H' φ' l σ' → D.nx σ' H'
  | .bk l m => ∀ φ' σ' H', Ext K φ H φ' H' → RH K H' φ' m → RL K H' φ' l σ' → D.bk σ' H'
  | .ct l m => ∀ φ' σ' H', Ext K φ H φ' H' → RH K H' φ' m → RL K H' φ' l σ' → D.ct σ' H'
  | .rt x m => ∀ φ' H' v, Ext K φ H φ' H' → RH K H' φ' m → RV K H' φ' x v → D.rt v H'
  | .ex c fs l m => ∀ φ' σ' H', Ext K φ H φ' H' → RH K H' φ' m → RL K H' φ' l σ' → W c fs φ' l m σ' H'
  | .bad => False
def RdS (K : PySem.W.Frag) (W : XM) (s : SS) : TS := fun D σ H => ∃ φ l m, RH K H φ m ∧ RL K H φ l σ ∧ PostS K W φ H (s l m) D
structure QS (X : Cx) (W : XM) (st : Stmt) (s : SS) : Prop where
  ps : PS X st (RdS X.K W s)
structure QSs (X : Cx) (W : XM) (st : List Stmt) (s : SS) : Prop where
  ps : PSs X st (RdS X.K W s)
theorem ps_imp {X : Cx} {e : Stmt} {t t' : TS} (h : PS X e t) (i : ∀ D σ H, t' D σ H → t D σ H) : PS X e t' := ⟨fun pins s σ H D I q => h.run pins s σ H D I (i D σ H q)⟩
theorem pss_imp {X : Cx} {e : List Stmt} {t t' : TS} (h : PSs X e t) (i : ∀ D σ H, t' D σ H → t D σ H) : PSs X e t' := ⟨fun pins s σ H D I q => h.run pins s σ H D I (i D σ H q)⟩
section
variable {K : PySem.W.Frag} {W : XM} {φ φ' : List Addr} {H H' : Hp} {r : RS} {D D' : Ends}
theorem PostS.ext (e : Ext K φ H φ' H') (h : PostS K W φ H r D) : PostS K W φ' H' r D := by
  cases r with
  | nx l m => exact fun φ2 σ2 H2 e2 => h φ2 σ2 H2 (e.trans e2)
  | bk l m => exact fun φ2 σ2 H2 e2 => h φ2 σ2 H2 (e.trans e2)
  | ct l m => exact fun φ2 σ2 H2 e2 => h φ2 σ2 H2 (e.trans e2)
  | rt x m => exact fun φ2 H2 v e2 => h φ2 H2 v (e.trans e2)
  | ex c fs l m => exact fun φ2 σ2 H2 e2 => h φ2 σ2 H2 (e.trans e2)
  | bad => exact h
/-- an expression's end, then the statement's -/
theorem PostS.then {α β : Type} {rel : Rel α β} {e : R α} {k : α → MH → RS} {l : Loc} {σ : L2.St} (hl : RL K H φ l σ) (h : PostS K W φ H (R.then l e k) D) :
    Post K rel W φ l σ H e (fun v H1 => ∃ φ1 x m1, Ext K φ H φ1 H1 ∧ RH K H1 φ1 m1 ∧ RL K H1 φ1 l σ ∧ rel H1 φ1 x v ∧ PostS K W φ1 H1 (k x m1) D) := by
  cases e with
  | ok x m => exact fun φ2 H2 v e a b => ⟨φ2, x, m, e, a, hl.ext e, b, PostS.ext e h⟩
  | ex c fs m => exact fun φ2 H2 e a => h φ2 σ H2 e a (hl.ext e)
  | bad => exact h
end
def xNil : SS := fun l m => .nx l m
def xSeq (s t : SS) : SS := fun l m => (s l m).seq t
def xBrk : SS := fun l m => .bk l m
def xCnt : SS := fun l m => .ct l m
def xExpr (s : SE) : SS := fun l m => R.then l (s l m) fun _ m1 => .nx l m1
def xRet (s : SE) : SS := fun l m => R.then l (s l m) fun x m1 => .rt x m1
def xRetN : SS := fun _ m => .rt .non m
def xIf (t : SB) (a b : SS) : SS := fun l m => R.then l (t l m) fun k m1 => if k = true then a l m1 else b l m1
def xSet (i : Nat) (s : SE) : SS := fun l m => R.then l (s l m) fun x m1 => .nx (l.set i (some x)) m1
def xPar (i j : Nat) (a b : SE) : SS := fun l m => R.then l (a l m) fun x m1 => R.then l (b l m1) fun y m2 => .nx ((l.set i (some x)).set j (some y)) m2
abbrev STg := PV → Loc → MH → Option (Loc × MH)
def xAsg (s : SE) (g : STg) : SS := fun l m => R.then l (s l m) fun x m1 => match g x l m1 with
  | some (l', m') => .nx l' m'
  | none => .bad
theorem RL.set {K : PySem.W.Frag} {H : Hp} {φ : List Addr} {l : Loc} {σ : L2.St} {x : PV} {v : V} (h : RL K H φ l σ) (i : Nat) (r : RV K H φ x v) : RL K H φ (l.set i (some x)) (σ.set i (some v)) := by
  refine ⟨by simp [h.1], fun j y e => ?_⟩
  by_cases hj : i = j
  · subst hj
    by_cases hi : i < l.length
    · rw [List.getElem?_set_self hi] at e
      cases e
      exact ⟨v, by rw [List.getElem?_set_self (by rw [← h.1]; exact hi)], r⟩
    · rw [List.getElem?_eq_none (by simp; omega)] at e; cases e
  · rw [List.getElem?_set_ne hj] at e
    obtain ⟨w, e1, e2⟩ := h.2 j y e
    exact ⟨w, by rw [List.getElem?_set_ne hj]; exact e1, e2⟩
/-- a target -/
def RdG (K : PySem.W.Frag) (g : STg) : TG := fun v σ H Q => ∃ φ l m x, RH K H φ m ∧ RL K H φ l σ ∧ RV K H φ x v ∧ ∃ l' m', g x l m = some (l', m') ∧ ∀ φ' σ' H', Ext K φ H φ' H' → RH K H' φ' m' → RL K H' φ' l' σ' → Q σ' H'
structure QG (X : Cx) (tg : Expr) (g : STg) : Prop where
  pg : PG X tg (RdG X.K g)
abbrev STgs := List PV → Loc → MH → Option (Loc × MH)
def RdGs (K : PySem.W.Frag) (g : STgs) : TGs := fun vs σ H Q => ∃ φ l m xs, RH K H φ m ∧ RL K H φ l σ ∧ RVs K H φ xs vs ∧ ∃ l' m', g xs l m = some (l', m') ∧ ∀ φ' σ' H', Ext K φ H φ' H' → RH K H' φ' m' → RL K H' φ' l' σ' → Q σ' H'
structure QGs (X : Cx) (tg : List Expr) (g : STgs) : Prop where
  pg : PGs X tg (RdGs X.K g)
theorem pg_imp {X : Cx} {e : Expr} {t t' : TG} (h : PG X e t) (i : ∀ v σ H Q, t' v σ H Q → t v σ H Q) : PG X e t' := ⟨fun pins s σ H v u Q I r q => h.run pins s σ H v u Q I r (i v σ H Q q)⟩
theorem pgs_imp {X : Cx} {e : List Expr} {t t' : TGs} (h : PGs X e t) (i : ∀ v σ H Q, t' v σ H Q → t v σ H Q) : PGs X e t' := ⟨fun pins s σ H v u Q I r q => h.run pins s σ H v u Q I r (i v σ H Q q)⟩
theorem pg_or {X : Cx} {e : Expr} {t t' : TG} (h : PG X e t) (h' : PG X e t') : PG X e (fun v σ H Q => t v σ H Q ∨ t' v σ H Q) := ⟨fun pins s σ H v u Q I r q => by
  rcases q with q | q
  · exact h.run pins s σ H v u Q I r q
  · exact h'.run pins s σ H v u Q I r q⟩
def gNm (i : Nat) : STg := fun x l m => some (l.set i (some x), m)
def gNilS : STgs := fun xs l m => match xs with
  | [] => some (l, m)
  | _ => none
def gConsS (g : STg) (r : STgs) : STgs := fun xs l m => match xs with
  | x :: xs => match g x l m with
    | some (l', m') => r xs l' m'
    | none => none
  | [] => none
def gTupS (n : Nat) (g : STgs) : STg := fun x l m => match x with
  | .tup xs => if xs.length = n then g xs l m else none
  | .ref i => match seq? m i with
    | some xs => if xs.length = n then g xs l m else none
    | none => none
  | _ => none
def gSubS (o i : SE) : STg := fun x l m => match o l m with
  | .ok ov m1 => match i l m1 with
    | .ok iv m2 => (setv ov iv x m2).map fun m3 => (l, m3)
    | _ => none
  | _ => none
section
variable {X : Cx} {W : XM} {e o i : Expr} {es : List Expr} {se so si : SE} {pos : Pos}
theorem g_name (i : Nat) {x : Str} (hN : X.N.Nodup) (hi : X.N[i]? = some x := by rfl) (hx : L2.Loc X.env.scope x := by first | exact .inl rfl | exact .inr rfl) (hf : X.fn x = true ∨ X.env.scope.names.lookup x = some .local := by first | exact .inl rfl | exact .inr rfl) : QG X (.Name x pos) (gNm i) :=
  ⟨pg_imp (pg_name hN hi hx hf) fun v σ H Q ⟨φ, l, m, x, h1, h2, h3, l', m', e, q⟩ => by
    cases e
    exact q φ _ H Ext.refl h1 (h2.set i h3)⟩
theorem gs_nil : QGs X [] gNilS := ⟨pgs_imp pgs_nil fun v σ H Q ⟨φ, l, m, x, h1, h2, h3, l', m', e, q⟩ => by
  unfold gNilS at e
  split at e
  · cases h3
    cases e
    exact ⟨rfl, q φ _ H Ext.refl h1 h2⟩
  · cases e⟩
theorem gs_cons {g : STg} {r : STgs} (h1 : QG X e g) (h2 : QGs X es r) (hs : (assignEach (e :: es) X.env).map (·.2) = assign e X.env :: (assignEach es X.env).map (·.2) := by rfl) : QGs X (e :: es) (gConsS g r) :=
  ⟨pgs_imp (pgs_cons h1.pg h2.pg hs) fun v σ H Q ⟨φ, l, m, x, h1, h2, h3, l', m', e, q⟩ => by
    unfold gConsS at e
    split at e
    · rename_i x xs
      obtain ⟨w, ws, rfl, r1, r2⟩ := h3
      split at e
      · rename_i l1 m1 e1
        exact ⟨w, ws, rfl, φ, l, m, x, h1, h2, r1, l1, m1, e1, fun φ1 σ1 H1 x1 a1 b1 => ⟨φ1, l1, m1, xs, a1, b1, RVs.ext x1 r2, l', m', e, fun φ2 σ2 H2 x2 a2 b2 => q φ2 σ2 H2 (x1.trans x2) a2 b2⟩⟩
      · cases e
    · cases e⟩
theorem g_tup {k n : Nat} {g : STgs} (hc : X.calm = true) (h : QGs X es g) (hn : (assignEach es X.env).length = n := by rfl) (hst : (assignEach es X.env).findIdx? (·.1) = none := by rfl) : QG X (.Tuple es k pos) (gTupS n g) :=
  ⟨pg_imp (pg_or (pg_tup hc h.pg hn hst) (pg_unl hc h.pg hn hst)) fun v σ H Q ⟨φ, l, m, x, h1, h2, h3, l', m', e, q⟩ => by
    unfold gTupS at e
    split at e
    · obtain ⟨a, vs, rfl, r1, r2⟩ := h3
      split at e
      · rename_i hz
        exact .inl ⟨a, vs, rfl, r1, by rw [r2.length]; exact hz, φ, l, m, _, h1, h2, r2, l', m', e, q⟩
      · cases e
    · split at e
      · rename_i xs hs
        obtain ⟨a, vs, rfl, r1, r2⟩ := h1.seq h3 hs
        split at e
        · rename_i hz
          exact .inr ⟨a, vs, rfl, r1, by rw [r2.length]; exact hz, φ, l, m, _, h1, h2, r2, l', m', e, q⟩
        · cases e
      · cases e
    · cases e⟩
theorem s_set : PSet X (fun o i v H Q => ∃ φ m x y z m', RH X.K H φ m ∧ RV X.K H φ x o ∧ RV X.K H φ y i ∧ RV X.K H φ z v ∧ setv x y z m = some m' ∧ ∀ φ' H', Ext X.K φ H φ' H' → RH X.K H' φ' m' → Q H') := by
  intro pins s σ H o i v ov iv u Q I ro ri rv ⟨φ, m, x, y, z, m', h1, h2, h3, h4, h5, h6⟩
  unfold setv at h5
  split at h5
  · cases h3
    split at h5
    · rename_i xs hs
      obtain ⟨p, vs, e1, rfl, q1, q2⟩ := h1.lst h2 hs
      rename_i n k _
      cases hj : ixN xs.length k with
      | none => rw [hj] at h5; cases h5
      | some j =>
        rw [hj] at h5
        cases h5
        obtain ⟨e2, e3⟩ := h1.setL e1 (lst_some hs) (RVs.set h4 j q2)
        exact set_list pins s σ H _ _ v ov iv u Q I ro ri rv ⟨p, vs, k, j, rfl, rfl, q1, by rw [q2.length]; exact hj, h6 _ _ e2 e3⟩
    · cases h5
  · cases h5
theorem g_sub (ho : QE X W0 o so) (hi : QE X W0 i si)
    (ha : ∀ v, assign (.Subscript o i pos) X.env v = (do
      let ov ← holding [v] (eval o X.env)
      let iv ← holding [v, ov] (eval i X.env)
      standAt pos
      holding [v, ov, iv] (setItem ov iv v)
      release [v, ov, iv] []) := by intro _; rfl) : QG X (.Subscript o i pos) (gSubS so si) :=
  ⟨pg_imp (pg_sub ho.pe hi.pe s_set ha) fun v σ H Q ⟨φ, l, m, x, h1, h2, h3, l', m', e, q⟩ => by
    unfold gSubS at e
    split at e
    · rename_i ov m1 e1
      split at e
      · rename_i iv m2 e2
        refine ⟨φ, l, m, h1, h2, ?_⟩
        rw [e1]
        intro φ1 H1 v1 x1 a1 c1
        refine ⟨φ1, l, m1, a1, h2.ext x1, ?_⟩
        rw [e2]
        intro φ2 H2 v2 x2 a2 c2
        cases hs : setv ov iv x m2 with
        | none => rw [hs] at e; cases e
        | some m3 =>
          rw [hs] at e
          cases e
          exact ⟨φ2, m2, ov, iv, x, m', a2, RV.ext x2 c1, c2, RV.ext (x1.trans x2) h3, hs, fun φ3 H3 x3 a3 => q φ3 σ H3 ((x1.trans x2).trans x3) a3 (h2.ext ((x1.trans x2).trans x3))⟩
      · cases e
    · cases e⟩
end
section
variable {X : Cx} {W : XM} {st : Stmt} {rest : List Stmt} {s t : SS} {e : Expr} {se : SE} {pos : Pos}
theorem x_nil : QSs X W [] xNil := ⟨pss_imp pss_nil fun D σ H ⟨φ, l, m, h1, h2, h3⟩ => h3 φ σ H Ext.refl h1 h2⟩
theorem x_cons (h1 : QS X W st s) (h2 : QSs X W rest t) : QSs X W (st :: rest) (xSeq s t) := ⟨pss_imp (pss_cons h1.ps h2.ps) fun D σ H ⟨φ, l, m, h1, h2, h3⟩ => by
  refine ⟨φ, l, m, h1, h2, ?_⟩
  unfold xSeq at h3
  cases hs : s l m with
  | nx l' m' => rw [hs] at h3; exact fun φ' σ' H' x a b => ⟨φ', l', m', a, b, PostS.ext x h3⟩
  | bk l' m' => rw [hs] at h3; exact h3
  | ct l' m' => rw [hs] at h3; exact h3
  | rt l' m' => rw [hs] at h3; exact h3
  | ex c fs l' m' => rw [hs] at h3; exact h3
  | bad => rw [hs] at h3; exact h3⟩
theorem x_one (h1 : QS X W st s) : QSs X W [st] s := ⟨pss_one h1.ps⟩
theorem x_pass : QS X W (.Pass pos) xNil := ⟨ps_imp ps_pass fun D σ H ⟨φ, l, m, h1, h2, h3⟩ => h3 φ σ H Ext.refl h1 h2⟩
theorem x_doc {x j pos'} : QS X W (.Expr (.Constant (.str x) j pos) pos') xNil := ⟨ps_imp ps_doc fun D σ H ⟨φ, l, m, h1, h2, h3⟩ => h3 φ σ H Ext.refl h1 h2⟩
theorem x_brk : QS X W (.Break pos) xBrk := ⟨ps_imp ps_break fun D σ H ⟨φ, l, m, h1, h2, h3⟩ => h3 φ σ H Ext.refl h1 h2⟩
theorem x_cnt : QS X W (.Continue pos) xCnt := ⟨ps_imp ps_continue fun D σ H ⟨φ, l, m, h1, h2, h3⟩ => h3 φ σ H Ext.refl h1 h2⟩
theorem x_expr (he : QE X W e se) (hs : swapsWith e none pos.line X.env = pure false := by rfl) : QS X W (.Expr e pos) (xExpr se) := ⟨ps_imp (ps_expr he.pe hs) fun D σ H ⟨φ, l, m, h1, h2, h3⟩ =>
  ⟨φ, l, m, h1, h2, (PostS.then (rel := rV X.K) h2 h3).mono fun v H1 ⟨φ1, x, m1, e1, a1, b1, c1, d1⟩ => d1 φ1 σ H1 Ext.refl a1 b1⟩⟩
theorem x_ret (he : QE X W e se) : QS X W (.Return (some e) pos) (xRet se) := ⟨ps_imp (ps_ret he.pe) fun D σ H ⟨φ, l, m, h1, h2, h3⟩ =>
  ⟨φ, l, m, h1, h2, (PostS.then (rel := rV X.K) h2 h3).mono fun v H1 ⟨φ1, x, m1, e1, a1, b1, c1, d1⟩ => d1 φ1 H1 v Ext.refl a1 c1⟩⟩
theorem x_retN : QS X W (.Return none pos) xRetN := ⟨ps_imp ps_retN fun D σ H ⟨φ, l, m, h1, h2, h3⟩ => h3 φ H _ Ext.refl h1 rfl⟩
theorem x_if {c : Expr} {a b : List Stmt} {tc : SB} {sa sb : SS} (hc : QT X W c tc) (ha : QSs X W a sa) (hb : QSs X W b sb) : QS X W (.If c a b pos) (xIf tc sa sb) := ⟨ps_imp (ps_if hc.pt ha.ps hb.ps) fun D σ H ⟨φ, l, m, h1, h2, h3⟩ =>
  ⟨φ, l, m, h1, h2, (PostS.then (rel := rB) h2 h3).mono fun v H1 ⟨φ1, x, m1, e1, a1, b1, c1, d1⟩ => by
    cases c1
    cases v with
    | true => exact iteT ⟨φ1, l, m1, a1, b1, d1⟩
    | false => exact iteF ⟨φ1, l, m1, a1, b1, d1⟩⟩⟩
theorem x_set (i : Nat) {x : Str} {pos' : Pos} (hN : X.N.Nodup) (he : QE X W e se) (hi : X.N[i]? = some x := by rfl) (hx : L2.Loc X.env.scope x := by first | exact .inl rfl | exact .inr rfl) (hs : swapsWith e (some (.Name x pos')) pos.line X.env = pure false := by rfl)
    (hf : X.fn x = true ∨ X.env.scope.names.lookup x = some .local := by first | exact .inl rfl | exact .inr rfl) : QS X W (.Assign [.Name x pos'] e pos) (xSet i se) := ⟨ps_imp (ps_set hN hi hx he.pe hs hf) fun D σ H ⟨φ, l, m, h1, h2, h3⟩ =>
  ⟨φ, l, m, h1, h2, (PostS.then (rel := rV X.K) h2 h3).mono fun v H1 ⟨φ1, x, m1, e1, a1, b1, c1, d1⟩ => d1 φ1 _ H1 Ext.refl a1 (b1.set i c1)⟩⟩
theorem x_asg {tg : Expr} {g : STg} (he : QE X W e se) (hg : QG X tg g) (hs : swapsWithSole [tg] e pos.line X.env = pure false := by rfl) (hw : swappedStores [tg] e X.env = pure none := by rfl)
    (h1 : (assignEach [tg] X.env).map (·.2) = [assign tg X.env] := by rfl) : QS X W (.Assign [tg] e pos) (xAsg se g) := ⟨ps_imp (ps_asg he.pe hg.pg hs hw h1) fun D σ H ⟨φ, l, m, h1, h2, h3⟩ =>
  ⟨φ, l, m, h1, h2, (PostS.then (rel := rV X.K) h2 h3).mono fun v H1 ⟨φ1, x, m1, e1, a1, b1, c1, d1⟩ => by
    cases hg : g x l m1 with
    | none => rw [hg] at d1; exact d1.elim
    | some p =>
      obtain ⟨l', m'⟩ := p
      rw [hg] at d1
      exact ⟨φ1, l, m1, x, a1, b1, c1, l', m', hg, fun φ2 σ2 H2 x2 a2 b2 => d1 φ2 σ2 H2 x2 a2 b2⟩⟩⟩
theorem x_par (i j : Nat) {x y : Str} {a b : Expr} {sa sb : SE} {px py pt : Pos} {kt k2 pt2} (hc : X.calm = true) (hN : X.N.Nodup) (ha : QE X W a sa) (hb : QE X W b sb) (hi : X.N[i]? = some x := by rfl) (hj : X.N[j]? = some y := by rfl) (hij : i ≠ j := by decide)
    (hx : X.env.scope.names.lookup x = some .local := by rfl) (hy : X.env.scope.names.lookup y = some .local := by rfl)
    (hw : swappedStores [.Tuple [.Name x px, .Name y py] kt pt] (.Tuple [a, b] k2 pt2) X.env = pure (some [x, y]) := by rfl)
    (hs : swapsWithSole [.Tuple [.Name x px, .Name y py] kt pt] (.Tuple [a, b] k2 pt2) pos.line X.env = pure false := by rfl)
    (he1 : starEach [a, b] X.env = (false, eval a X.env) :: starEach [b] X.env := by rfl) (he2 : starEach [b] X.env = (false, eval b X.env) :: starEach [] X.env := by rfl) :
    QS X W (.Assign [.Tuple [.Name x px, .Name y py] kt pt] (.Tuple [a, b] k2 pt2) pos) (xPar i j sa sb) :=
  ⟨ps_imp (ps_par hc hN hi hj hij hx hy (pa_cons ha.pe (pa_cons hb.pe pa_nil he2) he1) hw hs) fun D σ H ⟨φ, l, m, h1, h2, h3⟩ =>
    ⟨φ, l, m, h1, h2, (PostS.then (rel := rV X.K) h2 h3).mono fun v H1 ⟨φ1, x, m1, e1, a1, b1, c1, d1⟩ => ⟨φ1, l, m1, a1, b1, (PostS.then (rel := rV X.K) b1 d1).mono fun w H2 ⟨φ2, y, m2, e2, a2, b2, c2, d2⟩ =>
      ⟨v, w, rfl, d2 φ2 _ H2 Ext.refl a2 ((b2.set i (RV.ext e2 c1)).set j c2)⟩⟩⟩⟩
end

/-! ## loops -/
structure ITM where
  items : List PV
  src : Option Nat
def ITM.ok (it : ITM) (m : MH) : Prop := match it.src with
  | none => True
  | some n => seq? m n = some it.items
abbrev SI := Loc → MH → R ITM
open Classical in
noncomputable def forL (it : ITM) (g : STg) (body : SS) : List PV → Loc → MH → RS
  | [], l, m => if it.ok m then .nx l m else .bad
  | x :: r, l, m => if it.ok m then match g x l m with
      | some (l1, m1) => match body l1 m1 with
        | .nx l2 m2 => forL it g body r l2 m2
        | .ct l2 m2 => forL it g body r l2 m2
        | .bk l2 m2 => .nx l2 m2
        | r => r
      | none => .bad
    else .bad
noncomputable def xFor (si : SI) (g : STg) (body : SS) : SS := fun l m => R.then l (si l m) fun it m1 => forL it g body it.items l m1
def RdI (K : PySem.W.Frag) (W : XM) (si : SI) : TI := fun σ H RR => ∃ φ l m, RH K H φ m ∧ RL K H φ l σ ∧ match si l m with
  | .ok it m' => ∀ φ' H' J, Ext K φ H φ' H' → RH K H' φ' m' →
      Walk J it.items.length (fun H2 => ∃ φ2 m2, Ext K φ' H' φ2 H2 ∧ RH K H2 φ2 m2 ∧ it.ok m2)
        (fun i H2 v H3 => H3 = H2 ∧ ∀ φ2 m2, Ext K φ' H' φ2 H2 → RH K H2 φ2 m2 → it.ok m2 → ∃ x, it.items[i]? = some x ∧ RV K H2 φ2 x v) → RR J H'
  | .ex c fs m' => ∀ φ' H', Ext K φ H φ' H' → RH K H' φ' m' → W c fs φ' l m' σ H'
  | .bad => False
structure QI (X : Cx) (W : XM) (tg iter : Expr) (si : SI) : Prop where
  pi : PI X tg iter (RdI X.K W si)
theorem pi_imp {X : Cx} {tg e : Expr} {t t' : TI} (h : PI X tg e t) (i : ∀ σ H R, t' σ H R → t σ H R) : PI X tg e t' := ⟨fun pins s σ H R I q => h.run pins s σ H R I (i σ H R q)⟩
theorem pi_or {X : Cx} {tg e : Expr} {t t' : TI} (h : PI X tg e t) (h' : PI X tg e t') : PI X tg e (fun σ H R => t σ H R ∨ t' σ H R) := ⟨fun pins s σ H R I q => by
  rcases q with q | q
  · exact h.run pins s σ H R I q
  · exact h'.run pins s σ H R I q⟩
section
variable {X : Cx} {W : XM} {iter tg e : Expr} {body : List Stmt} {si : SI} {g : STg} {sb : SS} {pos : Pos} {se : SE}
theorem x_for (hp : PassesOwn (model X.prog X.w) X.A X.env X.xe) (hc : X.calm = true) (hi : QI X W tg iter si) (hg : QG X tg g) (hb : QSs X W body sb)
    (hs : ∀ x, foldedSetIterable iter X.env x = pure x := by intro _; rfl) : QS X W (.For tg iter body [] pos) (xFor si g sb) := ⟨ps_imp (ps_for hp hc hi.pi hg.pg hb.ps hs) fun D σ H ⟨φ, l, m, h1, h2, h3⟩ => by
  refine ⟨φ, l, m, h1, h2, ?_⟩
  unfold xFor at h3
  cases hsi : si l m with
  | bad => rw [hsi] at h3; exact h3
  | ex c fs m' => rw [hsi] at h3; exact fun φ' H' x a => h3 φ' σ H' x a (h2.ext x)
  | ok it m' =>
    rw [hsi] at h3
    intro φ' H' J x0 a0 w
    refine for_it w (fun i σ2 H2 => ∃ φ2 l2 m2, Ext X.K φ' H' φ2 H2 ∧ RH X.K H2 φ2 m2 ∧ RL X.K H2 φ2 l2 σ2 ∧ PostS X.K W φ2 H2 (forL it g sb (it.items.drop i) l2 m2) D) ⟨φ', l, m', Ext.refl, a0, h2.ext x0, PostS.ext x0 h3⟩ ?_ ?_ ?_
    · rintro i σ2 H2 hi ⟨φ2, l2, m2, x2, a2, b2, c2⟩
      refine ⟨φ2, m2, x2, a2, ?_⟩
      cases hd : it.items.drop i with
      | nil =>
        rw [hd] at c2
        unfold forL at c2
        by_cases hk : it.ok m2
        · exact hk
        · rw [if_neg hk] at c2; exact c2.elim
      | cons x r =>
        rw [hd] at c2
        unfold forL at c2
        by_cases hk : it.ok m2
        · exact hk
        · rw [if_neg hk] at c2; exact c2.elim
    · rintro i v σ2 H2 H3 hi ⟨φ2, l2, m2, x2, a2, b2, c2⟩ ⟨rfl, hv⟩
      have hi' : i < it.items.length := hi
      rw [List.drop_eq_getElem_cons hi'] at c2
      unfold forL at c2
      by_cases hk : it.ok m2
      · rw [if_pos hk] at c2
        obtain ⟨x0', hx1, hx2⟩ := hv φ2 m2 x2 a2 hk
        rw [List.getElem?_eq_getElem hi'] at hx1
        cases hx1
        cases hgx : g it.items[i] l2 m2 with
        | none => rw [hgx] at c2; exact c2.elim
        | some p =>
          obtain ⟨l3, m3⟩ := p
          rw [hgx] at c2
          dsimp only at c2
          refine ⟨φ2, l2, m2, _, a2, b2, hx2, l3, m3, hgx, fun φ3 σ3 H3 x3 a3 b3 => ⟨φ3, l3, m3, a3, b3, ?_⟩⟩
          have c3 := PostS.ext x3 c2
          cases hb : sb l3 m3 with
          | nx l4 m4 =>
            rw [hb] at c3
            exact fun φ4 σ4 H4 x4 a4 b4 => ⟨φ4, l4, m4, (x2.trans x3).trans x4, a4, b4, PostS.ext x4 c3⟩
          | ct l4 m4 =>
            rw [hb] at c3
            exact fun φ4 σ4 H4 x4 a4 b4 => ⟨φ4, l4, m4, (x2.trans x3).trans x4, a4, b4, PostS.ext x4 c3⟩
          | bk l4 m4 => rw [hb] at c3; exact c3
          | rt x m4 => rw [hb] at c3; exact c3
          | ex c fs l4 m4 => rw [hb] at c3; exact c3
          | bad => rw [hb] at c3; exact c3
      · rw [if_neg hk] at c2; exact c2.elim
    · rintro σ2 H2 ⟨φ2, l2, m2, x2, a2, b2, c2⟩
      rw [List.drop_of_length_le (Nat.le_refl _)] at c2
      unfold forL at c2
      by_cases hk : it.ok m2
      · rw [if_pos hk] at c2
        exact c2 φ2 σ2 H2 Ext.refl a2 b2
      · rw [if_neg hk] at c2; exact c2.elim⟩
/-- over a list or a tuple -/
def iSeq (s : SE) : SI := fun l m => (s l m).bind fun x m1 => match x with
  | .tup xs => .ok ⟨xs, none⟩ m1
  | .ref n => match seq? m1 n with
    | some xs => .ok ⟨xs, some n⟩ m1
    | none => .bad
  | _ => .bad
theorem i_seq (he : QE X W e se) : QI X W tg e (iSeq se) := ⟨pi_imp (pi_or (pi_list he.pe) (pi_tup he.pe)) fun σ H RR ⟨φ, l, m, h1, h2, h3⟩ => by
  unfold iSeq at h3
  cases hs : se l m with
  | bad => rw [hs] at h3; exact h3.elim
  | ex c fs m' =>
    rw [hs] at h3
    exact .inl ⟨φ, l, m, h1, h2, by rw [hs]; exact h3⟩
  | ok x m1 =>
    rw [hs] at h3
    simp only [R.bind] at h3
    cases x with
    | tup xs =>
      refine .inr ⟨φ, l, m, h1, h2, ?_⟩
      rw [hs]
      rintro φ' H' v x1 a1 ⟨p, vs, rfl, r1, r2⟩
      refine ⟨p, rfl, ⟨vs, r1⟩, h3 φ' H' _ x1 a1 ?_⟩
      have w0 : Walk (Itt X.K p) vs.length (fun H => SqT X.K H p vs) (YAt vs) := walk_tup
      rw [r2.length] at w0
      refine w0.mono (fun H2 ⟨φ2, m2, x2, _⟩ => x2.tup _ _ r1) fun i H2 v H3 hi ⟨φ2, m2, x2, _⟩ y => ⟨y.1, fun φ3 m3 x3 a3 o3 => ?_⟩
      obtain ⟨v', e1, e2⟩ := r2.get (List.getElem?_eq_getElem hi)
      rw [y.2] at e1
      cases e1
      exact ⟨_, List.getElem?_eq_getElem hi, RV.ext x3 e2⟩
    | ref n =>
      simp only at h3
      cases hq : seq? m1 n with
      | none => rw [hq] at h3; exact h3.elim
      | some xs =>
        rw [hq] at h3
        refine .inl ⟨φ, l, m, h1, h2, ?_⟩
        rw [hs]
        rintro φ' H' v x1 a1 r0
        obtain ⟨p, vs, rfl, r1, r2⟩ := a1.seq r0 hq
        refine ⟨p, rfl, ⟨vs, r1⟩, h3 φ' H' _ x1 a1 ⟨fun i H2 hi ⟨φ2, m2, x2, a2, o2⟩ => ?_, fun H2 ⟨φ2, m2, x2, a2, o2⟩ => ?_, fun i H2 v H3 hi ⟨φ2, m2, x2, a2, o2⟩ y => ⟨y.1, fun φ3 m3 x3 a3 o3 => ?_⟩⟩⟩
        · obtain ⟨q, vs2, e1, e2, e3⟩ := a2.seq (RV.ext x2 r0) o2
          cases e1
          obtain ⟨v', e4, _⟩ := e3.get (List.getElem?_eq_getElem hi)
          exact ⟨vs2, v', e2, e4⟩
        · obtain ⟨q, vs2, e1, e2, e3⟩ := a2.seq (RV.ext x2 r0) o2
          cases e1
          exact ⟨vs2, e2, by rw [e3.length]; exact Nat.le_refl _⟩
        · obtain ⟨q, vs2, e1, e2, e3⟩ := a3.seq (RV.ext x3 r0) o3
          cases e1
          obtain ⟨v', e4, e5⟩ := e3.get (List.getElem?_eq_getElem hi)
          rw [y.2 vs2 e2] at e4
          cases e4
          exact ⟨_, List.getElem?_eq_getElem hi, e5⟩
    | _ => exact h3.elim⟩
/-- range(b), range(a, b) -/
@[simp] def rng (lo hi : Int) : List PV := (List.range (hi - lo).toNat).map fun i => .int (lo + (i : Nat))
def iRng1S (b : SE) : SI := fun l m => (b l m).bind fun y m1 => match y with
  | .int j => if -4611686018427387904 ≤ j ∧ j < 4611686018427387904 then .ok ⟨rng 0 j, none⟩ m1 else .bad
  | _ => .bad
def iRng2S (a b : SE) : SI := fun l m => (a l m).bind fun x m1 => (b l m1).bind fun y m2 => match x, y with
  | .int i, .int j => if -4611686018427387904 ≤ i ∧ i < 4611686018427387904 ∧ -4611686018427387904 ≤ j ∧ j < 4611686018427387904 then .ok ⟨rng i j, none⟩ m2 else .bad
  | _, _ => .bad
theorem rng_len (lo hi : Int) : (rng lo hi).length = (hi - lo).toNat := by simp
theorem rng_get {lo hi : Int} {i : Nat} (h : i < (hi - lo).toNat) : (rng lo hi)[i]? = some (.int (lo + (i : Nat))) := by
  simp [rng, List.getElem?_map, List.getElem?_range h]
theorem walk_rng {K : PySem.W.Frag} {φ' : List Addr} {H' : Hp} {lo hi : Int} : Walk (Itr lo (hi - lo).toNat) (rng lo hi).length (fun H2 => ∃ φ2 m2, Ext K φ' H' φ2 H2 ∧ RH K H2 φ2 m2 ∧ ITM.ok ⟨rng lo hi, none⟩ m2)
    (fun i H2 v H3 => H3 = H2 ∧ ∀ φ2 m2, Ext K φ' H' φ2 H2 → RH K H2 φ2 m2 → ITM.ok ⟨rng lo hi, none⟩ m2 → ∃ x, (rng lo hi)[i]? = some x ∧ RV K H2 φ2 x v) := by
  rw [rng_len]
  exact walk_range.mono (fun _ _ => trivial) fun i H2 v H3 hi _ y => ⟨y.1, fun φ3 m3 x3 a3 o3 => ⟨_, rng_get hi, y.2⟩⟩
theorem i_rng1 {b : Expr} {sb : SE} {p pos : Pos} (hg : Gl X "range") (hm : X.mg "range" = none) (hb : QE X W b sb) (hs : starEach [b] X.env = [(false, eval b X.env)] := by rfl) : QI X W tg (.Call (.Name "range" p) [b] [] pos) (iRng1S sb) :=
  ⟨pi_imp (pi_range1 hg hm (pa_cons hb.pe pa_nil (by rw [hs] <;> rfl)) hs) fun σ H RR ⟨φ, l, m, h1, h2, h3⟩ => ⟨φ, l, m, h1, h2, by
    unfold iRng1S at h3
    cases e1 : sb l m with
    | bad => rw [e1] at h3; exact h3
    | ex c fs m' => rw [e1] at h3; exact h3
    | ok y m1 =>
      rw [e1] at h3
      simp only [R.bind] at h3
      intro φ1 H1 v x1 a1 r1
      cases y with
      | int j =>
        cases r1
        simp only at h3
        by_cases hz : -4611686018427387904 ≤ j ∧ j < 4611686018427387904
        · rw [if_pos hz] at h3
          have e : Itr 0 j.toNat = Itr 0 (j - 0).toNat := by rw [Int.sub_zero]
          refine ⟨j, rfl, by omega, by omega, ?_⟩
          rw [e]
          exact h3 φ1 H1 _ x1 a1 walk_rng
        · rw [if_neg hz] at h3; exact h3.elim
      | _ => exact h3.elim⟩⟩
theorem i_rng2 {a b : Expr} {sa sb : SE} {p pos : Pos} (hg : Gl X "range") (hm : X.mg "range" = none) (ha : QE X W a sa) (hb : QE X W b sb) (hs : starEach [a, b] X.env = [(false, eval a X.env), (false, eval b X.env)] := by rfl) (hs2 : starEach [b] X.env = [(false, eval b X.env)] := by rfl) :
    QI X W tg (.Call (.Name "range" p) [a, b] [] pos) (iRng2S sa sb) :=
  ⟨pi_imp (pi_range2 hg hm (pa_cons ha.pe (pa_cons hb.pe pa_nil (by rw [hs2] <;> rfl)) (by rw [hs, hs2])) hs hs2) fun σ H RR ⟨φ, l, m, h1, h2, h3⟩ => ⟨φ, l, m, h1, h2, by
    unfold iRng2S at h3
    cases e1 : sa l m with
    | bad => rw [e1] at h3; exact h3
    | ex c fs m' => rw [e1] at h3; exact h3
    | ok y m1 =>
      rw [e1] at h3
      simp only [R.bind] at h3
      intro φ1 H1 v x1 a1 r1
      refine ⟨φ1, l, m1, a1, h2.ext x1, ?_⟩
      cases e2 : sb l m1 with
      | bad => rw [e2] at h3; exact h3
      | ex c fs m' =>
        rw [e2] at h3
        exact fun φ2 H2 x2 a2 => h3 φ2 H2 (x1.trans x2) a2
      | ok z m2 =>
        rw [e2] at h3
        simp only [R.bind] at h3
        intro φ2 H2 v2 x2 a2 r2
        cases y with
        | int i =>
          cases z with
          | int j =>
            cases r1
            cases r2
            simp only at h3
            by_cases hz : -4611686018427387904 ≤ i ∧ i < 4611686018427387904 ∧ -4611686018427387904 ≤ j ∧ j < 4611686018427387904
            · rw [if_pos hz] at h3
              exact ⟨i, j, rfl, by omega, h3 φ2 H2 _ (x1.trans x2) a2 walk_rng⟩
            · rw [if_neg hz] at h3; exact h3.elim
          | _ => exact h3.elim
        | _ => exact h3.elim⟩⟩
end
end SM

set_option Elab.async false
set_option linter.all false
set_option maxRecDepth 100000
set_option maxHeartbeats 1000000
namespace SM
open PySem PySem.Spec PyProof.Rows L2
theorem q_strc {X : Cx} {W : XM} {x : Str} {j pos} (cs : List Nat) (h : x.cps.toList = cs := by decide +kernel) : QE X W (.Constant (.str x) j pos) (sC (.str cs)) := by
  subst h
  exact q_str
/-! ## defs -/
def fnS (n N : Nat) (b : SS) : FS := fun xs m => if xs.length = n then match b (xs.map some ++ List.replicate (N - n) none) m with
  | .nx _ m' => .ok .non m'
  | .rt x m' => .ok x m'
  | .ex c fs _ m' => .ex c fs m'
  | _ => .bad
  else .bad
theorem rl_start {K : PySem.W.Frag} {H : Hp} {φ : List Addr} {N : List Str} {n : Nat} (hn : n ≤ N.length) : ∀ {xs : List PV} {vs : List V}, RVs K H φ xs vs → xs.length = n → RL K H φ (xs.map some ++ List.replicate (N.length - n) none) (L2.start N vs) := fun {xs vs} h hl => by
  have hv := h.length
  unfold L2.start
  refine ⟨by simp [hv, hl], fun i x e => ?_⟩
  by_cases hi : i < xs.length
  · rw [List.getElem?_append_left (by simpa using hi)] at e
    rw [List.getElem?_map] at e
    cases hx : xs[i]? with
    | none => rw [hx] at e; cases e
    | some y =>
      rw [hx] at e
      cases e
      obtain ⟨v, e1, e2⟩ := h.get hx
      exact ⟨v, by rw [List.getElem?_append_left (by simpa [hv] using hi), List.getElem?_map, e1]; rfl, e2⟩
  · rw [List.getElem?_append_right (by simpa using hi)] at e
    rw [List.getElem?_replicate] at e
    split at e <;> cases e
section
variable {P : Program} {w : World} {K : PySem.W.Frag} {mg : Str → Option Value} {base : Heap}
theorem okQ {x qual : Str} {st : Stmt} {f : Addr} {fd : FuncData} {N ps : List Str} {k : Nat} (F : Fun K x qual st f fd) (S : FnScope N ps (defScope st)) (b : SS)
    (h : ∀ (cdv : Value) (A : Around) (outer : List Env) (s : Shared) (H : Hp) (E : XK), Room k (A.deeper (envOfC qual (defScope st) s.heap.objs.size f cdv)) →
      QSs (cxOf CX0 P w K mg base N qual (defScope st) f cdv A outer s H E).nox W0 (defBody st) b) : FnOk P w K mg base CX0 (k + 1) f fd ps (SpQ K ps.length (fnS ps.length N.length b)) := by
  refine F.ok S (fun vs H Q E h => h.1) fun cdv A outer s H vs Q E hr hsp => ?_
  obtain ⟨hl, φ, m, xs, h1, h2, h3⟩ := hsp
  have hle : ps.length ≤ N.length := by
    have := congrArg List.length S.pre
    rw [List.length_take] at this
    omega
  have hxl : xs.length = ps.length := by rw [← h2.length]; exact hl
  refine ⟨_, (h cdv A outer s H E hr).ps, φ, _, m, h1, rl_start hle h2 hxl, ?_⟩
  unfold fnS at h3
  rw [if_pos hxl] at h3
  cases hb : b (xs.map some ++ List.replicate (N.length - ps.length) none) m with
  | nx l m' => rw [hb] at h3; exact fun φ' σ' H' x a b => h3 φ' H' _ x a rfl
  | rt y m' => rw [hb] at h3; exact h3
  | bk l m' => rw [hb] at h3; exact h3.elim
  | ct l m' => rw [hb] at h3; exact h3.elim
  | ex c fs l m' => rw [hb] at h3; exact h3.elim
  | bad => rw [hb] at h3; exact h3.elim
theorem cal_mk {x qual : Str} {st : Stmt} {f : Addr} {fd : FuncData} {ps : List Str} {k n : Nat} {g : FS} (hn : ps.length = n) (G : FnOk P w K mg base CX0 k f fd ps (SpQ K n g)) (F : Fun K x qual st f fd) (hm : mg x = some (.ref f)) (hb : Binds K fd ps []) : Cal P w K mg base x n k g :=
  ⟨f, fd, ps, hn, G, hm, F.kp, hb⟩
/-- the law's own promise at a script -/
theorem law_sp {f : FS} {E : XK} {H : Hp} {a : Addr} {ns : List Int} {m' : MH} (h : f [.ref 0] [.frz (ns.map .int)] = .ok (.bl true) m') (ho : Only H) (hS : SqL K H a (ns.map V.int)) : SpQ K 1 f [.ref a] H (fun v _ => v = .bl true) E := by
  have rvs : ∀ ns : List Int, RVs K H [a] (ns.map .int) (ns.map V.int) := fun ns => by
    induction ns with
    | nil => rfl
    | cons n r ih => exact ⟨.int n, _, rfl, rfl, ih⟩
  have hF : SqF K H a (ns.map V.int) := by
    rcases hS with (q | q) | q
    · rcases ho a with z | ⟨o, xs, z⟩
      · rw [z] at q; cases q
      · rw [z] at q; cases q
    · exact .inl q
    · exact .inr q
  refine ⟨rfl, [a], [.frz (ns.map .int)], [.ref 0], ⟨rfl, ?_, ?_⟩, ⟨.ref a, [], rfl, ⟨a, rfl, rfl⟩, rfl⟩, ?_⟩
  · intro i j b o u h1 h2 h3 h4 m1 m2
    cases i with
    | zero => cases h3; cases m1
    | succ i => cases h3
  · intro n b o h1 h2
    cases n with
    | zero => cases h1; cases h2; exact ⟨_, hF, rvs ns⟩
    | succ n => cases h1
  · rw [h]
    intro φ' H' v x1 a1 r1
    exact r1
end
end SM

set_option Elab.async false
set_option linter.all false
set_option maxRecDepth 100000
set_option maxHeartbeats 1000000
namespace SM
open PySem PySem.Spec PyProof.Rows L2
/-! ## what a reckoning comes to -/
abbrev EX := String → List PV → MH → Prop
def NoE : EX := fun _ _ _ => False
/-! what stands behind is held: simp does not go into it (the last place hangs on it, and says nothing of it) -/
@[reducible] def Hold {α : Sort u} (_ : α) : Type := Unit
@[irreducible] def WP {α : Type} (r : R α) (Q : α → MH → Prop) (E : EX) (_ : Hold (fun (_ : Unit) => (Q, E)) := Unit.unit) : Prop := match r with
  | .ok x m => Q x m
  | .ex c fs m => E c fs m
  | .bad => False
structure ED where
  nx : Loc → MH → Prop
  rt : PV → MH → Prop
  bk : Loc → MH → Prop := fun _ _ => False
  ct : Loc → MH → Prop := fun _ _ => False
  ex : String → List PV → Loc → MH → Prop := fun _ _ _ _ => False
@[irreducible] def WS (r : RS) (D : ED) (_ : Hold (fun (_ : Unit) => D) := Unit.unit) : Prop := match r with
  | .nx l m => D.nx l m
  | .rt x m => D.rt x m
  | .bk l m => D.bk l m
  | .ct l m => D.ct l m
  | .ex c fs l m => D.ex c fs l m
  | .bad => False
@[irreducible] def WG (o : Option (Loc × MH)) (Q : Loc → MH → Prop) (_ : Hold (fun (_ : Unit) => Q) := Unit.unit) : Prop := match o with
  | some (l, m) => Q l m
  | none => False
section
variable {α β : Type} {Q Q' : α → MH → Prop} {E : EX} {l : Loc} {m : MH} {D : ED}
theorem WP.mono {r : R α} (h : WP r Q E) (i : ∀ x m, Q x m → Q' x m) : WP r Q' E := by
  unfold WP at h ⊢
  cases r with
  | ok x m => exact i x m h
  | ex c fs m => exact h
  | bad => exact h
theorem WP.run {r : R α} (h : WP r Q NoE) : ∃ x m, r = .ok x m ∧ Q x m := by
  unfold WP at h
  cases r with
  | ok x m => exact ⟨x, m, rfl, h⟩
  | ex c fs m => exact h.elim
  | bad => exact h.elim
theorem WP.of {r : R α} {x : α} {m : MH} (h : r = .ok x m) (q : Q x m) : WP r Q E := by subst h; unfold WP; exact q
theorem WP.noe {r : R α} (h : WP r Q NoE) : WP r Q E := by
  unfold WP at h ⊢
  cases r with
  | ok x m => exact h
  | ex c fs m => exact h.elim
  | bad => exact h
theorem WS.mono {r : RS} {D D' : ED} (h : WS r D) (h1 : ∀ l m, D.nx l m → D'.nx l m) (h2 : ∀ x m, D.rt x m → D'.rt x m) (h3 : ∀ l m, D.bk l m → D'.bk l m) (h4 : ∀ l m, D.ct l m → D'.ct l m) (h5 : ∀ c fs l m, D.ex c fs l m → D'.ex c fs l m) : WS r D' := by
  unfold WS at h ⊢
  cases r with
  | nx l m => exact h1 _ _ h
  | rt x m => exact h2 _ _ h
  | bk l m => exact h3 _ _ h
  | ct l m => exact h4 _ _ h
  | ex c fs l m => exact h5 _ _ _ _ h
  | bad => exact h
theorem wp_eq {r : R α} (h : ∀ x m, Q x m = Q' x m) : WP r Q E = WP r Q' E := by
  have : Q = Q' := funext fun x => funext fun m => h x m
  subst this; with_unfolding_all rfl
theorem wp_ok {x : α} : WP (.ok x m) Q E = Q x m := by with_unfolding_all rfl
theorem wp_bad : WP (.bad : R α) Q E = False := by with_unfolding_all rfl
theorem wp_ex {c : String} {fs : List PV} : WP (.ex c fs m : R α) Q E = E c fs m := by with_unfolding_all rfl
theorem wp_bind {r : R β} {k : β → MH → R α} : WP (r.bind k) Q E = WP r (fun x m => WP (k x m) Q E) E := by cases r <;> with_unfolding_all rfl
theorem wp_some {x : α} : WP (lift (some (x, m))) Q E = Q x m := by with_unfolding_all rfl
theorem wp_none : WP (lift (none : Option (α × MH))) Q E = False := by with_unfolding_all rfl
theorem wp_liftif {c : Prop} [Decidable c] {a b : Option (α × MH)} : WP (lift (if c then a else b)) Q E = if c then WP (lift a) Q E else WP (lift b) Q E := by split <;> with_unfolding_all rfl
theorem wp_if {c : Prop} [Decidable c] {a b : R α} : WP (if c then a else b) Q E = if c then WP a Q E else WP b Q E := by split <;> with_unfolding_all rfl
theorem ws_if {c : Prop} [Decidable c] {a b : RS} : WS (if c then a else b) D = if c then WS a D else WS b D := by split <;> with_unfolding_all rfl
theorem wp_noex {r : R PV} {Q : PV → MH → Prop} : WP (noex r) Q E = WP r Q NoE := by cases r <;> with_unfolding_all rfl
theorem ws_then {r : R β} {k : β → MH → RS} : WS (R.then l r k) D = WP r (fun x m => WS (k x m) D) (fun c fs m => D.ex c fs l m) := by cases r <;> with_unfolding_all rfl
theorem ws_seq {r : RS} {k : Loc → MH → RS} : WS (r.seq k) D = WS r { D with nx := fun l m => WS (k l m) D } := by cases r <;> with_unfolding_all rfl
theorem ws_nx : WS (.nx l m) D = D.nx l m := by with_unfolding_all rfl
theorem ws_rt {x : PV} : WS (.rt x m) D = D.rt x m := by with_unfolding_all rfl
theorem ws_bk : WS (.bk l m) D = D.bk l m := by with_unfolding_all rfl
theorem ws_ct : WS (.ct l m) D = D.ct l m := by with_unfolding_all rfl
theorem ws_bad : WS .bad D = False := by with_unfolding_all rfl
end
section
variable {Q : PV → MH → Prop} {E : EX} {l : Loc} {m : MH} {D : ED} {a b c : SE} {s t : SS} {ta tb : SB} {as : SA}
theorem w_var {i : Nat} {v : PV} (h : l[i]? = some (some v)) : WP (sVar i l m) Q E = Q v m := by unfold sVar; rw [h]; with_unfolding_all rfl
theorem w_v0 {v : PV} {r : Loc} : WP (sVar 0 (some v :: r) m) Q E = Q v m := by with_unfolding_all rfl
theorem w_vS {i : Nat} {o : Option PV} {r : Loc} : WP (sVar (i + 1) (o :: r) m) Q E = WP (sVar i r m) Q E := by
  unfold sVar; rw [List.getElem?_cons_succ]
theorem w_c {v : PV} : WP (sC v l m) Q E = Q v m := by with_unfolding_all rfl
theorem w_op {f : PV → PV → MH → OR} : WP (sOp f a b l m) Q E = WP (a l m) (fun x m1 => WP (b l m1) (fun y m2 => WP (lift (f x y m2)) Q E) E) E := by unfold sOp; rw [wp_bind]; exact wp_eq fun x m1 => wp_bind
theorem w_un {f : PV → MH → OR} : WP (sUn f a l m) Q E = WP (a l m) (fun x m1 => WP (lift (f x m1)) Q E) E := by unfold sUn; rw [wp_bind]
theorem w_anil {Q : List PV → MH → Prop} : WP (aNil l m) Q E = Q [] m := by with_unfolding_all rfl
theorem w_acons {Q : List PV → MH → Prop} : WP (aCons a as l m) Q E = WP (a l m) (fun x m1 => WP (as l m1) (fun xs m2 => Q (x :: xs) m2) E) E := by unfold aCons; rw [wp_bind]; exact wp_eq fun x m1 => by rw [wp_bind]; exact wp_eq fun xs m2 => wp_ok
theorem w_tup : WP (sTup as l m) Q E = WP (as l m) (fun xs m1 => xs.length ≤ 16777216 ∧ Q (.tup xs) m1) E := by
  unfold sTup; rw [wp_bind]; refine wp_eq fun xs m1 => ?_
  by_cases h : xs.length ≤ 16777216
  · rw [if_pos h]; simp [h, wp_ok]
  · rw [if_neg h]; simp [h, wp_bad]
theorem w_lst : WP (sLst as l m) Q E = WP (as l m) (fun xs m1 => xs.length ≤ 16777216 ∧ Q (.ref m1.length) (m1 ++ [.lst xs])) E := by
  unfold sLst; rw [wp_bind]; refine wp_eq fun xs m1 => ?_
  by_cases h : xs.length ≤ 16777216
  · rw [if_pos h]; simp [h, wp_ok]
  · rw [if_neg h]; simp [h, wp_bad]
theorem w_call {f : List PV → MH → OR} : WP (sCall f as l m) Q E = WP (as l m) (fun xs m1 => WP (lift (f xs m1)) Q E) E := by unfold sCall; rw [wp_bind]
theorem w_callU {n : Nat} {f : FS} : WP (sCallU n f as l m) Q E = WP (as l m) (fun xs m1 => xs.length = n ∧ WP (f xs m1) Q NoE) E := by
  unfold sCallU; rw [wp_bind]; refine wp_eq fun xs m1 => ?_
  by_cases h : xs.length = n
  · rw [if_pos h, wp_noex]; simp [h]
  · rw [if_neg h]; simp [h, wp_bad]
theorem w_isi {T : String} : WP (sIsi T a l m) Q E = WP (a l m) (fun x m1 => okTy m1 x = true ∧ Q (.bl (isTab (tyName x) T)) m1) E := by
  unfold sIsi; rw [wp_bind]; refine wp_eq fun x m1 => ?_
  by_cases h : okTy m1 x = true
  · rw [if_pos h]; simp [h, wp_ok]
  · rw [if_neg h]; simp [h, wp_bad]
theorem w_meth {ty : MH → PV → Bool} {f : PV → List PV → MH → OR} : WP (sMeth ty f a as l m) Q E = WP (a l m) (fun x m1 => ty m1 x = true ∧ WP (as l m1) (fun xs m2 => WP (lift (f x xs m2)) Q E) E) E := by
  unfold sMeth; rw [wp_bind]; refine wp_eq fun x m1 => ?_
  by_cases h : ty m1 x = true
  · rw [if_pos h, wp_bind]; simp [h]
  · rw [if_neg h]; simp [h, wp_bad]
theorem wp_asB {x : PV} {Q : Bool → MH → Prop} : WP (asB x m) Q E = match x with | .bl b => Q b m | _ => False := by cases x <;> with_unfolding_all rfl
theorem w_tru {Q : Bool → MH → Prop} : WP (tTru a l m) Q E = WP (a l m) (fun x m1 => match truv m1 x with | some b => Q b m1 | none => False) E := by
  unfold tTru; rw [wp_bind]; refine wp_eq fun x m1 => ?_; cases truv m1 x <;> with_unfolding_all rfl
theorem w_bool {Q : Bool → MH → Prop} : WP (tBool a l m) Q E = WP (a l m) (fun x m1 => WP (asB x m1) Q E) E := by unfold tBool; rw [wp_bind]
theorem w_notS {Q : Bool → MH → Prop} : WP (tNotS ta l m) Q E = WP (ta l m) (fun b m1 => Q (!b) m1) E := by unfold tNotS; rw [wp_bind]; with_unfolding_all rfl
theorem w_andS {Q : Bool → MH → Prop} : WP (tAndS ta tb l m) Q E = WP (ta l m) (fun b m1 => if b = true then WP (tb l m1) Q E else Q false m1) E := by
  unfold tAndS; rw [wp_bind]; refine wp_eq fun b m1 => ?_; rw [wp_if]; with_unfolding_all rfl
theorem w_orS {Q : Bool → MH → Prop} : WP (tOrS ta tb l m) Q E = WP (ta l m) (fun b m1 => if b = true then Q true m1 else WP (tb l m1) Q E) E := by
  unfold tOrS; rw [wp_bind]; refine wp_eq fun b m1 => ?_; rw [wp_if]; with_unfolding_all rfl
theorem w_ifx : WP (sIf ta a b l m) Q E = WP (ta l m) (fun k m1 => if k = true then WP (a l m1) Q E else WP (b l m1) Q E) E := by
  unfold sIf; rw [wp_bind]; refine wp_eq fun b m1 => ?_; rw [wp_if]
theorem w_andV : WP (sAndV a b l m) Q E = WP (a l m) (fun x m1 => WP (asB x m1) (fun k m2 => if k = true then WP (b l m2) Q E else Q (.bl false) m2) E) E := by
  unfold sAndV; rw [wp_bind]; refine wp_eq fun x m1 => ?_; rw [wp_bind]; refine wp_eq fun k m2 => ?_; rw [wp_if]; with_unfolding_all rfl
theorem w_orV : WP (sOrV a b l m) Q E = WP (a l m) (fun x m1 => WP (asB x m1) (fun k m2 => if k = true then Q (.bl true) m2 else WP (b l m2) Q E) E) E := by
  unfold sOrV; rw [wp_bind]; refine wp_eq fun x m1 => ?_; rw [wp_bind]; refine wp_eq fun k m2 => ?_; rw [wp_if]; with_unfolding_all rfl
theorem w_notV : WP (sNotV a l m) Q E = WP (a l m) (fun x m1 => WP (asB x m1) (fun k m2 => Q (.bl (!k)) m2) E) E := by
  unfold sNotV; rw [wp_bind]; refine wp_eq fun x m1 => ?_; rw [wp_bind]; with_unfolding_all rfl
theorem w_chain {f g : PV → PV → MH → OR} : WP (sChain f g a b c l m) Q E = WP (a l m) (fun x m1 => WP (b l m1) (fun y m2 => WP (lift (f x y m2)) (fun z m3 => WP (asB z m3) (fun k m4 => if k = true then WP (c l m4) (fun u m5 => WP (lift (g y u m5)) Q E) E else Q (.bl false) m4) E) E) E) E := by
  unfold sChain; rw [wp_bind]; refine wp_eq fun x m1 => ?_; rw [wp_bind]; refine wp_eq fun y m2 => ?_; rw [wp_bind]; refine wp_eq fun z m3 => ?_; rw [wp_bind]; refine wp_eq fun k m4 => ?_; rw [wp_if]; split
  · exact wp_bind
  · with_unfolding_all rfl
theorem add_ii {a b : Int} : addv (.int a) (.int b) m = some (.int (a + b), m) := by with_unfolding_all rfl
theorem add_ss {a b : List Nat} : addv (.str a) (.str b) m = if a.length + b.length ≤ 16777216 then some (.str (a ++ b), m) else none := by with_unfolding_all rfl
theorem add_tt {a b : List PV} : addv (.tup a) (.tup b) m = if a.length + b.length ≤ 16777216 then some (.tup (a ++ b), m) else none := by with_unfolding_all rfl
theorem add_rr {i j : Nat} {xs ys : List PV} (h : lst? m i = some xs) (h2 : lst? m j = some ys) : addv (.ref i) (.ref j) m = if xs.length + ys.length ≤ 16777216 then some (.ref m.length, m ++ [.lst (xs ++ ys)]) else none := by
  show (match lst? m i, lst? m j with | some xs, some ys => _ | _, _ => none) = _
  rw [h, h2]
theorem sub_ii {a b : Int} : subv (.int a) (.int b) m = some (.int (a - b), m) := by with_unfolding_all rfl
theorem mul_ii {a b : Int} : mulv (.int a) (.int b) m = if (a.natAbs < 18446744073709551616 ∨ b.natAbs < 18446744073709551616) ∨ (a.natAbs < big ∧ b.natAbs < big) then some (.int (a * b), m) else none := by with_unfolding_all rfl
theorem fdiv_ii {a b : Int} : fdivv (.int a) (.int b) m = if b ≠ 0 ∧ b.natAbs < big then some (.int (a.fdiv b), m) else none := by with_unfolding_all rfl
theorem mod_ii {a b : Int} : modv (.int a) (.int b) m = if b ≠ 0 then some (.int (a.fmod b), m) else none := by with_unfolding_all rfl
theorem pow_ii {a b : Int} : powv (.int a) (.int b) m = if 0 ≤ b ∧ b ≤ 1000 ∧ a.natAbs < 18446744073709551616 then some (.int (a ^ b.toNat), m) else none := by with_unfolding_all rfl
theorem neg_i {a : Int} : negv (.int a) m = some (.int (-a), m) := by with_unfolding_all rfl
theorem cmp_ii {f : Int → Int → Bool} {a b : Int} : cmpI f (.int a) (.int b) m = some (.bl (f a b), m) := by with_unfolding_all rfl
theorem is_n {x : PV} : isNv x .non m = some (.bl (isNon x), m) := by unfold isNv; with_unfolding_all rfl
theorem not_n {x : PV} : notNv x .non m = some (.bl (!isNon x), m) := by unfold notNv; with_unfolding_all rfl
theorem non_n : isNon .non = true := by with_unfolding_all rfl
theorem non_i {a : Int} : isNon (.int a) = false := by with_unfolding_all rfl
theorem non_b {a : Bool} : isNon (.bl a) = false := by with_unfolding_all rfl
theorem non_s {a : List Nat} : isNon (.str a) = false := by with_unfolding_all rfl
theorem non_t {a : List PV} : isNon (.tup a) = false := by with_unfolding_all rfl
theorem non_r {a : Nat} : isNon (.ref a) = false := by with_unfolding_all rfl
theorem abs_i {a : Int} : absv [.int a] m = some (.int (if a < 0 then -a else a), m) := by with_unfolding_all rfl
theorem max_ii {a b : Int} : max2v [.int a, .int b] m = some (.int (if b > a then b else a), m) := by with_unfolding_all rfl
theorem min_ii {a b : Int} : min2v [.int a, .int b] m = some (.int (if b < a then b else a), m) := by with_unfolding_all rfl
theorem int_i {a : Int} : intv [.int a] m = some (.int a, m) := by with_unfolding_all rfl
theorem int_b {a : Bool} : intv [.bl a] m = some (.int (if a then 1 else 0), m) := by with_unfolding_all rfl
theorem gcd_ii {a b : Int} : gcdv [.int a, .int b] m = some (.int (Nat.gcd a.natAbs b.natAbs : Nat), m) := by with_unfolding_all rfl
theorem len_t {xs : List PV} : lenv [.tup xs] m = some (.int xs.length, m) := by with_unfolding_all rfl
theorem len_s {s : List Nat} : lenv [.str s] m = if s.length ≤ 16777216 then some (.int s.length, m) else none := by with_unfolding_all rfl
theorem len_r {n : Nat} {xs : List PV} (h : seq? m n = some xs) : lenv [.ref n] m = some (.int xs.length, m) := by
  show (seq? m n).map _ = _; rw [h]; with_unfolding_all rfl
theorem ix_t {xs : List PV} {i : Int} : ixv (.tup xs) (.int i) m = (atI xs i).map fun x => (x, m) := by with_unfolding_all rfl
theorem ix_s {s : List Nat} {i : Int} : ixv (.str s) (.int i) m = if s.length ≤ 16777216 then (atI s i).map fun c => (.str [c], m) else none := by with_unfolding_all rfl
theorem ix_r {n : Nat} {xs : List PV} {i : Int} (h : seq? m n = some xs) : ixv (.ref n) (.int i) m = (atI xs i).map fun x => (x, m) := by
  show (match seq? m n with | some xs => _ | none => _) = _; rw [h]
theorem eq_v {x y : PV} : eqv x y m = (eqV m x y).map fun b => (.bl b, m) := by with_unfolding_all rfl
theorem ne_v {x y : PV} : nev x y m = (eqV m x y).map fun b => (.bl (!b), m) := by with_unfolding_all rfl
theorem eq_ii {a b : Int} : eqV m (.int a) (.int b) = some (decide (a = b)) := by with_unfolding_all rfl
theorem eq_bb {a b : Bool} : eqV m (.bl a) (.bl b) = some (decide (a = b)) := by with_unfolding_all rfl
theorem eq_ss {a b : List Nat} : eqV m (.str a) (.str b) = some (decide (a = b)) := by with_unfolding_all rfl
theorem eq_nn : eqV m .non .non = some true := by with_unfolding_all rfl
theorem eq_in {a : Int} : eqV m (.int a) .non = some false := by with_unfolding_all rfl
theorem eq_ni {a : Int} : eqV m .non (.int a) = some false := by with_unfolding_all rfl
theorem asB_b {b : Bool} {Q : Bool → MH → Prop} : WP (asB (.bl b) m) Q E = Q b m := by with_unfolding_all rfl
/-! statements -/
theorem s_nil : WS (xNil l m) D = D.nx l m := by with_unfolding_all rfl
theorem s_seq : WS (xSeq s t l m) D = WS (s l m) { D with nx := fun l m => WS (t l m) D } := by unfold xSeq; rw [ws_seq]
theorem s_cut {mid : Loc → MH → Prop} (h : WS (s l m) { D with nx := mid }) (h2 : ∀ l m, mid l m → WS (t l m) D) : WS (xSeq s t l m) D := by
  rw [s_seq]
  exact h.mono h2 (fun _ _ h => h) (fun _ _ h => h) (fun _ _ h => h) (fun _ _ _ _ h => h)
theorem s_brk : WS (xBrk l m) D = D.bk l m := by with_unfolding_all rfl
theorem s_cnt : WS (xCnt l m) D = D.ct l m := by with_unfolding_all rfl
theorem s_expr : WS (xExpr a l m) D = WP (a l m) (fun _ m1 => D.nx l m1) (fun c fs m => D.ex c fs l m) := by unfold xExpr; rw [ws_then]; with_unfolding_all rfl
theorem s_ret : WS (xRet a l m) D = WP (a l m) (fun x m1 => D.rt x m1) (fun c fs m => D.ex c fs l m) := by unfold xRet; rw [ws_then]; with_unfolding_all rfl
theorem s_retN : WS (xRetN l m) D = D.rt .non m := by with_unfolding_all rfl
theorem s_if : WS (xIf ta s t l m) D = WP (ta l m) (fun k m1 => if k = true then WS (s l m1) D else WS (t l m1) D) (fun c fs m => D.ex c fs l m) := by unfold xIf; rw [ws_then]; refine wp_eq fun k m1 => ?_; rw [ws_if]
theorem s_asn {i : Nat} : WS (xSet i a l m) D = WP (a l m) (fun x m1 => D.nx (l.set i (some x)) m1) (fun c fs m => D.ex c fs l m) := by unfold xSet; rw [ws_then]; with_unfolding_all rfl
theorem s_par {i j : Nat} : WS (xPar i j a b l m) D = WP (a l m) (fun x m1 => WP (b l m1) (fun y m2 => D.nx ((l.set i (some x)).set j (some y)) m2) (fun c fs m => D.ex c fs l m)) (fun c fs m => D.ex c fs l m) := by unfold xPar; rw [ws_then]; exact wp_eq fun x m1 => by rw [ws_then]; exact wp_eq fun y m2 => ws_nx
theorem s_asg {g : STg} : WS (xAsg a g l m) D = WP (a l m) (fun x m1 => WG (g x l m1) D.nx) (fun c fs m => D.ex c fs l m) := by
  unfold xAsg; rw [ws_then]; refine wp_eq fun x m1 => ?_; cases g x l m1 <;> with_unfolding_all rfl
theorem g_nm {i : Nat} {x : PV} {Q : Loc → MH → Prop} : WG (gNm i x l m) Q = Q (l.set i (some x)) m := by with_unfolding_all rfl
theorem g_nil {Q : Loc → MH → Prop} : WG (gNilS [] l m) Q = Q l m := by with_unfolding_all rfl
theorem g_cons {g : STg} {r : STgs} {x : PV} {xs : List PV} {Q : Loc → MH → Prop} : WG (gConsS g r (x :: xs) l m) Q = WG (g x l m) (fun l m => WG (r xs l m) Q) := by
  unfold gConsS; dsimp only; cases g x l m <;> with_unfolding_all rfl
theorem g_tupT {n : Nat} {g : STgs} {xs : List PV} {Q : Loc → MH → Prop} : WG (gTupS n g (.tup xs) l m) Q = (xs.length = n ∧ WG (g xs l m) Q) := by
  unfold gTupS
  by_cases h : xs.length = n
  · simp only [if_pos h]; simp [h]
  · simp only [if_neg h]; simp [h, WG]
theorem g_tupL {n i : Nat} {g : STgs} {xs : List PV} {Q : Loc → MH → Prop} (e : seq? m i = some xs) : WG (gTupS n g (.ref i) l m) Q = (xs.length = n ∧ WG (g xs l m) Q) := by
  unfold gTupS
  simp only [e]
  by_cases h : xs.length = n
  · simp only [if_pos h]; simp [h]
  · simp only [if_neg h]; simp [h, WG]
theorem g_subW {o i : SE} {x : PV} {Q : Loc → MH → Prop} : WG (gSubS o i x l m) Q = WP (o l m) (fun ov m1 => WP (i l m1) (fun iv m2 => match setv ov iv x m2 with | some m3 => Q l m3 | none => False) NoE) NoE := by
  unfold gSubS
  cases o l m with
  | ok ov m1 =>
    simp only [wp_ok]
    cases i l m1 with
    | ok iv m2 => simp only [wp_ok]; cases setv ov iv x m2 <;> with_unfolding_all rfl
    | ex _ _ _ => with_unfolding_all rfl
    | bad => with_unfolding_all rfl
  | ex _ _ _ => with_unfolding_all rfl
  | bad => with_unfolding_all rfl
theorem wp_fn {n N : Nat} {b : SS} {xs : List PV} : WP (fnS n N b xs m) Q E = (xs.length = n ∧ WS (b (xs.map some ++ List.replicate (N - n) none) m) ⟨fun _ m => Q .non m, Q, fun _ _ => False, fun _ _ => False, fun c fs _ m => E c fs m⟩) := by
  unfold fnS
  by_cases h : xs.length = n
  · rw [if_pos h]
    cases b (xs.map some ++ List.replicate (N - n) none) m <;> simp [h, WP, WS]
  · rw [if_neg h]; simp [h, wp_bad]
/-! loops -/
theorem ws_forL {it : ITM} {g : STg} {body : SS} {D : ED} (I : Nat → Loc → MH → Prop)
    (hs : ∀ i x l m, it.items[i]? = some x → I i l m → it.ok m ∧ WG (g x l m) (fun l1 m1 => WS (body l1 m1) ⟨I (i + 1), D.rt, D.nx, I (i + 1), D.ex⟩))
    (hd : ∀ l m, I it.items.length l m → it.ok m ∧ D.nx l m) : ∀ (k i : Nat) (l : Loc) (m : MH), k + i = it.items.length → I i l m → WS (forL it g body (it.items.drop i) l m) D
  | 0, i, l, m, e, h => by
    have e' : i = it.items.length := by omega
    subst e'
    rw [List.drop_of_length_le (Nat.le_refl _)]
    obtain ⟨h1, h2⟩ := hd l m h
    unfold forL
    rw [if_pos h1, ws_nx]
    exact h2
  | k + 1, i, l, m, e, h => by
    have hi : i < it.items.length := by omega
    rw [List.drop_eq_getElem_cons hi]
    obtain ⟨h1, h2⟩ := hs i _ l m (List.getElem?_eq_getElem hi) h
    unfold forL
    rw [if_pos h1]
    cases hg : g it.items[i] l m with
    | none => rw [hg] at h2; unfold WG at h2; exact h2.elim
    | some p =>
      obtain ⟨l1, m1⟩ := p
      rw [hg] at h2
      have h3 : WS (body l1 m1) ⟨I (i + 1), D.rt, D.nx, I (i + 1), D.ex⟩ := by unfold WG at h2; exact h2
      dsimp only
      cases hb : body l1 m1 with
      | nx l2 m2 => rw [hb, ws_nx] at h3; exact ws_forL I hs hd k (i + 1) l2 m2 (by omega) h3
      | ct l2 m2 => rw [hb, ws_ct] at h3; exact ws_forL I hs hd k (i + 1) l2 m2 (by omega) h3
      | bk l2 m2 => rw [hb, ws_bk] at h3; dsimp only; rw [ws_nx]; exact h3
      | rt x m2 => rw [hb, ws_rt] at h3; dsimp only; rw [ws_rt]; exact h3
      | ex c fs l2 m2 => rw [hb] at h3; dsimp only; unfold WS at h3 ⊢; exact h3
      | bad => rw [hb, ws_bad] at h3; exact h3.elim
/-- a for: its items, an invariant by the turn -/
theorem s_for {si : SI} {g : STg} {body : SS} {it : ITM} {m1 : MH} (hsi : si l m = .ok it m1) (I : Nat → Loc → MH → Prop) (h0 : I 0 l m1)
    (hs : ∀ i x l m, it.items[i]? = some x → I i l m → it.ok m ∧ WG (g x l m) (fun l1 m1 => WS (body l1 m1) ⟨I (i + 1), D.rt, D.nx, I (i + 1), D.ex⟩))
    (hd : ∀ l m, I it.items.length l m → it.ok m ∧ D.nx l m) : WS (xFor si g body l m) D := by
  unfold xFor
  rw [hsi]
  have := ws_forL (D := D) I hs hd it.items.length 0 l m1 (by omega) h0
  rw [List.drop_zero] at this
  exact this
theorem si_rng1 {b : SE} {j : Int} {m1 : MH} (h : b l m = .ok (.int j) m1) (hj : -4611686018427387904 ≤ j ∧ j < 4611686018427387904) : iRng1S b l m = .ok ⟨rng 0 j, none⟩ m1 := by
  unfold iRng1S; rw [h]; show (if _ then _ else _) = _; rw [if_pos hj]
theorem si_rng2 {a b : SE} {i j : Int} {m1 m2 : MH} (h : a l m = .ok (.int i) m1) (h2 : b l m1 = .ok (.int j) m2) (hj : -4611686018427387904 ≤ i ∧ i < 4611686018427387904 ∧ -4611686018427387904 ≤ j ∧ j < 4611686018427387904) : iRng2S a b l m = .ok ⟨rng i j, none⟩ m2 := by
  unfold iRng2S; rw [h]; show R.bind (b l m1) _ = _; rw [h2]; show (if _ then _ else _) = _; rw [if_pos hj]
theorem rng_at {lo hi : Int} {i : Nat} {x : PV} (h : (rng lo hi)[i]? = some x) : x = .int (lo + (i : Nat)) ∧ lo + (i : Nat) < hi := by
  by_cases hi' : i < (hi - lo).toNat
  · rw [rng_get hi'] at h; cases h; exact ⟨rfl, by omega⟩
  · rw [List.getElem?_eq_none (by rw [rng_len]; omega)] at h; cases h
/-- for x in range(b) -/
theorem s_for1 {b : SE} {g : STg} {body : SS} {j : Int} {m1 : MH} (n : Nat) (hn : n = j.toNat) (h : b l m = .ok (.int j) m1) (hj : j < 4611686018427387904) (hj0 : -4611686018427387904 ≤ j) (I : Nat → Loc → MH → Prop) (h0 : I 0 l m1)
    (hs : ∀ i l m, i < n → I i l m → WG (g (.int (i : Nat)) l m) (fun l1 m1 => WS (body l1 m1) ⟨I (i + 1), D.rt, D.nx, I (i + 1), D.ex⟩))
    (hd : ∀ l m, I n l m → D.nx l m) : WS (xFor (iRng1S b) g body l m) D := by
  have e : (rng 0 j).length = n := by rw [rng_len, hn, Int.sub_zero]
  refine s_for (it := ⟨rng 0 j, none⟩) (si_rng1 h ⟨hj0, hj⟩) I h0 (fun i x l m hx hi => ⟨trivial, ?_⟩) (fun l m hi => ⟨trivial, hd l m ?_⟩)
  · have hx' : (rng 0 j)[i]? = some x := hx
    obtain ⟨rfl, h2⟩ := rng_at hx'
    have := hs i l m (by omega) hi
    rw [Int.zero_add]
    exact this
  · have hi' : I (rng 0 j).length l m := hi
    rw [e] at hi'
    exact hi'
/-- for x in range(a, b) -/
theorem s_for2 {a b : SE} {g : STg} {body : SS} {i j : Int} {m1 m2 : MH} (n : Nat) (hn : n = (j - i).toNat) (h : a l m = .ok (.int i) m1) (h2 : b l m1 = .ok (.int j) m2) (hj : -4611686018427387904 ≤ i ∧ i < 4611686018427387904 ∧ -4611686018427387904 ≤ j ∧ j < 4611686018427387904) (I : Nat → Loc → MH → Prop) (h0 : I 0 l m2)
    (hs : ∀ k l m, k < n → I k l m → WG (g (.int (i + (k : Nat))) l m) (fun l1 m1 => WS (body l1 m1) ⟨I (k + 1), D.rt, D.nx, I (k + 1), D.ex⟩))
    (hd : ∀ l m, I n l m → D.nx l m) : WS (xFor (iRng2S a b) g body l m) D := by
  have e : (rng i j).length = n := by rw [rng_len, hn]
  refine s_for (it := ⟨rng i j, none⟩) (si_rng2 h h2 hj) I h0 (fun k x l m hx hi => ⟨trivial, ?_⟩) (fun l m hi => ⟨trivial, hd l m ?_⟩)
  · have hx' : (rng i j)[k]? = some x := hx
    obtain ⟨rfl, h2⟩ := rng_at hx'
    exact hs k l m (by omega) hi
  · have hi' : I (rng i j).length l m := hi
    rw [e] at hi'
    exact hi'
/-- for x in a tuple -/
theorem s_forT {e : SE} {g : STg} {body : SS} {xs : List PV} {m1 : MH} (h : e l m = .ok (.tup xs) m1) (I : Nat → Loc → MH → Prop) (h0 : I 0 l m1)
    (hs : ∀ i x l m, xs[i]? = some x → I i l m → WG (g x l m) (fun l1 m1 => WS (body l1 m1) ⟨I (i + 1), D.rt, D.nx, I (i + 1), D.ex⟩))
    (hd : ∀ l m, I xs.length l m → D.nx l m) : WS (xFor (iSeq e) g body l m) D :=
  s_for (it := ⟨xs, none⟩) (by unfold iSeq; rw [h]; with_unfolding_all rfl) I h0 (fun i x l m hx hi => ⟨trivial, hs i x l m hx hi⟩) (fun l m hi => ⟨trivial, hd l m hi⟩)
/-- for x in a list that stays as it is -/
theorem s_forL {e : SE} {g : STg} {body : SS} {xs : List PV} {n : Nat} {m1 : MH} (h : e l m = .ok (.ref n) m1) (hq : seq? m1 n = some xs) (I : Nat → Loc → MH → Prop) (h0 : I 0 l m1) (hk : ∀ i l m, I i l m → seq? m n = some xs)
    (hs : ∀ i x l m, xs[i]? = some x → I i l m → WG (g x l m) (fun l1 m1 => WS (body l1 m1) ⟨I (i + 1), D.rt, D.nx, I (i + 1), D.ex⟩))
    (hd : ∀ l m, I xs.length l m → D.nx l m) : WS (xFor (iSeq e) g body l m) D :=
  s_for (it := ⟨xs, some n⟩) (by unfold iSeq; rw [h]; show (match seq? m1 n with | some xs => _ | none => _) = _; rw [hq]) I h0 (fun i x l m hx hi => ⟨hk i l m hi, hs i x l m hx hi⟩) (fun l m hi => ⟨hk _ l m hi, hd l m hi⟩)
end
theorem iv_n_list  : isTab (tyName .non) "list" = false := by rw [show isTab (tyName .non) "list" = isTab "NoneType" "list" from rfl]; decide
theorem iv_n_tuple  : isTab (tyName .non) "tuple" = false := by rw [show isTab (tyName .non) "tuple" = isTab "NoneType" "tuple" from rfl]; decide
theorem iv_n_bool  : isTab (tyName .non) "bool" = false := by rw [show isTab (tyName .non) "bool" = isTab "NoneType" "bool" from rfl]; decide
theorem iv_n_str  : isTab (tyName .non) "str" = false := by rw [show isTab (tyName .non) "str" = isTab "NoneType" "str" from rfl]; decide
theorem iv_n_int  : isTab (tyName .non) "int" = false := by rw [show isTab (tyName .non) "int" = isTab "NoneType" "int" from rfl]; decide
theorem okt_n  {m : MH} : okTy m .non = true := by with_unfolding_all rfl
theorem iv_b_list {a : Bool} : isTab (tyName (.bl a)) "list" = false := by rw [show isTab (tyName (.bl a)) "list" = isTab "bool" "list" from rfl]; decide
theorem iv_b_tuple {a : Bool} : isTab (tyName (.bl a)) "tuple" = false := by rw [show isTab (tyName (.bl a)) "tuple" = isTab "bool" "tuple" from rfl]; decide
theorem iv_b_bool {a : Bool} : isTab (tyName (.bl a)) "bool" = true := by rw [show isTab (tyName (.bl a)) "bool" = isTab "bool" "bool" from rfl]; decide
theorem iv_b_str {a : Bool} : isTab (tyName (.bl a)) "str" = false := by rw [show isTab (tyName (.bl a)) "str" = isTab "bool" "str" from rfl]; decide
theorem iv_b_int {a : Bool} : isTab (tyName (.bl a)) "int" = true := by rw [show isTab (tyName (.bl a)) "int" = isTab "bool" "int" from rfl]; decide
theorem okt_b {a : Bool} {m : MH} : okTy m (.bl a) = true := by with_unfolding_all rfl
theorem iv_i_list {a : Int} : isTab (tyName (.int a)) "list" = false := by rw [show isTab (tyName (.int a)) "list" = isTab "int" "list" from rfl]; decide
theorem iv_i_tuple {a : Int} : isTab (tyName (.int a)) "tuple" = false := by rw [show isTab (tyName (.int a)) "tuple" = isTab "int" "tuple" from rfl]; decide
theorem iv_i_bool {a : Int} : isTab (tyName (.int a)) "bool" = false := by rw [show isTab (tyName (.int a)) "bool" = isTab "int" "bool" from rfl]; decide
theorem iv_i_str {a : Int} : isTab (tyName (.int a)) "str" = false := by rw [show isTab (tyName (.int a)) "str" = isTab "int" "str" from rfl]; decide
theorem iv_i_int {a : Int} : isTab (tyName (.int a)) "int" = true := by rw [show isTab (tyName (.int a)) "int" = isTab "int" "int" from rfl]; decide
theorem okt_i {a : Int} {m : MH} : okTy m (.int a) = true := by with_unfolding_all rfl
theorem iv_s_list {a : List Nat} : isTab (tyName (.str a)) "list" = false := by rw [show isTab (tyName (.str a)) "list" = isTab "str" "list" from rfl]; decide
theorem iv_s_tuple {a : List Nat} : isTab (tyName (.str a)) "tuple" = false := by rw [show isTab (tyName (.str a)) "tuple" = isTab "str" "tuple" from rfl]; decide
theorem iv_s_bool {a : List Nat} : isTab (tyName (.str a)) "bool" = false := by rw [show isTab (tyName (.str a)) "bool" = isTab "str" "bool" from rfl]; decide
theorem iv_s_str {a : List Nat} : isTab (tyName (.str a)) "str" = true := by rw [show isTab (tyName (.str a)) "str" = isTab "str" "str" from rfl]; decide
theorem iv_s_int {a : List Nat} : isTab (tyName (.str a)) "int" = false := by rw [show isTab (tyName (.str a)) "int" = isTab "str" "int" from rfl]; decide
theorem okt_s {a : List Nat} {m : MH} : okTy m (.str a) = true := by with_unfolding_all rfl
theorem iv_t_list {a : List PV} : isTab (tyName (.tup a)) "list" = false := by rw [show isTab (tyName (.tup a)) "list" = isTab "tuple" "list" from rfl]; decide
theorem iv_t_tuple {a : List PV} : isTab (tyName (.tup a)) "tuple" = true := by rw [show isTab (tyName (.tup a)) "tuple" = isTab "tuple" "tuple" from rfl]; decide
theorem iv_t_bool {a : List PV} : isTab (tyName (.tup a)) "bool" = false := by rw [show isTab (tyName (.tup a)) "bool" = isTab "tuple" "bool" from rfl]; decide
theorem iv_t_str {a : List PV} : isTab (tyName (.tup a)) "str" = false := by rw [show isTab (tyName (.tup a)) "str" = isTab "tuple" "str" from rfl]; decide
theorem iv_t_int {a : List PV} : isTab (tyName (.tup a)) "int" = false := by rw [show isTab (tyName (.tup a)) "int" = isTab "tuple" "int" from rfl]; decide
theorem okt_t {a : List PV} {m : MH} : okTy m (.tup a) = true := by with_unfolding_all rfl
theorem iv_r_list {a : Nat} : isTab (tyName (.ref a)) "list" = true := by rw [show isTab (tyName (.ref a)) "list" = isTab "list" "list" from rfl]; decide
theorem iv_r_tuple {a : Nat} : isTab (tyName (.ref a)) "tuple" = false := by rw [show isTab (tyName (.ref a)) "tuple" = isTab "list" "tuple" from rfl]; decide
theorem iv_r_bool {a : Nat} : isTab (tyName (.ref a)) "bool" = false := by rw [show isTab (tyName (.ref a)) "bool" = isTab "list" "bool" from rfl]; decide
theorem iv_r_str {a : Nat} : isTab (tyName (.ref a)) "str" = false := by rw [show isTab (tyName (.ref a)) "str" = isTab "list" "str" from rfl]; decide
theorem iv_r_int {a : Nat} : isTab (tyName (.ref a)) "int" = false := by rw [show isTab (tyName (.ref a)) "int" = isTab "list" "int" from rfl]; decide
theorem okt_r {m : MH} {n : Nat} {xs : List PV} (h : seq? m n = some xs) : okTy m (.ref n) = true := by show (seq? m n).isSome = true; rw [h]; with_unfolding_all rfl
theorem tru_b {m : MH} {b : Bool} : truv m (.bl b) = some b := by with_unfolding_all rfl
theorem tru_i {m : MH} {i : Int} : truv m (.int i) = some (i != 0) := by with_unfolding_all rfl
theorem tru_n {m : MH} : truv m .non = some false := by with_unfolding_all rfl
theorem tru_t {m : MH} {xs : List PV} : truv m (.tup xs) = some (!xs.isEmpty) := by with_unfolding_all rfl
theorem tru_r {m : MH} {n : Nat} {xs : List PV} (h : seq? m n = some xs) : truv m (.ref n) = some (!xs.isEmpty) := by show (seq? m n).map _ = _; rw [h]; with_unfolding_all rfl
end SM

set_option Elab.async false
set_option linter.all false
set_option maxRecDepth 100000
set_option maxHeartbeats 1000000
namespace SM
open PySem PySem.Spec PyProof.Rows L2
/-! ## slices -/
def cut {α : Type} (xs : List α) (lo hi : Option Int) : List α := (xs.drop (HT.sIx xs.length 0 lo)).take (HT.sIx xs.length xs.length hi - HT.sIx xs.length 0 lo)
abbrev SO := SM.Loc → MH → R (Option Int)
def rO : Rel (Option Int) (Option Int) := fun _ _ b c => c = b
instance {K} : Stays K rO := ⟨fun _ h => h⟩
def oNone : SO := fun _ m => .ok none m
def oSome (s : SE) : SO := fun l m => (s l m).bind fun x m1 => match x with
  | .int i => .ok (some i) m1
  | _ => .bad
def slv : PV → Option Int → Option Int → MH → OR
  | .str s, lo, hi, m => if s.length ≤ 16777216 then some (.str (cut s lo hi), m) else none
  | .tup xs, lo, hi, m => some (.tup (cut xs lo hi), m)
  | .ref n, lo, hi, m => (seq? m n).map fun xs => (.ref m.length, m ++ [.lst (cut xs lo hi)])
  | _, _, _, _ => none
def sSl (a : SE) (lo hi : SO) : SE := fun l m => (a l m).bind fun x m1 => (lo l m1).bind fun i m2 => (hi l m2).bind fun j m3 => lift (slv x i j m3)
section
variable {X : Cx} {W : XM} {e o : Expr} {se : SE} {lo hi : Option Expr} {slo shi : SO} {pos p2 : Pos}
/-- a slice's bound -/
structure QP (X : Cx) (W : XM) (e : Option Expr) (s : SO) : Prop where
  po : PO X e (Rdg X.K rO W s)
theorem po_imp {e : Option Expr} {t t' : TO} (h : PO X e t) (i : ∀ σ H Q, t' σ H Q → t σ H Q) : PO X e t' := ⟨fun pins s σ H Q I q => h.run pins s σ H Q I (i σ H Q q)⟩
theorem p_none : QP X W none oNone := ⟨po_imp po_none fun σ H Q ⟨φ, l, m, h1, h2, h3⟩ => h3 φ H none Ext.refl h1 rfl⟩
theorem p_some (h : QE X W e se) : QP X W (some e) (oSome se) := ⟨po_imp (po_some h.pe) fun σ H Q q => (one q).mono fun v H1 ⟨φ, m, x, l, c1, c2, c3⟩ => by
  cases x with
  | int i => cases c2; exact ⟨i, rfl, c3 φ H1 _ Ext.refl c1 rfl⟩
  | _ => exact c3.elim⟩
theorem cut_rvs {K : PySem.W.Frag} {H : Hp} {φ : List Addr} {xs : List PV} {vs : List V} (h : RVs K H φ xs vs) (lo hi : Option Int) : RVs K H φ (cut xs lo hi) (cutV vs lo hi) := by
  unfold cut cutV
  rw [h.length]
  exact (h.drop _).take _
theorem cut_whole {α : Type} {xs : List α} {lo hi : Option Int} (h : HT.sIx xs.length 0 lo = 0 ∧ HT.sIx xs.length xs.length hi = xs.length) : cut xs lo hi = xs := by
  unfold cut; rw [h.1, h.2]; simp
theorem cut_str (s : List Nat) (lo hi : Option Int) : cutS ⟨s.toArray⟩ lo hi = ⟨(cut s lo hi).toArray⟩ := by
  unfold cutS cut
  rw [str_len]
theorem s_slice : SlR X (fun v lo hi H Q => ∃ φ m x, RH X.K H φ m ∧ RV X.K H φ x v ∧ PostO X.K φ H (slv x lo hi m) Q) := by
  intro pins s σ H v u vl vu lo hi sl Q I rv hs pl pu ⟨φ, m, x, h1, h2, h3⟩
  cases x with
  | str z =>
    cases h2
    have h4 : PostO X.K φ H (if z.length ≤ 16777216 then some (.str (cut z lo hi), m) else none) Q := h3
    split at h4
    · rename_i hz
      exact sl_str pins s σ H _ u vl vu lo hi sl Q I rv hs pl pu ⟨_, rfl, by rw [str_len, sl_eq]; exact hz, by rw [cut_str]; exact h4.same h1 rfl⟩
    · exact h4.not.elim
  | tup xs =>
    obtain ⟨a, vs, rfl, r1, r2⟩ := h2
    have h4 : PostO X.K φ H (some (.tup (cut xs lo hi), m)) Q := h3
    refine sl_tupA pins s σ H _ u vl vu lo hi sl Q I rv hs pl pu ⟨a, vs, rfl, r1, fun hw => ?_, fun _ => h4.newT h1 (cut_rvs r2 lo hi)⟩
    rw [r2.length] at hw
    rw [cut_whole hw] at h4
    exact h4.same h1 ⟨a, vs, rfl, r1, r2⟩
  | ref n =>
    have h4 : PostO X.K φ H ((seq? m n).map fun xs => (.ref m.length, m ++ [.lst (cut xs lo hi)])) Q := h3
    cases hq : seq? m n with
    | none => rw [hq] at h4; exact h4.not.elim
    | some xs =>
      rw [hq] at h4
      obtain ⟨a, vs, rfl, r1, r2⟩ := h1.seq h2 hq
      exact sl_list pins s σ H _ u vl vu _ _ sl Q I rv hs pl pu ⟨a, vs, rfl, r1, h4.newL h1 (cut_rvs r2 lo hi)⟩
  | _ => exact h3.not.elim
theorem q_slice (he : QE X W e se) (hl : QP X W lo slo) (hu : QP X W hi shi) : QE X W (.Subscript e (.Slice lo hi none p2) pos) (sSl se slo shi) :=
  ⟨pe_imp (pe_slice s_slice he.pe hl.po hu.po) fun σ H Q ⟨φ, l, m, h1, h2, h3⟩ => ⟨φ, l, m, h1, h2, (Post.bind (rel := rV X.K) h2 h3).mono fun v H1 ⟨φ1, x, m1, e1, a1, b1, c1, d1⟩ =>
    ⟨φ1, l, m1, a1, b1, (Post.bind (rel := rO) b1 d1).mono fun i H2 ⟨φ2, i', m2, e2, a2, b2, c2, d2⟩ => ⟨φ2, l, m2, a2, b2, (Post.bind (rel := rO) b2 d2).mono fun j H3 ⟨φ3, j', m3, e3, a3, b3, c3, d3⟩ => by
      cases c2; cases c3
      exact ⟨φ3, m3, x, a3, RV.ext e3 (RV.ext e2 c1), .of d3⟩⟩⟩⟩⟩
end

/-! ## texts: order, in, repeated -/
def cmpIS (f : Int → Int → Bool) (g : List Nat → List Nat → Bool) : PV → PV → MH → OR
  | .int a, .int b, m => some (.bl (f a b), m)
  | .str a, .str b, m => some (.bl (g a b), m)
  | _, _, _ => none
def ltv := cmpIS (fun a b => decide (a < b)) (fun a b => decide (a < b))
def lev := cmpIS (fun a b => decide (a ≤ b)) (fun a b => !decide (b < a))
def gtv := cmpIS (fun a b => decide (b < a)) (fun a b => decide (b < a))
def gev := cmpIS (fun a b => decide (b ≤ a)) (fun a b => !decide (a < b))
section
variable {X : Cx}
theorem o_cmpIS {op : CmpOp} {f : Int → Int → Bool} {g : List Nat → List Nat → Bool} (h1 : OpQ X (compareOp op) (cmpI f))
    (h2 : OpR X (compareOp op) (fun x y H Q => ∃ i j : Str, x = .str i ∧ y = .str j ∧ Q (.bl (g i.cps.toList j.cps.toList)) H)) : OpQ X (compareOp op) (cmpIS f g) := .of_eq fun v w H Q φ m x y a1 a2 a3 a4 => by
  unfold cmpIS at a4
  split at a4
  · exact ⟨_, h1, φ, m, _, _, a1, a2, a3, a4⟩
  · cases a2; cases a3
    exact ⟨_, h2, _, _, rfl, rfl, a4.same a1 rfl⟩
  · exact a4.not.elim
theorem o_lt : OpQ X (compareOp .Lt) ltv := o_cmpIS o_ltI op_lt_str
theorem o_le : OpQ X (compareOp .LtE) lev := o_cmpIS o_leI op_le_str
theorem o_gt : OpQ X (compareOp .Gt) gtv := o_cmpIS o_gtI op_gt_str
theorem o_ge : OpQ X (compareOp .GtE) gev := o_cmpIS o_geI op_ge_str
end
/-- in: a sign in a text, a thing in a tuple or list of flat things, data in a list -/
def inS : PV → PV → MH → OR
  | .str [c], .str s, m => some (.bl (decide (c ∈ s)), m)
  | x, y, m => inv x y m
def ninS : PV → PV → MH → OR
  | .str [c], .str s, m => some (.bl (!decide (c ∈ s)), m)
  | x, y, m => ninv x y m
section
variable {X : Cx} {k : Nat}
theorem o_inS (hr : Room k X.A) : OpQ X (compareOp .In) inS := .of_eq fun v w H Q φ m x y a1 a2 a3 a4 => by
  unfold inS at a4
  split at a4
  · cases a2; cases a3
    exact ⟨_, op_in_sign, _, _, rfl, rfl, a4.same a1 rfl⟩
  · exact ⟨_, o_in hr, φ, m, _, _, a1, a2, a3, a4⟩
theorem o_ninS (hr : Room k X.A) : OpQ X (compareOp .NotIn) ninS := .of_eq fun v w H Q φ m x y a1 a2 a3 a4 => by
  unfold ninS at a4
  split at a4
  · cases a2; cases a3
    exact ⟨_, op_notIn_sign, _, _, rfl, rfl, a4.same a1 rfl⟩
  · exact ⟨_, o_nin hr, φ, m, _, _, a1, a2, a3, a4⟩
theorem fold_rep (c : List Nat) : ∀ (k : Nat) (acc : Array Nat), (List.replicate k c.toArray).foldl (· ++ ·) acc = acc ++ ((List.replicate k c).flatten).toArray
  | 0, acc => by simp
  | k + 1, acc => by
    rw [List.replicate_succ, List.foldl_cons, fold_rep c k, List.replicate_succ, List.flatten_cons]
    apply Array.ext'
    simp
/-- a text some times -/
theorem op_mul_str : OpR X (binaryOp .Mult) (fun x y H Q => ∃ (c : List Nat) (n : Int), x = .str ⟨c.toArray⟩ ∧ y = .int n ∧ 0 ≤ n ∧ n ≤ 1000 ∧ c.length ≤ 1000 ∧ Q (.str ⟨((List.replicate n.toNat c).flatten).toArray⟩) H) := by
  intro pins s σ H x y v u Q I rx ry h
  obtain ⟨c, n, rfl, rfl, h0, h1, h2, q⟩ := h
  obtain ⟨t, rfl⟩ := rx
  obtain ⟨t', rfl⟩ := ry
  have hlen : (⟨c.toArray⟩ : Str).length = c.length := str_len c
  have hsz := sl_eq
  have hdiv : ¬ n < 1 → (1000 : Int) ≤ (2 ^ 63 - 1) / n := fun h => by
    rw [Int.le_ediv_iff_mul_le (by omega)]
    omega
  have hprod : c.length * n.toNat ≤ 1000 * 1000 := Nat.mul_le_mul h2 (by omega)
  refine PySem.P.mul_str (by rw [decide_eq_false (by omega), decide_eq_false (by omega)]; rfl) (fun hn _ => ?_) (fun hn _ => ?_) ?_
  · rw [hlen]
    have := hdiv hn
    omega
  · unfold Builtin.Str.tooLong
    rw [hlen]
    exact decide_eq_false (by omega)
  · by_cases hn : n < 1
    · rw [if_pos hn]
      have e : n.toNat = 0 := by omega
      rw [e] at q
      exact ⟨by decide, .str ⟨#[]⟩, H, I.tok _, ⟨_, rfl⟩, q⟩
    · rw [if_neg hn]
      by_cases h1' : (n == 1 || (⟨c.toArray⟩ : Str).length == 0) = true
      · rw [if_pos h1']
        have e : (List.replicate n.toNat c).flatten = c := by
          rw [hlen] at h1'
          rcases (by simpa using h1' : n = 1 ∨ c = []) with rfl | rfl
          · simp
          · simp
        rw [e] at q
        exact ⟨.str ⟨c.toArray⟩, H, I, ⟨_, rfl⟩, q⟩
      · rw [if_neg h1', fold_rep]
        have e : (#[] : Array Nat) ++ ((List.replicate n.toNat c).flatten).toArray = ((List.replicate n.toNat c).flatten).toArray := by simp
        rw [e]
        refine ⟨?_, .str ⟨((List.replicate n.toNat c).flatten).toArray⟩, H, I.tok _, ⟨_, rfl⟩, q⟩
        rw [str_len, List.length_flatten]
        simp
        rw [Nat.mul_comm]
        omega
def mulvS : PV → PV → MH → OR
  | .str c, .int n, m => if 0 ≤ n ∧ n ≤ 1000 ∧ c.length ≤ 1000 then some (.str (List.replicate n.toNat c).flatten, m) else none
  | .ref i, .int n, m => match lst? m i with
    | some xs => if 0 ≤ n ∧ n ≤ 1000 ∧ xs.length ≤ 1000 then some (.ref m.length, m ++ [.lst (List.replicate n.toNat xs).flatten]) else none
    | none => none
  | x, y, m => mulv x y m
theorem RVs.rep {K : PySem.W.Frag} {H : Hp} {φ : List Addr} {xs : List PV} {vs : List V} (h : RVs K H φ xs vs) : ∀ n : Nat, RVs K H φ (List.replicate n xs).flatten (List.replicate n vs).flatten
  | 0 => rfl
  | n + 1 => by
    rw [List.replicate_succ, List.replicate_succ, List.flatten_cons, List.flatten_cons]
    exact h.append (RVs.rep h n)
theorem o_mulS : OpQ X (binaryOp .Mult) mulvS := .of_eq fun v w H Q φ m x y a1 a2 a3 a4 => by
  unfold mulvS at a4
  split at a4
  · cases a2; cases a3
    split at a4
    · rename_i hz
      exact ⟨_, op_mul_str, _, _, rfl, rfl, hz.1, hz.2.1, hz.2.2, a4.same a1 rfl⟩
    · exact a4.not.elim
  · cases a3
    split at a4
    · rename_i xs hs
      obtain ⟨p, vs, _, rfl, q1, q2⟩ := a1.lst a2 hs
      split at a4
      · rename_i hz
        refine ⟨_, op_rep, p, _, vs, rfl, rfl, q1, by omega, by omega, ?_, a4.newL a1 (q2.rep _)⟩
        rw [q2.length, sl_eq]
        exact Nat.le_trans (Nat.mul_le_mul hz.2.2 (Int.toNat_le.mpr hz.2.1)) (by decide)
      · exact a4.not.elim
    · exact a4.not.elim
  · exact ⟨_, o_mul, φ, m, _, _, a1, a2, a3, a4⟩
end

/-! ## name op= e; a module's constant -/
def xAug (i : Nat) (op : PV → PV → MH → OR) (e : SE) : SS := fun l m => R.then l (sVar i l m) fun x m1 => R.then l (e l m1) fun y m2 => R.then l (lift (op x y m2)) fun z m3 => .nx (l.set i (some z)) m3
def iaddv : PV → PV → MH → OR
  | .int a, .int b, m => some (.int (a + b), m)
  | .str a, .str b, m => if a.length + b.length ≤ 16777216 then some (.str (a ++ b), m) else none
  | _, _, _ => none
def isubv : PV → PV → MH → OR
  | .int a, .int b, m => some (.int (a - b), m)
  | _, _, _ => none
def PIpQ (X : Cx) (op : Operator) (f : PV → PV → MH → OR) : Prop := PIp X op (fun v w H Q => ∃ φ m x y, RH X.K H φ m ∧ RV X.K H φ x v ∧ RV X.K H φ y w ∧ PostO X.K φ H (f x y m) Q)
section
variable {X : Cx} {W : XM} {e : Expr} {se : SE} {pos : Pos}
theorem ia_add : PIpQ X .Add iaddv := by
  intro pins s σ H v w vv ww Q I rv rw' ⟨φ, m, x, y, h1, h2, h3, h4⟩
  unfold iaddv at h4
  split at h4
  · cases h2; cases h3
    exact iop_add pins s σ H _ _ vv ww Q I rv rw' ⟨_, _, rfl, rfl, h4.same h1 rfl⟩
  · cases h2; cases h3
    split at h4
    · rename_i hz
      exact iop_add_str pins s σ H _ _ vv ww Q I rv rw' ⟨_, _, rfl, rfl, by rw [str_len, str_len, sl_eq]; exact hz, by rw [str_app]; exact h4.same h1 rfl⟩
    · exact h4.not.elim
  · exact h4.not.elim
theorem ia_sub : PIpQ X .Sub isubv := by
  intro pins s σ H v w vv ww Q I rv rw' ⟨φ, m, x, y, h1, h2, h3, h4⟩
  unfold isubv at h4
  split at h4
  · cases h2; cases h3
    exact iop_sub pins s σ H _ _ vv ww Q I rv rw' ⟨_, _, rfl, rfl, h4.same h1 rfl⟩
  · exact h4.not.elim
theorem x_aug (i : Nat) {x : Str} {op : Operator} {f : PV → PV → MH → OR} {pos' : Pos} (hN : X.N.Nodup) (ho : PIpQ X op f) (he : QE X W e se) (hi : X.N[i]? = some x := by rfl) (hx : L2.Loc X.env.scope x := by first | exact .inl rfl | exact .inr rfl)
    (hf : X.fn x = true ∨ X.env.scope.names.lookup x = some .local := by first | exact .inl rfl | exact .inr rfl) : QS X W (.AugAssign (.Name x pos') op e pos) (xAug i f se) :=
  ⟨ps_imp (ps_aug hN hi hx he.pe ho hf) fun D σ H ⟨φ, l, m, h1, h2, h3⟩ => by
    unfold xAug sVar at h3
    cases hl : l[i]? with
    | none => rw [hl] at h3; exact h3.elim
    | some o =>
      cases o with
      | none => rw [hl] at h3; exact h3.elim
      | some x =>
        rw [hl] at h3
        have h3 : PostS X.K W φ H (R.then l (se l m) fun y m2 => R.then l (lift (f x y m2)) fun z m3 => .nx (l.set i (some z)) m3) D := h3
        obtain ⟨v, e1, e2⟩ := h2.2 i x hl
        refine ⟨v, e1, φ, l, m, h1, h2, (PostS.then (rel := rV X.K) h2 h3).mono fun w H1 ⟨φ1, y, m1, x1, a1, b1, c1, d1⟩ => ?_⟩
        have d2 := PostS.then (rel := rV X.K) b1 d1
        obtain ⟨z, m3, ez, q⟩ := PostO.of (Q := fun z H2 => D.nx (σ.set i (some z)) H2) (W := W) (l := l) (σ := σ) (d2.mono fun z H2 ⟨φ2, zz, m3, x2, a2, b2, c2, d3⟩ => d3 φ2 _ H2 Ext.refl a2 (b2.set i c2))
        exact ⟨φ1, m1, x, y, a1, RV.ext x1 e2, c1, z, m3, ez, q⟩⟩
theorem q_globI {x : Str} {i : Int} {t : Tok} (hg : Gl X x) (hm : X.mg x = some (.int i t)) (hd : (x == ("__debug__" : Str)) = false := by decide) : QE X W (.Name x pos) (sC (.int i)) := ⟨pe_imp (pe_glob (v := .int i) hg hm ⟨t, rfl⟩ hd) fun σ H Q ⟨φ, l, m, h1, h2, h3⟩ => h3 φ H _ Ext.refl h1 rfl⟩
theorem q_globS {x : Str} {z : Str} {t : Tok} (cs : List Nat) (hg : Gl X x) (hm : X.mg x = some (.str z t)) (hc : z.cps.toList = cs := by decide +kernel) (hd : (x == ("__debug__" : Str)) = false := by decide) : QE X W (.Name x pos) (sC (.str cs)) := ⟨pe_imp (pe_glob (v := .str z) hg hm ⟨t, rfl⟩ hd) fun σ H Q ⟨φ, l, m, h1, h2, h3⟩ => h3 φ H _ Ext.refl h1 (by subst hc; rfl)⟩
end
end SM

set_option Elab.async false
set_option linter.all false
set_option maxRecDepth 100000
set_option maxHeartbeats 1000000
namespace SM
open PySem PySem.Spec PyProof.Rows L2
/-! ## while -/
def whileL (t : SB) (body : SS) : Nat → SM.Loc → MH → RS
  | 0, _, _ => .bad
  | n + 1, l, m => R.then l (t l m) fun b m1 => if b = true then match body l m1 with
      | .nx l2 m2 => whileL t body n l2 m2
      | .ct l2 m2 => whileL t body n l2 m2
      | .bk l2 m2 => .nx l2 m2
      | r => r
    else .nx l m1
@[irreducible] def wfuel : Nat := 1000000
theorem wfuel_eq : wfuel = 1000000 := by unfold wfuel; rfl
def xWhile (t : SB) (body : SS) : SS := fun l m => whileL t body wfuel l m
section
variable {X : Cx} {W : XM} {c : Expr} {body : List Stmt} {t : SB} {sb : SS} {pos : Pos}
theorem x_while (hp : PassesOwn (model X.prog X.w) X.A X.env X.xe) (hc : QT X W c t) (hb : QSs X W body sb) : QS X W (.While c body [] pos) (xWhile t sb) := ⟨ps_imp (ps_while hp hc.pt hb.ps) fun D σ H ⟨φ, l, m, h1, h2, h3⟩ => by
  refine ⟨fun n σ H => ∃ φ l m, RH X.K H φ m ∧ RL X.K H φ l σ ∧ PostS X.K W φ H (whileL t sb n l m) D, ⟨wfuel, φ, l, m, h1, h2, h3⟩, ?_⟩
  rintro n σ1 H1 ⟨φ1, l1, m1, a1, b1, c1⟩
  cases n with
  | zero => exact c1.elim
  | succ n =>
    unfold whileL at c1
    refine ⟨φ1, l1, m1, a1, b1, (PostS.then (rel := rB) b1 c1).mono ?_⟩
    rintro v H2 ⟨φ2, x, m2, e2, a2, b2, hx, d2⟩
    cases hx
    cases v with
    | false => exact iteF (d2 φ2 σ1 H2 Ext.refl a2 b2)
    | true =>
      have d2 : PostS X.K W φ2 H2 (match sb l1 m2 with
        | .nx l2 m2 => whileL t sb n l2 m2
        | .ct l2 m2 => whileL t sb n l2 m2
        | .bk l2 m2 => .nx l2 m2
        | r => r) D := d2
      refine iteT ⟨fun σ' H' => ∃ φ l m, RH X.K H' φ m ∧ RL X.K H' φ l σ' ∧ PostS X.K W φ H' (whileL t sb n l m) D, fun σ' H' w => ⟨n, Nat.lt_succ_self n, w⟩, φ2, l1, m2, a2, b2, ?_⟩
      cases hb : sb l1 m2 with
      | nx l4 m4 => rw [hb] at d2; exact fun φ4 σ4 H4 x4 a4 b4 => ⟨φ4, l4, m4, a4, b4, PostS.ext x4 d2⟩
      | ct l4 m4 => rw [hb] at d2; exact fun φ4 σ4 H4 x4 a4 b4 => ⟨φ4, l4, m4, a4, b4, PostS.ext x4 d2⟩
      | bk l4 m4 => rw [hb] at d2; exact d2
      | rt x m4 => rw [hb] at d2; exact d2
      | ex c fs l4 m4 => rw [hb] at d2; exact d2
      | bad => rw [hb] at d2; exact d2⟩
end

/-! ## list comprehensions, one clause -/
def wipeP (l : SM.Loc) : List Nat → SM.Loc
  | [] => l
  | v :: vs => (wipeP l vs).set v none
theorem RL.wipe {K : PySem.W.Frag} {H : Hp} {φ : List Addr} {l : SM.Loc} {σ : L2.St} (h : RL K H φ l σ) : ∀ vs : List Nat, RL K H φ (wipeP l vs) (wipe σ vs)
  | [] => h
  | v :: vs => by
    have ih := RL.wipe h vs
    unfold wipeP L2.wipe
    refine ⟨by simp [ih.1], fun i x e => ?_⟩
    by_cases hi : v = i
    · subst hi
      by_cases hl : v < (wipeP l vs).length
      · rw [List.getElem?_set_self hl] at e; cases e
      · rw [List.getElem?_eq_none (by simp; omega)] at e; cases e
    · rw [List.getElem?_set_ne hi] at e
      obtain ⟨w, e1, e2⟩ := ih.2 i x e
      exact ⟨w, by rw [List.getElem?_set_ne hi]; exact e1, e2⟩
open Classical in
noncomputable def compL (it : ITM) (g : STg) (t : SB) (e : SE) (d : Nat) (l0 : SM.Loc) : List PV → MH → R PV
  | [], m => if it.ok m then .ok (.ref d) m else .bad
  | x :: r, m => if it.ok m then match g x l0 m with
      | some (l1, m1) => match t l1 m1 with
        | .ok b m2 => if b = true then match e l1 m2 with
            | .ok y m3 => match lst? m3 d with
              | some acc => if acc.length < 16777216 then compL it g t e d l0 r (m3.set d (.lst (acc ++ [y]))) else .bad
              | none => .bad
            | _ => .bad
          else compL it g t e d l0 r m2
        | _ => .bad
      | none => .bad
    else .bad
noncomputable def sLc (si : SI) (g : STg) (t : SB) (e : SE) (vs : List Nat) : SE := fun l m => (si l m).bind fun it m1 => compL it g t e m1.length (wipeP l vs) it.items (m1 ++ [.lst []])
/-- what a test list reads: none, one -/
def tYesS : SB := fun _ m => .ok true m
/-- targets whose slots are known: a name, names in a tuple -/
structure QN (X : Cx) (tg : Expr) (g : STg) (vs : List Nat) : Prop where
  pg : PG X tg (fun v σ H Q => ∃ φ l m x, RH X.K H φ m ∧ RL X.K H φ l σ ∧ RV X.K H φ x v ∧ ∃ l' m', g x l m = some (l', m') ∧ ∀ φ' σ' H', wipe σ' vs = wipe σ vs → Ext X.K φ H φ' H' → RH X.K H' φ' m' → RL X.K H' φ' l' σ' → Q σ' H')
theorem wipe_set {σ : L2.St} {i : Nat} {x : Option V} : ∀ {vs : List Nat}, i ∈ vs → wipe (σ.set i x) vs = wipe σ vs
  | [], h => by cases h
  | v :: vs, h => by
    unfold wipe
    by_cases hv : i ∈ vs
    · rw [wipe_set hv]
    · have e : v = i := by
        rcases List.mem_cons.mp h with q | q
        · exact q.symm
        · exact absurd q hv
      subst e
      have e2 : wipe (σ.set v x) vs = (wipe σ vs).set v x := by
        clear h
        induction vs with
        | nil => rfl
        | cons u us ih =>
          have hne : v ≠ u := fun z => hv (by rw [z]; exact List.mem_cons_self)
          unfold wipe
          rw [ih (fun z => hv (List.mem_cons_of_mem _ z)), List.set_comm _ _ hne]
      rw [e2, List.set_set]
section
variable {X : Cx} {pos : Pos}
theorem n_name (i : Nat) {vs : List Nat} {x : Str} (hN : X.N.Nodup) (hv : i ∈ vs) (hi : X.N[i]? = some x := by rfl) (hx : L2.Loc X.env.scope x := by first | exact .inl rfl | exact .inr rfl) (hf : X.fn x = true ∨ X.env.scope.names.lookup x = some .local := by first | exact .inl rfl | exact .inr rfl) : QN X (.Name x pos) (gNm i) vs :=
  ⟨pg_imp (pg_name hN hi hx hf) fun v σ H Q ⟨φ, l, m, x, h1, h2, h3, l', m', e, q⟩ => by
    cases e
    exact q φ _ H (wipe_set hv) Ext.refl h1 (h2.set i h3)⟩
structure QNs (X : Cx) (tg : List Expr) (g : STgs) (vs : List Nat) : Prop where
  pg : PGs X tg (fun v σ H Q => ∃ φ l m x, RH X.K H φ m ∧ RL X.K H φ l σ ∧ RVs X.K H φ x v ∧ ∃ l' m', g x l m = some (l', m') ∧ ∀ φ' σ' H', wipe σ' vs = wipe σ vs → Ext X.K φ H φ' H' → RH X.K H' φ' m' → RL X.K H' φ' l' σ' → Q σ' H')
theorem ns_nil {vs : List Nat} : QNs X [] gNilS vs := ⟨pgs_imp pgs_nil fun v σ H Q ⟨φ, l, m, x, h1, h2, h3, l', m', e, q⟩ => by
  unfold gNilS at e
  split at e
  · cases h3
    cases e
    exact ⟨rfl, q φ _ H rfl Ext.refl h1 h2⟩
  · cases e⟩
theorem ns_cons {e : Expr} {es : List Expr} {g : STg} {r : STgs} {vs : List Nat} (h1 : QN X e g vs) (h2 : QNs X es r vs) (hs : (assignEach (e :: es) X.env).map (·.2) = assign e X.env :: (assignEach es X.env).map (·.2) := by rfl) : QNs X (e :: es) (gConsS g r) vs :=
  ⟨pgs_imp (pgs_cons h1.pg h2.pg hs) fun v σ H Q ⟨φ, l, m, x, h1, h2, h3, l', m', e, q⟩ => by
    unfold gConsS at e
    split at e
    · rename_i x xs
      obtain ⟨w, ws, rfl, r1, r2⟩ := h3
      split at e
      · rename_i l1 m1 e1
        exact ⟨w, ws, rfl, φ, l, m, x, h1, h2, r1, l1, m1, e1, fun φ1 σ1 H1 w1 x1 a1 b1 => ⟨φ1, l1, m1, xs, a1, b1, RVs.ext x1 r2, l', m', e, fun φ2 σ2 H2 w2 x2 a2 b2 => q φ2 σ2 H2 (w2.trans w1) (x1.trans x2) a2 b2⟩⟩
      · cases e
    · cases e⟩
theorem n_tup {es : List Expr} {k n : Nat} {g : STgs} {vs : List Nat} (hc : X.calm = true) (h : QNs X es g vs) (hn : (assignEach es X.env).length = n := by rfl) (hst : (assignEach es X.env).findIdx? (·.1) = none := by rfl) : QN X (.Tuple es k pos) (gTupS n g) vs :=
  ⟨pg_imp (pg_or (pg_tup hc h.pg hn hst) (pg_unl hc h.pg hn hst)) fun v σ H Q ⟨φ, l, m, x, h1, h2, h3, l', m', e, q⟩ => by
    unfold gTupS at e
    split at e
    · obtain ⟨a, us, rfl, r1, r2⟩ := h3
      split at e
      · rename_i hz
        exact .inl ⟨a, us, rfl, r1, by rw [r2.length]; exact hz, φ, l, m, _, h1, h2, r2, l', m', e, q⟩
      · cases e
    · split at e
      · rename_i xs hs
        obtain ⟨a, us, rfl, r1, r2⟩ := h1.seq h3 hs
        split at e
        · rename_i hz
          exact .inr ⟨a, us, rfl, r1, by rw [r2.length]; exact hz, φ, l, m, _, h1, h2, r2, l', m', e, q⟩
        · cases e
      · cases e
    · cases e⟩
end
structure QTs (X : Cx) (W : XM) (e : List Expr) (s : SB) : Prop where
  pt : PTs X e (Rdg X.K rB W s)
section
variable {X : Cx} {W : XM} {e : Expr} {s : SB}
theorem ts_nil : QTs X W [] tYesS := ⟨⟨fun pins s σ H Q I ⟨φ, l, m, h1, h2, h3⟩ => pts_nil.run pins s σ H Q I (h3 φ H true Ext.refl h1 rfl)⟩⟩
theorem ts_one (h : QT X W e s) : QTs X W [e] s := ⟨pts_one h.pt⟩
variable {elt tg iter : Expr} {ifs : List Expr} {scope : Scope} {own : List (Str × Nat)} {pos : Pos} {si : SI} {g : STg} {t : SB} {se : SE}
theorem wipe_sub {σ : L2.St} {vs : List Nat} : ∀ us : List Nat, (∀ u ∈ us, u ∈ vs) → wipe (wipe σ vs) us = wipe σ vs
  | [], _ => rfl
  | u :: us, h => by
    show (wipe (wipe σ vs) us).set u none = wipe σ vs
    rw [wipe_sub us fun x hx => h x (List.mem_cons_of_mem _ hx)]
    have hu := h u List.mem_cons_self
    apply List.ext_getElem?
    intro i
    by_cases hi : u = i
    · subst hi
      by_cases hl : u < (wipe σ vs).length
      · rw [List.getElem?_set_self hl]
        cases hw : (wipe σ vs)[u]? with
        | none => rw [List.getElem?_eq_none_iff] at hw; omega
        | some o =>
          cases o with
          | none => rfl
          | some x => exact absurd hu (wipe_some hw).2
      · rw [List.getElem?_eq_none (by simp; omega), List.getElem?_eq_none (by omega)]
    · rw [List.getElem?_set_ne hi]
/-- the reading of a comprehension from the reckoning -/
theorem lc_at {Q : VK} {σ : L2.St} {H : Hp} {vs : List Nat} (h : Rdg X.K (rV X.K) W (sLc si g t se vs) σ H Q) :
    tLc (RdI X.K W si) (fun v σ H Q => ∃ φ l m x, RH X.K H φ m ∧ RL X.K H φ l σ ∧ RV X.K H φ x v ∧ ∃ l' m', g x l m = some (l', m') ∧ ∀ φ' σ' H', wipe σ' vs = wipe σ vs → Ext X.K φ H φ' H' → RH X.K H' φ' m' → RL X.K H' φ' l' σ' → Q σ' H')
      (Rdg X.K rB W0 t) (Rdg X.K (rV X.K) W0 se) vs σ H Q := by
  obtain ⟨φ, l, m, h1, h2, h3⟩ := h
  refine ⟨φ, l, m, h1, h2, ?_⟩
  unfold sLc at h3
  cases hsi : si l m with
  | bad => rw [hsi] at h3; exact h3
  | ex c fs m' => rw [hsi] at h3; exact h3
  | ok it m1 =>
    rw [hsi] at h3
    have h3 : Post X.K (rV X.K) W φ l σ H (compL it g t se m1.length (wipeP l vs) it.items (m1 ++ [.lst []])) Q := h3
    intro φ1 H1 J x1 a1 w D nD
    have hlen := a1.len
    refine lc_it (g := fun v σ H Q => ∃ φ l m x, RH X.K H φ m ∧ RL X.K H φ l σ ∧ RV X.K H φ x v ∧ ∃ l' m', g x l m = some (l', m') ∧ ∀ φ' σ' H', wipe σ' vs = wipe σ vs → Ext X.K φ H φ' H' → RH X.K H' φ' m' → RL X.K H' φ' l' σ' → Q σ' H') (tt := Rdg X.K rB W0 t) (te := Rdg X.K (rV X.K) W0 se) (vs := vs) (σ := σ) (H1 := H1) (D := D) (Qd := fun H => Q (.ref D) H) w (fun i H2 => ∃ φ2 m2, Ext X.K φ1 H1 φ2 H2 ∧ RH X.K H2 φ2 m2 ∧ φ2[m1.length]? = some D ∧ Post X.K (rV X.K) W φ2 l σ H2 (compL it g t se m1.length (wipeP l vs) (it.items.drop i) m2) Q) ?_ ?_ ?_ ?_
    · obtain ⟨e2, a2, r2⟩ := a1.newL nD (show RVs X.K H1 φ1 [] [] from rfl)
      exact ⟨_, _, e2, a2, by rw [← hlen]; simp, Post.ext (x1.trans e2) h3⟩
    · rintro i H2 hi ⟨φ2, m2, x2, a2, d2, p2⟩
      refine ⟨φ2, m2, x2, a2, ?_⟩
      cases hd : it.items.drop i with
      | nil =>
        rw [hd] at p2
        unfold compL at p2
        by_cases hk : it.ok m2
        · exact hk
        · rw [if_neg hk] at p2; exact p2.elim
      | cons x r =>
        rw [hd] at p2
        unfold compL at p2
        by_cases hk : it.ok m2
        · exact hk
        · rw [if_neg hk] at p2; exact p2.elim
    · rintro i v H2 H2' hi ⟨φ2, m2, x2, a2, d2, p2⟩ ⟨rfl, hv⟩
      have hi' : i < it.items.length := hi
      rw [List.drop_eq_getElem_cons hi'] at p2
      unfold compL at p2
      by_cases hk : it.ok m2
      · rw [if_pos hk] at p2
        obtain ⟨x0', hx1, hx2⟩ := hv φ2 m2 x2 a2 hk
        rw [List.getElem?_eq_getElem hi'] at hx1
        cases hx1
        cases hgx : g it.items[i] (wipeP l vs) m2 with
        | none => rw [hgx] at p2; exact p2.elim
        | some p =>
          obtain ⟨l3, m3⟩ := p
          rw [hgx] at p2
          dsimp only at p2
          refine ⟨φ2, wipeP l vs, m2, _, a2, (h2.ext (x1.trans x2)).wipe vs, hx2, l3, m3, hgx, fun φ3 σ3 H3 w3 x3 a3 b3 => ⟨by rw [w3, wipe_sub vs fun _ h => h], φ3, l3, m3, a3, b3, ?_⟩⟩
          have p3 := Post.ext x3 p2
          cases ht : t l3 m3 with
          | bad => rw [ht] at p3; exact p3
          | ex c fs m' => rw [ht] at p3; exact p3.elim
          | ok b m4 =>
            rw [ht] at p3
            dsimp only at p3
            intro φ4 H4 b' x4 a4 hb
            cases hb
            cases b with
            | false => exact iteF ⟨φ4, m4, (x2.trans x3).trans x4, a4, x4.get (x3.get d2), Post.ext x4 p3⟩
            | true =>
              rw [if_pos rfl] at p3
              refine iteT ⟨φ4, l3, m4, a4, b3.ext x4, ?_⟩
              have p4 := Post.ext x4 p3
              cases he : se l3 m4 with
              | bad => rw [he] at p4; exact p4
              | ex c fs m' => rw [he] at p4; exact p4.elim
              | ok y m5 =>
                rw [he] at p4
                dsimp only at p4
                intro φ5 H5 u x5 a5 r5
                cases hl : lst? m5 m1.length with
                | none => rw [hl] at p4; exact p4.elim
                | some acc =>
                  rw [hl] at p4
                  dsimp only at p4
                  have d5 : φ5[m1.length]? = some D := x5.get (x4.get (x3.get d2))
                  obtain ⟨D', us, e1, e2, e3, e4⟩ := a5.lst (n := m1.length) (v := .ref D) ⟨D, d5, rfl⟩ hl
                  cases e2
                  by_cases hz : acc.length < 16777216
                  · rw [if_pos hz] at p4
                    obtain ⟨f1, f2⟩ := a5.setL d5 (lst_some hl) (e4.append (show RVs X.K H5 φ5 [y] [u] from ⟨u, [], rfl, r5, rfl⟩))
                    exact ⟨us, e3, by rw [e4.length, sl_eq]; exact hz, φ5, _, (((x2.trans x3).trans x4).trans x5).trans f1, f2, f1.get d5, Post.ext (x5.trans f1) p4⟩
                  · rw [if_neg hz] at p4; exact p4.elim
      · rw [if_neg hk] at p2; exact p2.elim
    · rintro H2 ⟨φ2, m2, x2, a2, d2, p2⟩
      rw [List.drop_of_length_le (Nat.le_refl _)] at p2
      unfold compL at p2
      by_cases hk : it.ok m2
      · rw [if_pos hk] at p2
        exact p2 φ2 H2 (.ref D) Ext.refl a2 ⟨D, d2, rfl⟩
      · rw [if_neg hk] at p2; exact p2.elim
theorem q_lc (hc : X.calm = true) (hN : X.N.Nodup) (hi : QI X W tg iter si) (ok : BlkOk X.N X.env.scope scope own)
    (hg : ∀ (s : Shared) (H : Hp) (C : Addr) (cl : List (Str × Addr)) (fp : List Addr), QN (X.blk s H scope (compEnvC scope cl C X.env) fp) tg g (own.map (·.2))) (ht : ∀ (s : Shared) (H : Hp) (C : Addr) (cl : List (Str × Addr)) (fp : List Addr), QTs (X.blk s H scope (compEnvC scope cl C X.env) fp) W0 ifs t)
    (he : ∀ (s : Shared) (H : Hp) (C : Addr) (cl : List (Str × Addr)) (fp : List Addr), QE (X.blk s H scope (compEnvC scope cl C X.env) fp) W0 elt se) (hs : ∀ x, foldedSetIterable iter X.env x = pure x := by intro _; rfl) :
    QE X W (.ListComp elt [⟨tg, iter, ifs, 0⟩] scope pos) (sLc si g t se (own.map (·.2))) :=
  ⟨pe_imp (pe_lc hc hN hi.pi ok (fun s H C cl fp => (hg s H C cl fp).pg) (fun s H C cl fp => (ht s H C cl fp).pt) (fun s H C cl fp => (he s H C cl fp).pe) hs) fun σ H Q h => lc_at h⟩
theorem x_setLc (i : Nat) {y : Str} {py spos : Pos} (hc : X.calm = true) (hN : X.N.Nodup) (hy : X.N[i]? = some y) (hyl : X.env.scope.names.lookup y = some .local)
    (hsw : swapsWith (.ListComp elt [⟨tg, iter, ifs, 0⟩] scope pos) (some (.Name y py)) spos.line X.env = pure true) (hi : QI X W tg iter si) (ok : BlkOk X.N X.env.scope scope own)
    (hg : ∀ (s : Shared) (H : Hp) (C : Addr) (cl : List (Str × Addr)) (fp : List Addr), QN (X.blk s H scope (compEnvC scope cl C X.env) fp) tg g (own.map (·.2))) (ht : ∀ (s : Shared) (H : Hp) (C : Addr) (cl : List (Str × Addr)) (fp : List Addr), QTs (X.blk s H scope (compEnvC scope cl C X.env) fp) W0 ifs t)
    (he : ∀ (s : Shared) (H : Hp) (C : Addr) (cl : List (Str × Addr)) (fp : List Addr), QE (X.blk s H scope (compEnvC scope cl C X.env) fp) W0 elt se) (hs : ∀ x, foldedSetIterable iter X.env x = pure x := by intro _; rfl) :
    QS X W (.Assign [.Name y py] (.ListComp elt [⟨tg, iter, ifs, 0⟩] scope pos) spos) (xSet i (sLc si g t se (own.map (·.2)))) :=
  ⟨ps_imp (ps_setLc hc hN hy hyl hsw hi.pi ok (fun s H C cl fp => (hg s H C cl fp).pg) (fun s H C cl fp => (ht s H C cl fp).pt) (fun s H C cl fp => (he s H C cl fp).pe) hs) fun D σ H ⟨φ, l, m, h1, h2, h3⟩ =>
    lc_at ⟨φ, l, m, h1, h2, (PostS.then (rel := rV X.K) h2 h3).mono fun v H1 ⟨φ1, x, m1, e1, a1, b1, c1, d1⟩ => d1 φ1 _ H1 Ext.refl a1 (b1.set i c1)⟩⟩
end
end SM

set_option Elab.async false
set_option linter.all false
set_option maxRecDepth 100000
set_option maxHeartbeats 1000000
namespace SM
open PySem PySem.Spec PyProof.Rows L2
/-! ## sep.join(a list or tuple of texts) -/
def strs? : List PV → Option (List (List Nat))
  | [] => some []
  | .str s :: r => (strs? r).map (s :: ·)
  | _ :: _ => none
def joinL (a : List Nat) (ys : List (List Nat)) : List Nat := (PySem.Txt.join ⟨a.toArray⟩ (ys.map fun y => ⟨y.toArray⟩)).cps.toList
def joinv : PV → List PV → MH → OR
  | .str a, [.ref n], m => match seq? m n with
    | some xs => match strs? xs with
      | some ys => if (ys.map (·.length)).sum + ys.length * a.length ≤ 16777216 then some (.str (joinL a ys), m) else none
      | none => none
    | none => none
  | .str a, [.tup xs], m => match strs? xs with
      | some ys => if (ys.map (·.length)).sum + ys.length * a.length ≤ 16777216 then some (.str (joinL a ys), m) else none
      | none => none
  | _, _, _ => none
theorem strs_rvs {K : PySem.W.Frag} {H : Hp} {φ : List Addr} : ∀ {xs : List PV} {ys : List (List Nat)} {vs : List V}, strs? xs = some ys → RVs K H φ xs vs → vs = (ys.map fun y => (⟨y.toArray⟩ : Str)).map V.str
  | [], ys, vs, e, r => by cases e; cases r; rfl
  | x :: xs, ys, vs, e, r => by
    obtain ⟨v, us, rfl, r1, r2⟩ := r
    cases x with
    | str s =>
      unfold strs? at e
      cases h : strs? xs with
      | none => rw [h] at e; cases e
      | some zs =>
        rw [h] at e
        cases e
        cases r1
        rw [strs_rvs h r2]
        rfl
    | _ => cases e
theorem str_eta (s : Str) : (⟨s.cps.toList.toArray⟩ : Str) = s := by cases s; simp
theorem lens_eq (ys : List (List Nat)) : ((ys.map fun y => (⟨y.toArray⟩ : Str)).map (·.length)).sum = (ys.map (·.length)).sum := by
  rw [List.map_map]
  congr 1
section
variable {X : Cx}
theorem m_join : MtQ X "str.join" joinv := .of fun v vs H Q φ m x xs h1 h2 h3 h4 => by
  have two : ∀ (a : List Nat) (p : Addr) (zs : List PV) (ws : List V), (SqL X.K H p ws ∨ SqT X.K H p ws) → RVs X.K H φ zs ws → PostO X.K φ H (match strs? zs with
      | some ys => if (ys.map (·.length)).sum + ys.length * a.length ≤ 16777216 then some (.str (joinL a ys), m) else none
      | none => none) Q → ∃ r, MtR X "str.join" r ∧ r (.str ⟨a.toArray⟩) [.ref p] H Q := by
    intro a p zs ws hp hr h
    cases hz : strs? zs with
    | none => rw [hz] at h; exact h.not.elim
    | some ys =>
      rw [hz] at h
      dsimp only at h
      split at h
      · rename_i hle
        have e := strs_rvs hz hr
        subst e
        refine ⟨_, mt_join, ⟨a.toArray⟩, p, ys.map fun y => ⟨y.toArray⟩, rfl, rfl, hp, ?_, h.same h1 (show V.str _ = V.str _ by unfold joinL; rw [str_eta])⟩
        rw [lens_eq, List.length_map, str_len]
        exact hle
      · exact h.not.elim
  unfold joinv at h4
  split at h4
  · cases h2
    obtain ⟨v, rfl, r⟩ := h3.one
    split at h4
    · rename_i zs hq
      obtain ⟨p, ws, rfl, q1, q2⟩ := h1.seq r hq
      exact two _ p zs ws (.inl q1) q2 h4
    · exact h4.not.elim
  · cases h2
    obtain ⟨v, rfl, r⟩ := h3.one
    obtain ⟨p, ws, rfl, q1, q2⟩ := r
    exact two _ p _ ws (.inr q1) q2 h4
  · exact h4.not.elim
end
/-! ## the readings -/
section
variable {Q : PV → MH → Prop} {E : EX} {l : SM.Loc} {m : MH} {D : ED} {a b c : SE} {s t : SS} {ta tb : SB} {as : SA}
theorem lt_ii {a b : Int} : ltv (.int a) (.int b) m = some (.bl (decide (a < b)), m) := by with_unfolding_all rfl
theorem le_ii {a b : Int} : lev (.int a) (.int b) m = some (.bl (decide (a ≤ b)), m) := by with_unfolding_all rfl
theorem gt_ii {a b : Int} : gtv (.int a) (.int b) m = some (.bl (decide (b < a)), m) := by with_unfolding_all rfl
theorem ge_ii {a b : Int} : gev (.int a) (.int b) m = some (.bl (decide (b ≤ a)), m) := by with_unfolding_all rfl
theorem lt1 {a b : Nat} : ([b] < [a]) ↔ b < a := by rw [List.cons_lt_cons_iff]; simp
theorem le_cc {a b : Nat} : lev (.str [a]) (.str [b]) m = some (.bl (decide (a ≤ b)), m) := by
  show some (PV.bl (!decide ([b] < [a])), m) = _
  congr 3
  by_cases h : a ≤ b
  · rw [decide_eq_true h, decide_eq_false (by rw [lt1]; omega)]; rfl
  · rw [decide_eq_false h, decide_eq_true (by rw [lt1]; omega)]; rfl
theorem muls_ii {a b : Int} : mulvS (.int a) (.int b) m = mulv (.int a) (.int b) m := by with_unfolding_all rfl
theorem muls_si {c : List Nat} {n : Int} : mulvS (.str c) (.int n) m = if 0 ≤ n ∧ n ≤ 1000 ∧ c.length ≤ 1000 then some (.str (List.replicate n.toNat c).flatten, m) else none := by with_unfolding_all rfl
theorem ins_cs {c : Nat} {s : List Nat} : inS (.str [c]) (.str s) m = some (.bl (decide (c ∈ s)), m) := by with_unfolding_all rfl
theorem iadd_ii {a b : Int} : iaddv (.int a) (.int b) m = some (.int (a + b), m) := by with_unfolding_all rfl
theorem isub_ii {a b : Int} : isubv (.int a) (.int b) m = some (.int (a - b), m) := by with_unfolding_all rfl
theorem w_onone {Q : Option Int → MH → Prop} : WP (oNone l m) Q E = Q none m := by with_unfolding_all rfl
theorem w_osome {Q : Option Int → MH → Prop} : WP (oSome a l m) Q E = WP (a l m) (fun x m1 => match x with | .int i => Q (some i) m1 | _ => False) E := by
  unfold oSome; rw [wp_bind]; refine wp_eq fun x m1 => ?_; cases x <;> with_unfolding_all rfl
theorem w_sl {lo hi : SO} : WP (sSl a lo hi l m) Q E = WP (a l m) (fun x m1 => WP (lo l m1) (fun i m2 => WP (hi l m2) (fun j m3 => WP (lift (slv x i j m3)) Q E) E) E) E := by
  unfold sSl; rw [wp_bind]; refine wp_eq fun x m1 => ?_; rw [wp_bind]; refine wp_eq fun i m2 => ?_; rw [wp_bind]
theorem sl_s {s : List Nat} {i j : Option Int} : slv (.str s) i j m = if s.length ≤ 16777216 then some (.str (cut s i j), m) else none := by with_unfolding_all rfl
theorem sl_t {s : List PV} {i j : Option Int} : slv (.tup s) i j m = some (.tup (cut s i j), m) := by with_unfolding_all rfl
theorem s_aug {i : Nat} {op : PV → PV → MH → OR} : WS (xAug i op a l m) D = WP (sVar i l m) (fun x m1 => WP (a l m1) (fun y m2 => WP (lift (op x y m2)) (fun z m3 => D.nx (l.set i (some z)) m3) (fun c fs m => D.ex c fs l m)) (fun c fs m => D.ex c fs l m)) (fun c fs m => D.ex c fs l m) := by
  unfold xAug
  rw [ws_then]; refine wp_eq fun x m1 => ?_; rw [ws_then]; refine wp_eq fun y m2 => ?_; rw [ws_then]; refine wp_eq fun z m3 => ?_; rw [ws_nx]
/-- while: an invariant with what is left -/
theorem ws_while (I : Nat → SM.Loc → MH → Prop)
    (hs : ∀ k l m, I k l m → WP (ta l m) (fun b m1 => if b = true then 0 < k ∧ WS (s l m1) ⟨I (k - 1), D.rt, D.nx, I (k - 1), D.ex⟩ else D.nx l m1) (fun c fs m => D.ex c fs l m)) :
    ∀ (n k : Nat) (l : SM.Loc) (m : MH), k < n → I k l m → WS (whileL ta s n l m) D
  | 0, k, l, m, hk, h => absurd hk (Nat.not_lt_zero _)
  | n + 1, k, l, m, hk, h => by
    unfold whileL
    rw [ws_then]
    refine (hs k l m h).mono fun b m1 q => ?_
    by_cases hb : b = true
    · rw [if_pos hb] at q ⊢
      obtain ⟨q0, q⟩ := q
      cases hr : s l m1 with
      | nx l2 m2 => rw [hr, ws_nx] at q; exact ws_while I hs n (k - 1) l2 m2 (by omega) q
      | ct l2 m2 => rw [hr, ws_ct] at q; exact ws_while I hs n (k - 1) l2 m2 (by omega) q
      | bk l2 m2 => rw [hr, ws_bk] at q; dsimp only; rw [ws_nx]; exact q
      | rt x m2 => rw [hr, ws_rt] at q; dsimp only; rw [ws_rt]; exact q
      | ex c fs l2 m2 => rw [hr] at q; dsimp only; unfold WS at q ⊢; exact q
      | bad => rw [hr, ws_bad] at q; exact q.elim
    · rw [if_neg hb] at q ⊢
      rw [ws_nx]
      exact q
theorem s_while (n : Nat) (hn : n < 1000000) (I : Nat → SM.Loc → MH → Prop) (h0 : I n l m)
    (hs : ∀ k l m, I k l m → WP (ta l m) (fun b m1 => if b = true then 0 < k ∧ WS (s l m1) ⟨I (k - 1), D.rt, D.nx, I (k - 1), D.ex⟩ else D.nx l m1) (fun c fs m => D.ex c fs l m)) : WS (xWhile ta s l m) D := by
  unfold xWhile
  exact ws_while I hs _ n l m (by rw [wfuel_eq]; exact hn) h0
end
end SM

set_option Elab.async false
set_option linter.all false
set_option maxRecDepth 100000
set_option maxHeartbeats 1000000
namespace SM
open PySem PySem.Spec PyProof.Rows L2
/-! ## str(int | text), tuple(x), list(x) -/
def dec (i : Int) : List Nat := ((toString i : String) : Str).cps.toList
def strv : List PV → MH → OR
  | [.int i], m => if i.natAbs.log2 < 1920 then some (.str (dec i), m) else none
  | [.str s], m => some (.str s, m)
  | _, _ => none
def tuplev : List PV → MH → OR
  | [.tup xs], m => some (.tup xs, m)
  | [.ref n], m => (seq? m n).map fun xs => (.tup xs, m)
  | _, _ => none
def listv : List PV → MH → OR
  | [.tup xs], m => some (.ref m.length, m ++ [.lst xs])
  | [.ref n], m => (seq? m n).map fun xs => (.ref m.length, m ++ [.lst xs])
  | _, _ => none
section
variable {X : Cx}
theorem c_str : CrQ X (.type "str") strv := .of fun vs H Q φ m xs h1 h2 h4 => by
  unfold strv at h4
  split at h4
  · obtain ⟨v, rfl, r⟩ := h2.one
    cases r
    split at h4
    · rename_i hz
      exact ⟨_, call_str_int, _, rfl, hz, h4.same h1 (show V.str _ = V.str _ by unfold dec; rw [str_eta])⟩
    · exact h4.not.elim
  · obtain ⟨v, rfl, r⟩ := h2.one
    cases r
    exact ⟨_, SkE.call_str_str, _, rfl, h4.same h1 rfl⟩
  · exact h4.not.elim
theorem c_tuple : CrQ X (.type "tuple") tuplev := .of fun vs H Q φ m xs h1 h2 h4 => by
  unfold tuplev at h4
  split at h4
  · obtain ⟨v, rfl, r⟩ := h2.one
    obtain ⟨a, ws, rfl, q1, q2⟩ := r
    exact ⟨_, call_tuple_of, a, ws, rfl, .inr ⟨q1, h4.same h1 ⟨a, ws, rfl, q1, q2⟩⟩⟩
  · obtain ⟨v, rfl, r⟩ := h2.one
    rename_i n
    cases hq : seq? m n with
    | none => rw [hq] at h4; exact h4.not.elim
    | some xs =>
      rw [hq] at h4
      obtain ⟨a, ws, rfl, q1, q2⟩ := h1.seq r hq
      exact ⟨_, call_tuple_of, a, ws, rfl, .inl ⟨q1, h4.newT h1 q2⟩⟩
  · exact h4.not.elim
theorem c_list : CrQ X (.type "list") listv := .of fun vs H Q φ m xs h1 h2 h4 => by
  unfold listv at h4
  split at h4
  · obtain ⟨v, rfl, r⟩ := h2.one
    obtain ⟨a, ws, rfl, q1, q2⟩ := r
    exact ⟨_, call_list_of, a, ws, rfl, .inr q1, h4.newL h1 q2⟩
  · obtain ⟨v, rfl, r⟩ := h2.one
    rename_i n
    cases hq : seq? m n with
    | none => rw [hq] at h4; exact h4.not.elim
    | some xs =>
      rw [hq] at h4
      obtain ⟨a, ws, rfl, q1, q2⟩ := h1.seq r hq
      exact ⟨_, call_list_of, a, ws, rfl, .inl q1, h4.newL h1 q2⟩
  · exact h4.not.elim
end
section
variable {m : MH}
theorem str_s {s : List Nat} : strv [.str s] m = some (.str s, m) := by with_unfolding_all rfl
theorem str_i {i : Int} (h : i.natAbs.log2 < 1920) : strv [.int i] m = some (.str (dec i), m) := by
  show (if _ then _ else _) = _; rw [if_pos h]
theorem tuple_t {xs : List PV} : tuplev [.tup xs] m = some (.tup xs, m) := by with_unfolding_all rfl
theorem tuple_r {n : Nat} {xs : List PV} (h : seq? m n = some xs) : tuplev [.ref n] m = some (.tup xs, m) := by
  show (seq? m n).map _ = _; rw [h]; with_unfolding_all rfl
theorem list_t {xs : List PV} : listv [.tup xs] m = some (.ref m.length, m ++ [.lst xs]) := by with_unfolding_all rfl
theorem list_r {n : Nat} {xs : List PV} (h : seq? m n = some xs) : listv [.ref n] m = some (.ref m.length, m ++ [.lst xs]) := by
  show (seq? m n).map _ = _; rw [h]; with_unfolding_all rfl
end
end SM

set_option Elab.async false
set_option linter.all false
set_option maxRecDepth 100000
set_option maxHeartbeats 1000000
namespace SM
open PySem PySem.Spec PyProof.Rows L2
/-! ## in: a text in a list of texts, a pair of integers in a list of such -/
theorem allO_map {α β : Type} {f : α → Option β} {g : α → β} : ∀ {xs : List α}, (∀ x ∈ xs, f x = some (g x)) → allO (xs.map f) = some (xs.map g)
  | [], _ => rfl
  | x :: xs, h => by
    rw [List.map_cons, h x List.mem_cons_self]
    show (allO (xs.map f)).map _ = _
    rw [allO_map fun y hy => h y (List.mem_cons_of_mem _ hy)]
    rfl
theorem lay_all {α : Type} {g : α → PyData} : ∀ xs : List α, (∀ x ∈ xs, PyData.canLay0 (g x) = true) → PyData.canLayAll0 (xs.map g) = true
  | [], _ => rfl
  | x :: xs, h => by simp [PyData.canLayAll0, h x List.mem_cons_self, lay_all xs fun y hy => h y (List.mem_cons_of_mem _ hy)]
theorem dep_all {α : Type} {g : α → PyData} {n : Nat} (h : ∀ x, PyData.depth (g x) ≤ n) : ∀ xs : List α, PyData.depthAll (xs.map g) ≤ n
  | [] => by simp [PyData.depthAll]
  | x :: xs => by have := h x; have := dep_all h xs; simp [PyData.depthAll]; omega
theorem shp {d : PyData} (h : PyData.canLay0 d = true) (h2 : PyData.depth d ≤ 64) : SeqAt.shaped d = true := by
  unfold SeqAt.shaped; rw [h, decide_eq_true h2]; rfl
theorem arr_inj {a b : List Nat} : ((⟨a.toArray⟩ : Str) == ⟨b.toArray⟩) = decide (a = b) := by
  by_cases h : a = b
  · subst h; simp
  · rw [decide_eq_false h]
    rw [beq_eq_false_iff_ne]
    intro e
    injection e with e
    exact h (by simpa using e)
theorem any_mem {α : Type} {f : α → Bool} {xs : List α} {p : Prop} [Decidable p] (h : (∃ x ∈ xs, f x = true) ↔ p) : xs.any f = decide p := by
  by_cases hp : p
  · rw [decide_eq_true hp, List.any_eq_true]; exact h.mpr hp
  · rw [decide_eq_false hp, List.any_eq_false]; exact fun x hx e => hp (h.mp ⟨x, hx, e⟩)
theorem inD_gen {α : Type} {m : MH} {r : Nat} {xs : List PV} {x : PV} {d : PyData} {us : List α} {g : α → PyData} (hs : seq? m r = some xs) (hx : toD m 8 x = some d) (hl : allO (xs.map (toD m 7)) = some (us.map g))
    (s1 : SeqAt.shaped d = true) (s2 : ∀ u ∈ us, PyData.canLay0 (g u) = true) (s3 : ∀ u, PyData.depth (g u) ≤ 8) {p : Prop} [Decidable p] (hp : (∃ u ∈ us, PyData.eqv (g u) d = true) ↔ p) : inD m x (.ref r) = some (decide p) := by
  have e : toD m 8 (.ref r) = some (.list (us.map g)) := by
    show (match seq? m r with | some xs => (allO (xs.map (toD m 7))).map PyData.list | none => none) = _
    rw [hs]
    dsimp only
    rw [hl]
    rfl
  have s4 : SeqAt.shaped (.list (us.map g)) = true := shp (by simp [PyData.canLay0, lay_all us s2]) (by have := dep_all (n := 8) s3 us; simp [PyData.depth]; omega)
  unfold inD
  rw [hx]
  dsimp only
  rw [e]
  dsimp only
  rw [if_pos ⟨s1, s4⟩, List.any_map]
  exact congrArg some (any_mem hp)
def Cps (t : List Nat) : Prop := ∀ c ∈ t, c < 1114112
theorem strOk_of {t : List Nat} (h : Cps t) : PyData.strOk ⟨t.toArray⟩ = true := by
  unfold PyData.strOk
  show t.toArray.all _ = true
  rw [Array.all_eq_true']
  intro x hx
  exact decide_eq_true (h x (by simpa using hx))
theorem inD_str {m : MH} {r : Nat} {ss : List (List Nat)} {t : List Nat} (hs : seq? m r = some (ss.map .str)) (ht : Cps t) (hss : ∀ s ∈ ss, Cps s) : inD m (.str t) (.ref r) = some (decide (t ∈ ss)) := by
  refine inD_gen (us := ss) (g := fun s => .str ⟨s.toArray⟩) hs rfl ?_ (shp (by simp [PyData.canLay0, strOk_of ht]) (by simp [PyData.depth])) (fun u hu => by simp [PyData.canLay0, strOk_of (hss u hu)]) (fun _ => by simp [PyData.depth]) ?_
  · rw [List.map_map]; exact allO_map fun x _ => rfl
  · constructor
    · rintro ⟨u, h1, h2⟩
      have h2 : ((⟨u.toArray⟩ : Str) == ⟨t.toArray⟩) = true := by simpa [PyData.eqv] using h2
      rw [arr_inj] at h2
      exact (of_decide_eq_true h2) ▸ h1
    · intro h
      exact ⟨t, h, by simp [PyData.eqv]⟩
theorem inD_int {m : MH} {r : Nat} {ss : List Int} {t : Int} (hs : seq? m r = some (ss.map .int)) : inD m (.int t) (.ref r) = some (decide (t ∈ ss)) := by
  refine inD_gen (us := ss) (g := fun s => .int s) hs rfl ?_ (shp (by simp [PyData.canLay0]) (by simp [PyData.depth])) (fun _ _ => by simp [PyData.canLay0]) (fun _ => by simp [PyData.depth]) ?_
  · rw [List.map_map]; exact allO_map fun x _ => rfl
  · constructor
    · rintro ⟨u, h1, h2⟩
      have h2 : u = t := by simpa [PyData.eqv] using h2
      exact h2 ▸ h1
    · intro h
      exact ⟨t, h, by simp [PyData.eqv]⟩
theorem inD_pair {m : MH} {r : Nat} {ss : List (Int × Int)} {x y : Int} (hs : seq? m r = some (ss.map fun p => .tup [.int p.1, .int p.2])) : inD m (.tup [.int x, .int y]) (.ref r) = some (decide ((x, y) ∈ ss)) := by
  refine inD_gen (us := ss) (g := fun p => .tuple [.int p.1, .int p.2]) hs rfl ?_ (shp (by simp [PyData.canLay0, PyData.canLayAll0]) (by simp [PyData.depth, PyData.depthAll])) (fun _ _ => by simp [PyData.canLay0, PyData.canLayAll0]) (fun _ => by simp [PyData.depth, PyData.depthAll]) ?_
  · rw [List.map_map]; exact allO_map fun x _ => rfl
  · constructor
    · rintro ⟨u, h1, h2⟩
      have h2 : u.1 = x ∧ u.2 = y := by simpa [PyData.eqv, PyData.eqvAll] using h2
      obtain ⟨rfl, rfl⟩ := h2
      exact h1
    · intro h
      exact ⟨(x, y), h, by simp [PyData.eqv, PyData.eqvAll]⟩
theorem ins_r {m : MH} {r : Nat} {x : PV} {b : Bool} (h : inD m x (.ref r) = some b) : inS x (.ref r) m = some (.bl b, m) := by
  have e : inS x (.ref r) m = inv x (.ref r) m := by
    unfold inS
    split
    · rename_i h2; cases h2
    · rfl
  rw [e]; unfold inv; rw [h]; rfl
theorem nins_r {m : MH} {r : Nat} {x : PV} {b : Bool} (h : inD m x (.ref r) = some b) : ninS x (.ref r) m = some (.bl (!b), m) := by
  have e : ninS x (.ref r) m = ninv x (.ref r) m := by
    unfold ninS
    split
    · rename_i h2; cases h2
    · rfl
  rw [e]; unfold ninv; rw [h]; rfl
/-! ## a comprehension, by an invariant -/
section
variable {it : ITM} {g : STg} {t : SB} {e : SE} {d : Nat} {l0 l : SM.Loc} {Q : PV → MH → Prop} {E : EX} {m m1 : MH} {si : SI} {vs : List Nat}
theorem wp_comp (I : Nat → List PV → MH → Prop)
    (hs : ∀ i x acc m, it.items[i]? = some x → m[d]? = some (.lst acc) → I i acc m → it.ok m ∧ WG (g x l0 m) (fun l1 m1 => WP (t l1 m1) (fun b m2 => if b = true then WP (e l1 m2) (fun y m3 => m3[d]? = some (.lst acc) ∧ acc.length < 16777216 ∧ I (i + 1) (acc ++ [y]) (m3.set d (.lst (acc ++ [y])))) NoE else m2[d]? = some (.lst acc) ∧ I (i + 1) acc m2) NoE))
    (hd : ∀ acc m, m[d]? = some (.lst acc) → I it.items.length acc m → it.ok m ∧ Q (.ref d) m) : ∀ (k i : Nat) (acc : List PV) (m : MH), k + i = it.items.length → m[d]? = some (.lst acc) → I i acc m → WP (compL it g t e d l0 (it.items.drop i) m) Q E
  | 0, i, acc, m, ek, hl, h => by
    have e' : i = it.items.length := by omega
    subst e'
    rw [List.drop_of_length_le (Nat.le_refl _)]
    obtain ⟨h1, h2⟩ := hd acc m hl h
    unfold compL
    rw [if_pos h1, wp_ok]
    exact h2
  | k + 1, i, acc, m, ek, hl, h => by
    have hi : i < it.items.length := by omega
    rw [List.drop_eq_getElem_cons hi]
    obtain ⟨h1, h2⟩ := hs i _ acc m (List.getElem?_eq_getElem hi) hl h
    unfold compL
    rw [if_pos h1]
    cases hg : g it.items[i] l0 m with
    | none => rw [hg] at h2; unfold WG at h2; exact h2.elim
    | some p =>
      obtain ⟨l1, m1⟩ := p
      rw [hg] at h2
      unfold WG at h2
      dsimp only at h2 ⊢
      obtain ⟨b, m2, et, h3⟩ := h2.run
      rw [et]
      dsimp only
      cases b with
      | false =>
        rw [if_neg (by decide)]
        rw [if_neg (by decide)] at h3
        exact wp_comp I hs hd k (i + 1) acc m2 (by omega) h3.1 h3.2
      | true =>
        rw [if_pos rfl]
        rw [if_pos rfl] at h3
        obtain ⟨y, m3, ee, h4, h5, h6⟩ := h3.run
        rw [ee]
        dsimp only
        rw [show lst? m3 d = some acc by unfold lst?; rw [h4]]
        dsimp only
        rw [if_pos h5]
        exact wp_comp I hs hd k (i + 1) (acc ++ [y]) _ (by omega) (List.getElem?_set_self (List.getElem?_eq_some_iff.mp h4).1) h6
/-- a comprehension -/
theorem w_lc {it : ITM} (hsi : si l m = .ok it m1) (I : Nat → List PV → MH → Prop) (h0 : I 0 [] (m1 ++ [.lst []]))
    (hs : ∀ i x acc m, it.items[i]? = some x → m[m1.length]? = some (.lst acc) → I i acc m → it.ok m ∧ WG (g x (wipeP l vs) m) (fun l1 m' => WP (t l1 m') (fun b m2 => if b = true then WP (e l1 m2) (fun y m3 => m3[m1.length]? = some (.lst acc) ∧ acc.length < 16777216 ∧ I (i + 1) (acc ++ [y]) (m3.set m1.length (.lst (acc ++ [y])))) NoE else m2[m1.length]? = some (.lst acc) ∧ I (i + 1) acc m2) NoE))
    (hd : ∀ acc m, m[m1.length]? = some (.lst acc) → I it.items.length acc m → it.ok m ∧ Q (.ref m1.length) m) : WP (sLc si g t e vs l m) Q E := by
  unfold sLc
  rw [hsi]
  show WP (compL it g t e m1.length (wipeP l vs) it.items (m1 ++ [.lst []])) Q E
  have := wp_comp (E := E) I hs hd it.items.length 0 [] _ (by omega) (by simp) h0
  rw [List.drop_zero] at this
  exact this
theorem w_yes {Q : Bool → MH → Prop} : WP (tYesS l m) Q E = Q true m := by with_unfolding_all rfl
theorem si_seqL {e : SE} {n : Nat} {xs : List PV} (h : e l m = .ok (.ref n) m1) (hq : seq? m1 n = some xs) : iSeq e l m = .ok ⟨xs, some n⟩ m1 := by
  unfold iSeq; rw [h]; show (match seq? m1 n with | some xs => _ | none => _) = _; rw [hq]
theorem si_seqT {e : SE} {xs : List PV} (h : e l m = .ok (.tup xs) m1) : iSeq e l m = .ok ⟨xs, none⟩ m1 := by
  unfold iSeq; rw [h]; with_unfolding_all rfl
theorem si_rng0 {b : SE} {j : Int} (n : Nat) (hn : n = j.toNat) (h : b l m = .ok (.int j) m1) (hj : j < 4611686018427387904) (hj0 : -4611686018427387904 ≤ j) : iRng1S b l m = .ok ⟨(List.range n).map fun i => .int (i : Nat), none⟩ m1 := by
  rw [si_rng1 h ⟨hj0, hj⟩]
  have : rng 0 j = (List.range n).map fun i => PV.int (i : Nat) := by
    apply List.ext_getElem?
    intro i
    by_cases hi : i < n
    · rw [rng_get (by omega)]; simp [hi]
    · rw [List.getElem?_eq_none (by rw [rng_len]; omega), List.getElem?_eq_none (by simp; omega)]
  rw [this]
end
section
variable {l : SM.Loc} {m : MH} {D : ED} {b : SE} {g : STg} {body : SS}
/-- for x in range(b), where b has effects -/
theorem s_for1W (h : WP (b l m) (fun x m1 => ∃ j : Int, x = .int j ∧ -4611686018427387904 ≤ j ∧ j < 4611686018427387904 ∧ ∃ I : Nat → SM.Loc → MH → Prop, I 0 l m1 ∧
    (∀ i l m, i < j.toNat → I i l m → WG (g (.int (i : Nat)) l m) (fun l1 m1 => WS (body l1 m1) ⟨I (i + 1), D.rt, D.nx, I (i + 1), D.ex⟩)) ∧ (∀ l m, I j.toNat l m → D.nx l m)) NoE) : WS (xFor (iRng1S b) g body l m) D := by
  obtain ⟨x, m1, e, j, rfl, h1, h2, I, h3, h4, h5⟩ := h.run
  exact s_for1 j.toNat rfl e h2 h1 I h3 h4 h5
/-- for x in a list that stays as it is -/
theorem s_forLW (h : WP (b l m) (fun x m1 => ∃ n xs, x = .ref n ∧ seq? m1 n = some xs ∧ ∃ I : Nat → SM.Loc → MH → Prop, I 0 l m1 ∧ (∀ i l m, I i l m → seq? m n = some xs) ∧
    (∀ i x l m, xs[i]? = some x → I i l m → WG (g x l m) (fun l1 m1 => WS (body l1 m1) ⟨I (i + 1), D.rt, D.nx, I (i + 1), D.ex⟩)) ∧ (∀ l m, I xs.length l m → D.nx l m)) NoE) : WS (xFor (iSeq b) g body l m) D := by
  obtain ⟨x, m1, e, n, xs, rfl, h1, I, h3, h4, h5, h6⟩ := h.run
  exact s_forL e h1 I h3 h4 h5 h6
/-- for x in a tuple -/
theorem s_forTW (h : WP (b l m) (fun x m1 => ∃ xs, x = .tup xs ∧ ∃ I : Nat → SM.Loc → MH → Prop, I 0 l m1 ∧
    (∀ i x l m, xs[i]? = some x → I i l m → WG (g x l m) (fun l1 m1 => WS (body l1 m1) ⟨I (i + 1), D.rt, D.nx, I (i + 1), D.ex⟩)) ∧ (∀ l m, I xs.length l m → D.nx l m)) NoE) : WS (xFor (iSeq b) g body l m) D := by
  obtain ⟨x, m1, e, xs, rfl, I, h3, h4, h5⟩ := h.run
  exact s_forT e I h3 h4 h5
/-- a comprehension over a list that stays as it is -/
theorem w_lcL {t : SB} {e : SE} {vs : List Nat} {Q : PV → MH → Prop} {E : EX} (h : WP (b l m) (fun x m1 => ∃ n xs, x = .ref n ∧ seq? m1 n = some xs ∧ ∃ I : Nat → List PV → MH → Prop, I 0 [] (m1 ++ [.lst []]) ∧
    (∀ i x acc m, xs[i]? = some x → m[m1.length]? = some (.lst acc) → I i acc m → seq? m n = some xs ∧ WG (g x (wipeP l vs) m) (fun l1 m' => WP (t l1 m') (fun b m2 => if b = true then WP (e l1 m2) (fun y m3 => m3[m1.length]? = some (.lst acc) ∧ acc.length < 16777216 ∧ I (i + 1) (acc ++ [y]) (m3.set m1.length (.lst (acc ++ [y])))) NoE else m2[m1.length]? = some (.lst acc) ∧ I (i + 1) acc m2) NoE)) ∧
    (∀ acc m, m[m1.length]? = some (.lst acc) → I xs.length acc m → seq? m n = some xs ∧ Q (.ref m1.length) m)) NoE) : WP (sLc (iSeq b) g t e vs l m) Q E := by
  obtain ⟨x, m1, ee, n, xs, rfl, h1, I, h3, h4, h5⟩ := h.run
  exact w_lc (si_seqL ee h1) I h3 h4 h5
/-- a comprehension over a range -/
theorem w_lcR {t : SB} {e : SE} {vs : List Nat} {Q : PV → MH → Prop} {E : EX} (h : WP (b l m) (fun x m1 => ∃ j : Int, x = .int j ∧ -4611686018427387904 ≤ j ∧ j < 4611686018427387904 ∧ ∃ I : Nat → List PV → MH → Prop, I 0 [] (m1 ++ [.lst []]) ∧
    (∀ i acc m, i < j.toNat → m[m1.length]? = some (.lst acc) → I i acc m → WG (g (.int (i : Nat)) (wipeP l vs) m) (fun l1 m' => WP (t l1 m') (fun b m2 => if b = true then WP (e l1 m2) (fun y m3 => m3[m1.length]? = some (.lst acc) ∧ acc.length < 16777216 ∧ I (i + 1) (acc ++ [y]) (m3.set m1.length (.lst (acc ++ [y])))) NoE else m2[m1.length]? = some (.lst acc) ∧ I (i + 1) acc m2) NoE)) ∧
    (∀ acc m, m[m1.length]? = some (.lst acc) → I j.toNat acc m → Q (.ref m1.length) m)) NoE) : WP (sLc (iRng1S b) g t e vs l m) Q E := by
  obtain ⟨x, m1, ee, j, rfl, h1, h2, I, h3, h4, h5⟩ := h.run
  refine w_lc (si_rng0 j.toNat rfl ee h2 h1) I h3 (fun i x acc m hx hl hi => ⟨trivial, ?_⟩) (fun acc m hl hi => ⟨trivial, h5 acc m hl ?_⟩)
  · have hx : ((List.range j.toNat).map fun i => PV.int (i : Nat))[i]? = some x := hx
    rw [List.getElem?_map] at hx
    by_cases hz : i < j.toNat
    · rw [List.getElem?_range hz] at hx
      cases hx
      exact h4 i acc m hz hl hi
    · rw [List.getElem?_eq_none (by simp; omega)] at hx; cases hx
  · have hi : I ((List.range j.toNat).map fun i => PV.int (i : Nat)).length acc m := hi
    rw [List.length_map, List.length_range] at hi
    exact hi
/-! lists that are changed -/
theorem get_set_eq {m : MH} {n : Nat} {o u : MO} (h : m[n]? = some u) : (m.set n o)[n]? = some o := List.getElem?_set_self (List.getElem?_eq_some_iff.mp h).1
theorem get_set_ne {m : MH} {n k : Nat} {o u : MO} (h : m[k]? = some u) (hn : n ≠ k) : (m.set n o)[k]? = some u := by rw [List.getElem?_set_ne hn]; exact h
theorem append_r {m : MH} {n : Nat} {xs : List PV} {v : PV} (h : m[n]? = some (.lst xs)) (hl : xs.length < 16777216) : appendv (.ref n) [v] m = some (.non, m.set n (.lst (xs ++ [v]))) := by
  unfold appendv
  dsimp only
  rw [show lst? m n = some xs by unfold lst?; rw [h]]
  dsimp only
  rw [if_pos hl]
theorem isLst_r {m : MH} {n : Nat} {xs : List PV} (h : m[n]? = some (.lst xs)) : isLst m (.ref n) = true := by
  show (seq? m n).isSome = true
  unfold seq?
  rw [h]
  rfl
theorem atI_snoc {α β : Type} {f : α → β} {xs : List α} {x : α} : atI ((xs ++ [x]).map f) (-1) = some (f x) := by
  unfold atI ixN
  rw [if_neg (by decide), if_pos (by simp; omega)]
  rw [List.length_map, List.length_append, List.length_singleton]
  have e : (-1 + ((xs.length + 1 : Nat) : Int)).toNat = xs.length := by omega
  rw [e]
  show (List.map f (xs ++ [x]))[xs.length]? = _
  simp
end
theorem at0 {α : Type} {x : α} {xs : List α} : atI (x :: xs) 0 = some x := by unfold atI ixN; rw [if_pos (by decide), if_pos (by simp)]; rfl
theorem at1 {α : Type} {x y : α} {xs : List α} : atI (x :: y :: xs) 1 = some y := by unfold atI ixN; rw [if_pos (by decide), if_pos (by simp; omega)]; rfl
theorem at2 {α : Type} {x y z : α} {xs : List α} : atI (x :: y :: z :: xs) 2 = some z := by unfold atI ixN; rw [if_pos (by decide), if_pos (by simp; omega)]; rfl
theorem at3 {α : Type} {x y z u : α} {xs : List α} : atI (x :: y :: z :: u :: xs) 3 = some u := by unfold atI ixN; rw [if_pos (by decide), if_pos (by simp; omega)]; rfl
theorem at4 {α : Type} {x y z u v : α} {xs : List α} : atI (x :: y :: z :: u :: v :: xs) 4 = some v := by unfold atI ixN; rw [if_pos (by decide), if_pos (by simp; omega)]; rfl
theorem at5 {α : Type} {x y z u v w : α} {xs : List α} : atI (x :: y :: z :: u :: v :: w :: xs) 5 = some w := by unfold atI ixN; rw [if_pos (by decide), if_pos (by simp; omega)]; rfl
theorem at6 {α : Type} {x y z u v w t : α} {xs : List α} : atI (x :: y :: z :: u :: v :: w :: t :: xs) 6 = some t := by unfold atI ixN; rw [if_pos (by decide), if_pos (by simp; omega)]; rfl
end SM

set_option Elab.async false
set_option linter.all false
set_option maxRecDepth 100000
set_option maxHeartbeats 1000000
namespace SM
open PySem PySem.Spec PyProof.Rows L2
/-! ## sorted(list of ints), tuples of integers that a module names, what is never reached -/
def ints? : List PV → Option (List Int)
  | [] => some []
  | .int i :: r => (ints? r).map (i :: ·)
  | _ => none
theorem ints_map : ∀ ns : List Int, ints? (ns.map .int) = some ns
  | [] => rfl
  | n :: ns => by rw [List.map_cons]; unfold ints?; rw [ints_map ns]; rfl
@[irreducible] def sortI (ns : List Int) : List Int := ns.mergeSort (fun a b => decide (a ≤ b))
theorem sortI_perm (ns : List Int) : (sortI ns).Perm ns := by unfold sortI; exact List.mergeSort_perm _ _
theorem sortI_srt (ns : List Int) : (sortI ns).Pairwise (· ≤ ·) := by
  unfold sortI
  have := List.pairwise_mergeSort (le := fun a b : Int => decide (a ≤ b)) (fun a b c h1 h2 => by simp at *; omega) (fun a b => by simp; omega) ns
  exact this.imp fun h => by simpa using h
theorem sortI_uniq {ns ns' : List Int} (p : ns'.Perm ns) (s : ns'.Pairwise (· ≤ ·)) : ns' = sortI ns :=
  List.Perm.eq_of_pairwise (le := (· ≤ ·)) (fun a b _ _ h1 h2 => by omega) s (sortI_srt ns) (p.trans (sortI_perm ns).symm)
def sortedv : List PV → MH → OR
  | [.ref n], m => match seq? m n with
    | some xs => match ints? xs with
      | some ns => some (.ref m.length, m ++ [.lst ((sortI ns).map .int)])
      | none => none
    | none => none
  | _, _ => none
section
variable {K : PySem.W.Frag} {H : Hp} {φ : List Addr}
theorem ints_rvs : ∀ {xs : List PV} {ns : List Int} {vs : List V}, ints? xs = some ns → RVs K H φ xs vs → vs = ns.map V.int
  | [], ns, vs, h, r => by cases h; cases r; rfl
  | .int i :: xs, ns, vs, h, r => by
    obtain ⟨v, ws, rfl, r1, r2⟩ := r
    unfold ints? at h
    cases hx : ints? xs with
    | none => rw [hx] at h; cases h
    | some ms =>
      rw [hx] at h
      cases h
      cases r1
      rw [ints_rvs hx r2]
      rfl
theorem rvs_ints : ∀ ns : List Int, RVs K H φ (ns.map .int) (ns.map V.int)
  | [] => rfl
  | n :: ns => ⟨_, _, rfl, rfl, rvs_ints ns⟩
end
section
variable {X : Cx} {W : XM} {pos : Pos}
theorem c_sorted : CrQ X (.builtin "sorted") sortedv := .of fun vs H Q φ m xs h1 h2 h4 => by
  unfold sortedv at h4
  split at h4
  · obtain ⟨v, rfl, r⟩ := h2.one
    rename_i n
    cases hq : seq? m n with
    | none => rw [hq] at h4; exact h4.not.elim
    | some xs =>
      rw [hq] at h4
      obtain ⟨a, ws, rfl, q1, q2⟩ := h1.seq r hq
      dsimp only at h4
      cases hi : ints? xs with
      | none => rw [hi] at h4; exact h4.not.elim
      | some ns =>
        rw [hi] at h4
        have e := ints_rvs hi q2
        subst e
        refine ⟨_, cr_sortedI, a, ns, rfl, q1, fun ns' p hp hs hn => ?_⟩
        rw [sortI_uniq hp hs]
        exact h4.newL h1 (rvs_ints _) p hn
  · exact h4.not.elim
def TupK (K : PySem.W.Frag) (a : Addr) (ns : List Int) : Prop := ∃ (o : Obj) (its : Array Value) (n : Nat), K.lookup a = some o ∧ o.cls = .type "tuple" ∧ o.data = .seq its n ∧ its.size ≤ sizeLine ∧ Vals (ns.map V.int) its.toList
theorem tupK2 {K : PySem.W.Frag} {a : Addr} {i j : Int} {s t : Tok} {n : Nat} {od : Option Addr} {sl : Array (Option Value)} (h : K.lookup a = some ⟨.type "tuple", od, .seq #[.int i s, .int j t] n, sl⟩) : TupK K a [i, j] :=
  ⟨_, _, _, h, rfl, rfl, (by show 2 ≤ sizeLine; decide), .cons ⟨_, rfl⟩ (.cons ⟨_, rfl⟩ .nil)⟩
theorem q_globT {x : Str} {a : Addr} {ns : List Int} (hg : Gl X x) (hm : X.mg x = some (.ref a)) (ht : TupK X.K a ns) (hd : (x == ("__debug__" : Str)) = false := by decide) : QE X W (.Name x pos) (sC (.tup (ns.map .int))) :=
  ⟨pe_imp (pe_glob (v := .ref a) hg hm rfl hd) fun σ H Q ⟨φ, l, m, h1, h2, h3⟩ => h3 φ H _ Ext.refl h1 ⟨a, ns.map V.int, rfl, .inr ht, rvs_ints ns⟩⟩
/-- a statement that is never reached -/
def xBad : SS := fun _ _ => .bad
theorem x_bad {st : Stmt} : QS X W st xBad := ⟨⟨fun _ _ _ _ _ _ ⟨_, _, _, _, _, h3⟩ => h3.elim⟩⟩
end
section
variable {m : MH}
theorem sorted_r {n : Nat} {ns : List Int} (h : seq? m n = some (ns.map .int)) : sortedv [.ref n] m = some (.ref m.length, m ++ [.lst ((sortI ns).map .int)]) := by
  show (match seq? m n with | some xs => _ | none => none) = _
  rw [h]
  dsimp only
  rw [ints_map]
end
end SM

set_option Elab.async false
set_option linter.all false
set_option maxRecDepth 100000
set_option maxHeartbeats 1000000
namespace SM
open PySem PySem.Spec PyProof.Rows L2
/-! ## type(x) is T -/
def sTis (T : String) (sa : SE) : SE := fun l m => (sa l m).bind fun x m1 => if okTy m1 x = true then .ok (.bl (decide (tyName x = T))) m1 else .bad
theorem tyb_of {K : PySem.W.Frag} {H : Hp} {φ : List Addr} {m : MH} (h : RH K H φ m) : ∀ {x : PV} {v : V}, RV K H φ x v → okTy m x = true → TyB K H v (tyName x)
  | .non, _, r, _ => by cases r; exact .non
  | .bl _, _, r, _ => by cases r; exact .bl _
  | .int _, _, r, _ => by cases r; exact .int _
  | .str _, _, r, _ => by cases r; exact .str _
  | .tup xs, _, r, _ => by obtain ⟨a, vs, rfl, r1, r2⟩ := r; exact .tup r1
  | .ref n, _, r, e => by
    have e : (seq? m n).isSome = true := e
    cases hq : seq? m n with
    | none => rw [hq] at e; cases e
    | some xs =>
      obtain ⟨a, ws, rfl, q1, q2⟩ := h.seq r hq
      exact .lst q1
section
variable {X : Cx} {W : XM} {a : Expr} {sa : SE} {p pos pos2 : Pos} {T : String}
theorem q_tis {Tn : Str} {pT : Pos} (hg : Gl X "type") (hm : X.mg "type" = none) (hgT : Gl X Tn) (hmT : X.mg Tn = none) (hvT : bootBuiltins Tn = some (.type T)) (ha : QE X W a sa) (mk : behindInMarks .Is (.Name Tn pT) = false)
    (hn : Tn ≠ "__name__" := by decide) (hd : (Tn == ("__debug__" : Str)) = false := by decide) (na : starEach [a] X.env = (false, eval a X.env) :: starEach [] X.env := by rfl) :
    QE X W (.Compare (.Call (.Name "type" p) [a] [] pos) [.Is] [.Name Tn pT] pos2) (sTis T sa) :=
  ⟨pe_imp (pe_cmpR op_isTyB (pe_callTy call_type1 hg hm (by decide +kernel) (pa_cons ha.pe pa_nil na) (he := na)) (pe_bltn (v := .ty T) hgT hmT hvT rfl hn hd) mk) fun σ H Q h => (one h).mono fun v H1 ⟨φ, m, x, _, c1, c2, c4⟩ => by
    by_cases hk : okTy m x = true
    · rw [if_pos hk] at c4
      exact ⟨v, _, rfl, tyb_of c1 c2 hk, _, _, rfl, rfl, c4 φ H1 _ Ext.refl c1 rfl⟩
    · rw [if_neg hk] at c4
      exact c4.elim⟩
--theorem t_tis {Tn : Str} {pT : Pos} (hg : Gl X "type") (hm : X.mg "type" = none) (hgT : Gl X Tn) (hmT : X.mg Tn = none) (hvT : bootBuiltins Tn = some (.type T)) (ha : QE X W a sa) (mk : behindInMarks .Is (.Name Tn pT) = false) : True := trivial
end
/-! ## exceptions of one class with one field -/
theorem RH.newX {K : PySem.W.Frag} {H : Hp} {φ : List Addr} {m : MH} {p : Addr} {u : HO} (h : RH K H φ m) (n : H p = none) : Ext K φ H φ (upd H p u) ∧ RH K (upd H p u) φ m := by
  have e : Ext K φ H φ (upd H p u) := ⟨⟨[], by simp⟩, fun a ws w => sqt_upd_new n w, fun _ _ _ w => by rw [upd_ne (ne_of_none w n)]; exact w⟩
  exact ⟨e, ⟨h.len, h.nd, fun i a o h1 h2 => (h.obj i a o h1 h2).new n e⟩⟩
/-- what is wanted of an exception, by what the def's own way out wants -/
def WEx (K : PySem.W.Frag) (C : Addr) (cn : String) (fn : Str) (E : XK) : XM := fun c fs φ _ m _ H => ∃ y, c = cn ∧ fs = [y] ∧ ∀ φ' H' d v, Ext K φ H φ' H' → RH K H' φ' m → RV K H' φ' y v → H' d = some (.xd [(fn, v)]) → E (.ref C) (some d) H'
/-- .. by what a try's body wants -/
def WTx (K : PySem.W.Frag) (C : Addr) (cn : String) (fn : Str) (Wx : WX) : XM := fun c fs φ l m σ H => ∃ y, c = cn ∧ fs = [y] ∧ ∀ φ' H' d v, Ext K φ H φ' H' → RH K H' φ' m → RL K H' φ' l σ → RV K H' φ' y v → H' d = some (.xd [(fn, v)]) → Wx (.ref C) (some d) σ H'
def PostX (K : PySem.W.Frag) (C : Addr) (cn : String) (fn : Str) (φ : List Addr) (H : Hp) (r : R PV) (Q : VK) (E : XK) : Prop := match r with
  | .ok x m => ∀ φ' H' v, Ext K φ H φ' H' → RH K H' φ' m → RV K H' φ' x v → Q v H'
  | .ex c fs m => ∀ φ' H', Ext K φ H φ' H' → RH K H' φ' m → WEx K C cn fn E c fs φ' [] m [] H'
  | .bad => False
def SpX (K : PySem.W.Frag) (C : Addr) (cn : String) (fn : Str) (n : Nat) (f : FS) : Sp := fun vs H Q E => vs.length = n ∧ ∃ φ m xs, RH K H φ m ∧ RVs K H φ xs vs ∧ PostX K C cn fn φ H (f xs m) Q E
/-- the promise of __init__: self.f = f -/
def SpI (K : PySem.W.Frag) (C : Addr) (fn : Str) : Sp := fun vs H Q _ => ∃ a y, vs = [.ref a, y] ∧ H a = some (exo a C none) ∧ ∀ dx, H dx = none → dx ≠ a → Q .non (upd (upd H dx (exd dx [(fn, y)])) a (exo a C (some dx)))
theorem exm_own {K : PySem.W.Frag} {S : Addr} (h1 : PySem.W.subIn K (.ref S) (.type "BaseException") = some true) (h2 : PySem.W.isClsIn K S = true) (h3 : PySem.W.typeIn K (.ref S) = some (.type "type")) (h4 : PySem.W.subIn K (.ref S) (.ref S) = some true) : PySem.W.exmOne K (.ref S) (.ref S) = some true := by
  have h2 : (PySem.W.clsIn K S).isSome = true := h2
  unfold PySem.W.exmOne
  rw [if_pos (by rw [h1]; rfl)]
  unfold PySem.W.kitCls
  simp [h2, h3, h4]
/-- what is known of an exception's class -/
structure ExcT (P : Program) (w : World) (K : PySem.W.Frag) (mg : Str → Option Value) (base : Heap) (x : Str) (C : Addr) (fn : Str) : Prop where
  gC : mg x = some (.ref C)
  T : OexC K C
  ini : ∃ (fI : Addr) (fd : FuncData), PySem.W.findIn K (.ref C) "__init__" = some (some (.ref fI)) ∧ PySem.W.typeIn K (.ref fI) = some (.type "function") ∧ FnOk P w K mg base CX0 1 fI fd ["self", fn] (SpI K C fn) ∧ Binds K fd ["self", fn] []
  no : PySem.W.findIn K (.ref C) fn = some none
  xf : XfC K C
  te : PySem.W.exmOne K (.ref C) (.ref C) = some true
section
variable {P : Program} {w : World} {K : PySem.W.Frag} {mg : Str → Option Value} {base : Heap}
theorem okI {x qual : Str} {st : Stmt} {f C : Addr} {fd : FuncData} {N : List Str} {fn : Str} (F : Fun K x qual st f fd) (S : FnScope N ["self", fn] (defScope st)) (hN : N = ([("self" : Str), fn] : List Str)) (T : OexC K C) (no : PySem.W.findIn K (.ref C) fn = some none)
    (hb : ∀ (cdv : Value) (A : Around) (outer : List Env) (s : Shared) (H : Hp) (E : XK), PSs (cxOf CX0 P w K mg base N qual (defScope st) f cdv A outer s H E).nox (defBody st) (tOst K fn (tVar 0) (tVar 1))) : FnOk P w K mg base CX0 1 f fd ["self", fn] (SpI K C fn) := by
  refine F.ok (k := 0) S (fun vs H Q E h => by obtain ⟨a, y, rfl, _⟩ := h; rfl) fun cdv A outer s H vs Q E hr hsp => ?_
  obtain ⟨a, y, rfl, ha, hq⟩ := hsp
  refine ⟨_, hb cdv A outer s H E, ?_⟩
  subst hN
  exact ⟨y, rfl, .ref a, rfl, a, C, rfl, T, no, .inl ⟨ha, fun dx n ne => hq dx n ne⟩⟩
theorem okXQ {x qual : Str} {st : Stmt} {f : Addr} {fd : FuncData} {N ps : List Str} {k : Nat} {C : Addr} {cn : String} {fn : Str} (F : Fun K x qual st f fd) (S : FnScope N ps (defScope st)) (b : SS)
    (h : ∀ (cdv : Value) (A : Around) (outer : List Env) (s : Shared) (H : Hp) (E : XK), Room k (A.deeper (envOfC qual (defScope st) s.heap.objs.size f cdv)) →
      QSs (cxOf (L2.CX P w) P w K mg base N qual (defScope st) f cdv A outer s H E) (WEx K C cn fn E) (defBody st) b) : FnOk P w K mg base (L2.CX P w) (k + 1) f fd ps (SpX K C cn fn ps.length (fnS ps.length N.length b)) := by
  refine F.okX S (fun vs H Q E h => h.1) fun cdv A outer s H vs Q E hr hsp => ?_
  obtain ⟨hl, φ, m, xs, h1, h2, h3⟩ := hsp
  have hle : ps.length ≤ N.length := by
    have := congrArg List.length S.pre
    rw [List.length_take] at this
    omega
  have hxl : xs.length = ps.length := by rw [← h2.length]; exact hl
  refine ⟨_, (h cdv A outer s H E hr).ps, φ, _, m, h1, rl_start hle h2 hxl, ?_⟩
  unfold fnS at h3
  rw [if_pos hxl] at h3
  cases hb : b (xs.map some ++ List.replicate (N.length - ps.length) none) m with
  | nx l m' => rw [hb] at h3; exact fun φ' σ' H' x a b => h3 φ' H' _ x a rfl
  | rt y m' => rw [hb] at h3; exact h3
  | bk l m' => rw [hb] at h3; exact h3.elim
  | ct l m' => rw [hb] at h3; exact h3.elim
  | ex c fs l m' => rw [hb] at h3; exact fun φ' σ' H' x a b => h3 φ' H' x a
  | bad => rw [hb] at h3; exact h3.elim
end
def CalX (P : Program) (w : World) (K : PySem.W.Frag) (mg : Str → Option Value) (base : Heap) (C : Addr) (cn : String) (fn : Str) (x : Str) (n k : Nat) (f : FS) : Prop :=
  ∃ (fa : Addr) (fd : FuncData) (ps : List Str), ps.length = n ∧ FnOk P w K mg base (L2.CX P w) k fa fd ps (SpX K C cn fn n f) ∧ mg x = some (.ref fa) ∧ PySem.W.keepIn K (.ref fa) = true ∧ Binds K fd ps []
theorem calX_mk {P : Program} {w : World} {K : PySem.W.Frag} {mg : Str → Option Value} {base : Heap} {C : Addr} {cn : String} {fn : Str} {x qual : Str} {st : Stmt} {f : Addr} {fd : FuncData} {ps : List Str} {k n : Nat} {g : FS} (hn : ps.length = n) (G : FnOk P w K mg base (L2.CX P w) k f fd ps (SpX K C cn fn n g)) (F : Fun K x qual st f fd) (hm : mg x = some (.ref f)) (hb : Binds K fd ps []) : CalX P w K mg base C cn fn x n k g :=
  ⟨f, fd, ps, hn, G, hm, F.kp, hb⟩
/-! ### raise -/
def xRaise (cn : String) (ses : SA) : SS := fun l m => R.then l (ses l m) fun xs m1 => .ex cn xs l m1
section
variable {X : Cx} {a : Expr} {es : List Expr} {ses : SA} {x fn : Str} {cn : String} {C : Addr} {E : XK} {p pos pos2 : Pos}
theorem x_raise (hc : X.calm = true) (T : ExcT X.prog X.w X.K X.mg X.base x C fn) (hr : Room 2 X.A) (tk : Takes X (fun cls d _ H => E cls d H)) (ha : QA X (WEx X.K C cn fn E) [a] ses) (hg : Gl X x := by rfl) (hdb : (x == ("__debug__" : Str)) = false := by decide)
    (he : starEach (a :: []) X.env = (false, eval a X.env) :: starEach [] X.env := by rfl) (hpl : (backTo pos (starEach [] X.env)).any (·.1) = false := by rfl) :
    QS X (WEx X.K C cn fn E) (.Raise (some (.Call (.Name x p) [a] [] pos)) none pos2) (xRaise cn ses) := by
  obtain ⟨fI, fd, iC, tI, F, hb⟩ := T.ini
  refine ⟨ps_imp (ps_raise hc tk (pmk_oex T.T iC tI F hr hb .nil pass0 hg T.gC ha.pa hdb he hpl)) fun D σ H ⟨φ, l, m, h1, h2, h3⟩ => ?_⟩
  refine ⟨φ, l, m, h1, h2, (PostS.then (rel := rA X.K) h2 h3).mono ?_⟩
  rintro vs H1 ⟨φ1, xs, m1, e1, a1, b1, c1, d1⟩
  obtain ⟨y, _, rfl, fin⟩ := d1 φ1 σ H1 Ext.refl a1 b1
  obtain ⟨v, ws, rfl, r1, rfl⟩ := c1
  refine ⟨by simp, fun q hq => ⟨q, v, rfl, upd_same, fun dx n ne => ?_⟩⟩
  have hdx : H1 dx = none := by rw [upd_ne ne] at n; exact n
  refine ⟨rfl, dx, [(fn, v)], upd_same, by rw [upd_ne ne, upd_same], hdx, ?_⟩
  have eH : upd (del (upd (upd (upd H1 q (exo q C none)) dx (exd dx [(fn, v)])) q (exo q C (some dx))) q) dx (.xd [(fn, v)]) = upd H1 dx (.xd [(fn, v)]) := by
    funext b
    by_cases hb1 : b = dx
    · subst hb1; rw [upd_same, upd_same]
    · rw [upd_ne hb1, upd_ne hb1]
      by_cases hb2 : b = q
      · subst hb2; rw [del_same, hq]
      · rw [del_ne hb2, upd_ne hb2, upd_ne hb1, upd_ne hb2]
  rw [eH]
  obtain ⟨x1, x2⟩ := a1.newX (u := .xd [(fn, v)]) hdx
  exact fin φ1 _ dx v x1 x2 (RV.ext x1 r1) upd_same
end
/-! ### a call that may raise, in a try -/
def sCallX (n : Nat) (f : FS) (a : SA) : SE := fun l m => (a l m).bind fun xs m1 => if xs.length = n then f xs m1 else .bad
section
variable {X : Cx} {e : Expr} {es : List Expr} {ses : SA} {x fn : Str} {cn : String} {C : Addr} {Wx : WX} {p pos : Pos} {n k j : Nat} {f : FS}
theorem q_callX (Cl : CalX X.prog X.w X.K X.mg X.base C cn fn x n k f) (hr : Room j X.A) (hk : k ≤ j) (hg : Gl X x) (tk : Takes X Wx) (ha : QA X (WTx X.K C cn fn Wx) (e :: es) ses) (hdb : (x == ("__debug__" : Str)) = false := by decide)
    (he : starEach (e :: es) X.env = (false, eval e X.env) :: starEach es X.env := by rfl) (hpl : (backTo pos (starEach es X.env)).any (·.1) = false := by rfl) : QE X (WTx X.K C cn fn Wx) (.Call (.Name x p) (e :: es) [] pos) (sCallX n f ses) := by
  obtain ⟨fa, fd, ps, hps, F, hm, hkp, hb⟩ := Cl
  refine ⟨pe_imp (pe_callS (E := fun σ => L2.WE Wx σ) F (hr.mono hk) hg hm hkp hb (fun σ => passAt tk σ) ha.pa hdb he hpl) fun σ H Q ⟨φ, l, m, h1, h2, h3⟩ => ?_⟩
  refine ⟨φ, l, m, h1, h2, (Post.bind (rel := rA X.K) h2 h3).mono ?_⟩
  rintro vs H1 ⟨φ1, xs, m1, e1, a1, b1, c1, d1⟩
  by_cases hz : xs.length = n
  · rw [if_pos hz] at d1
    refine ⟨by rw [RVs.length c1]; exact hz, φ1, m1, xs, a1, c1, ?_⟩
    cases hf : f xs m1 with
    | ok y m' => rw [hf] at d1; exact d1
    | ex c fs m' =>
      rw [hf] at d1
      intro φ2 H2 x2 a2
      obtain ⟨y, q1, q2, q3⟩ := d1 φ2 H2 x2 a2
      exact ⟨y, q1, q2, fun φ3 H3 d v x3 a3 r3 e3 => q3 φ3 H3 d v x3 a3 ((b1.ext x2).ext x3) r3 e3⟩
    | bad => rw [hf] at d1; exact d1.elim
  · rw [if_neg hz] at d1
    exact d1.elim
end
/-! ### try: .. except C as n: return n.f -/
def xTryA (cn : String) (i : Nat) (sb : SS) : SS := fun l m => match sb l m with
  | .ex c [y] l' m' => if c = cn ∧ i < l'.length then .rt y m' else .bad
  | .ex _ _ _ _ => .bad
  | r => r
section
variable {X : Cx} {W : XM} {body : List Stmt} {sb : SS} {x n fn : Str} {cn : String} {C : Addr} {i : Nat} {np p1 p2 p3 pos pos' : Pos}
theorem x_tryA (i : Nat) (hs : X.stack = X.env :: X.outer) (hf : X.env.frame = some X.env.locals) (hN : X.N.Nodup) (hi : X.N[i]? = some n) (hln : X.env.kindOf n = some .local) (T : ExcT X.prog X.w X.K X.mg X.base x C fn) (hg : Gl X x)
    (hb : ∀ (Wx : WX) (pn : List (Addr × Obj)) (xe : Value → Shared → Prop), Takes (X.tr pn xe) Wx → PassesOwn (model X.prog X.w) X.A X.env xe → QSs (X.tr pn xe) (WTx X.K C cn fn Wx) body sb)
    (hv : Vis X.env.scope n) (hab : attributeBase (.Name n p1) fn X.env (eval (.Name n p1) X.env) = eval (.Name n p1) X.env) (hdb : (x == ("__debug__" : Str)) = false := by decide) (hdn : (n == ("__debug__" : Str)) = false := by decide) (hcd : (n == ("__classdict__" : Str)) = false := by decide) :
    QS X W (.Try body [.ExceptHandler (some (.Name x np)) (some n) [.Return (some (.Attribute (.Name n p1) fn p2)) p3] pos'] [] [] pos) (xTryA cn i sb) :=
  ⟨ps_imp (ps_try_as (tb := fun Wx => RdS X.K (WTx X.K C cn fn Wx) sb) hs hf hN hi hln ⟨hg, hdb, .inl T.gC⟩ (L2.takes0 (X := X)) (fun Wx pn xe tk po => (hb Wx pn xe tk po).ps)
    (fun a oe cls d pn hz hff => pss_one (ps_ret (pe_xf T.xf T.no hz hff (pe_var (i := i) hi hv hdn hcd) hab)))) fun D σ H ⟨φ, l, m, h1, h2, h3⟩ => by
    refine ⟨φ, l, m, h1, h2, ?_⟩
    unfold xTryA at h3
    cases hsb : sb l m with
    | nx l' m' => rw [hsb] at h3; exact h3
    | rt y m' => rw [hsb] at h3; exact h3
    | bk l' m' => rw [hsb] at h3; exact h3
    | ct l' m' => rw [hsb] at h3; exact h3
    | bad => rw [hsb] at h3; exact h3
    | ex c fs l' m' =>
      rw [hsb] at h3
      match fs, h3 with
      | [], h3 => exact h3.elim
      | [y], h3 =>
        dsimp only at h3
        by_cases hz : c = cn ∧ i < l'.length
        · rw [if_pos hz] at h3
          intro φ1 σ1 H1 x1 a1 b1
          refine ⟨y, hz.1, rfl, fun φ2 H2 d v x2 a2 b2 r2 e2 => ⟨true, T.te, fun _ a na => ?_, fun z => by cases z⟩⟩
          have hil : i < σ1.length := by rw [← b2.1]; exact hz.2
          exact ⟨.ref a, List.getElem?_set_self hil, rfl, rfl, d, [(fn, v)], v, rfl, e2, by simp [List.lookup], h3 φ2 H2 v (x1.trans x2) a2 r2⟩
        · rw [if_neg hz] at h3; exact h3.elim
      | _ :: _ :: _, h3 => exact h3.elim⟩
end
end SM

set_option Elab.async false
set_option linter.all false
set_option maxRecDepth 100000
set_option maxHeartbeats 2000000
/-! ## enumerate(tuple) -/
namespace PySem
open Sem (wp)
theorem meets_enT {v : Value} {o : Obj} {H : Heap → Prop} (B : Begins v o H) :
    Meets (Builtin.«enumerate.__new__» ⟨[.type "enumerate", v], []⟩) (fun _ R s => H s.heap ∧
      R (.ok (.ret (.ref (s.heap.push o).objs.size))) { s with heap := (s.heap.push o).push { cls := .type "enumerate", data := .fields #[.none, .bool false, .ref s.heap.objs.size, rawInt 0, .none, .none] } }) :=
  .of_wp fun prog w A R s h => by
    obtain ⟨hp, g, d, tk, os⟩ := s; obtain ⟨h1, h⟩ := h
    have hsub := sub_enumerate
    have q1 : ∀ {A' : Around} {E : Value → Shared → Prop} {Q : Value → Shared → Prop}, Q (.ref hp.objs.size) ⟨hp.push o, g, d, tk, os⟩ → wpAny (model prog w) A' (pyIter v) Q E ⟨hp, g, d, tk, os⟩ :=
      fun q => B.iter prog w _ _ ⟨hp, g, d, tk, os⟩ _ h1 q
    wp_walk using q1
    refine wpAny_stack_any fun st => wpAny_pure ?_
    split
    · rename_i c _ _ _ _ _
      cases (c == Value.type "enumerate")
      · wp_walk using q1
        exact ⟨_, rfl, h⟩
      · wp_walk using q1
        exact ⟨_, rfl, h⟩
    · wp_walk using q1
      exact ⟨_, rfl, h⟩
theorem call_enT {prog : Program} {w : World} {A : Around} {E : Value → Shared → Prop} {s : Shared} {v : Value} {o : Obj} {H : Heap → Prop} {Q : Value → Shared → Prop} (B : Begins v o H) (h1 : H s.heap)
    (h : ∀ h', IsEnum h' (s.heap.objs.size + 1) s.heap.objs.size 0 .none → h'.get? s.heap.objs.size = some o → h'.objs.size = s.heap.objs.size + 2 →
      (∀ b o, s.heap.get? b = some o → h'.get? b = some o) → Q (.ref (s.heap.objs.size + 1)) { s with heap := h' }) :
    wpAny (model prog w) A (call (.type "enumerate") [v]) Q E s := by
  refine callType_new F.called_enumerate (by decide) (F.typeCall_enumerate_1 _) (F.newCall_enumerate_1 _) (fun obj => F.args_object_init_2 obj _) F.entry_enumerate_new (meets_enT B) ⟨h1, ?_⟩
  have hz : (s.heap.push o).objs.size = s.heap.objs.size + 1 := Heap.size_push ..
  show _ ∧ _
  rw [hz]
  have he : IsEnum ((s.heap.push o).push { cls := .type "enumerate", data := .fields #[.none, .bool false, .ref s.heap.objs.size, rawInt 0, .none, .none] }) (s.heap.objs.size + 1) s.heap.objs.size 0 .none := by
    have := Heap.get?_push_size (s.heap.push o) (o := { cls := .type "enumerate", data := .fields #[.none, .bool false, .ref s.heap.objs.size, rawInt 0, .none, .none] }) rfl
    rw [hz] at this; exact this
  refine ⟨⟨_, he, rfl⟩, h _ he (Heap.get?_push_of_some _ (Heap.get?_push_size _ B.free)) (by rw [Heap.size_push, hz]) fun b o x => Heap.get?_push_of_some _ (Heap.get?_push_of_some _ x)⟩
end PySem
namespace SM
open PySem PySem.Spec PyProof.Rows L2
def ItE (K : PySem.W.Frag) (a : Addr) : It :=
  ⟨fun i H => ∃ (xs : List V) (x : V), SqT K H a xs ∧ xs[i]? = some x, fun i H v H' => ∃ T x, v = .ref T ∧ H T = none ∧ H' = upd H T (.tup [.int (i : Nat), x]) ∧ ∀ xs, SqT K H a xs → xs[i]? = some x, fun i H => ∃ xs : List V, SqT K H a xs ∧ xs.length ≤ i⟩
theorem turn_enT {P : Program} {w : World} {K : PySem.W.Frag} {elts : List Expr} {kk : Nat} {tpos : Pos} (a e it : Addr) :
    Turn P w K (.Tuple elts kk tpos) (ItE K a) [e, it] e (fun i h => (∃ old, IsEnum h e it ((i : Nat) : Int) old) ∧ h.IsTupleIter it a i ∧ e ≠ it ∧ e ≠ a ∧ it ≠ a) where
  mem := by simp
  obj := fun i h st b hb => by
    obtain ⟨⟨old, he⟩, ⟨o, ho, hc, hd⟩, _⟩ := st
    have e' : b = e ∨ b = it := by simpa using hb
    rcases e' with z | z
    · rw [z]; exact ⟨_, he, fun v q => nomatch q⟩
    · rw [z]; exact ⟨o, ho, fun v q => by rw [hd] at q; cases q⟩
  keep := fun i h h' st k => let ⟨⟨old, he⟩, hi, hne⟩ := st; ⟨⟨old, k e (by simp) _ he⟩, hi.at fun o q => k it (by simp) o q, hne⟩
  item := by
    intro X hP hw hK hc i pins s σ H E I hf st hg
    subst hP hw hK
    obtain ⟨⟨old, he⟩, hit, hne, hea, hia⟩ := st
    obtain ⟨xs, x, hq, hx⟩ := hg
    obtain ⟨its, rv, p, hz⟩ := I.tuple hq
    obtain ⟨u, hu, ru⟩ := rv.get hx
    have hel : e < s.heap.objs.size := Heap.lt_size he
    have hil : it < s.heap.objs.size := by obtain ⟨_, q, _⟩ := hit; exact Heap.lt_size q
    have p' : s.heap.IsTuple a its.toArray := p
    have hh : X.A.in1.handled = none := I.ok.hd hc
    have hlt : i < its.toArray.size := by
      have := (List.getElem?_eq_some_iff.mp hu).1
      simpa using this
    refine wpAny_pyNext_enum_itemD (Draws.tuple hh it a (Ne.symm hia) its.toArray) he ⟨hit, p'⟩ hlt hne (by simp; exact ⟨hne, hea⟩) fun y h' tk hy ho hst' hT hsz hk => ?_
    have ey : y = u := by
      have hy : its.toArray[i]? = some y := hy
      rw [List.getElem?_toArray, hu] at hy
      exact (Option.some.inj hy).symm
    subst ey
    refine ⟨_, rfl, wpAny_letOwnedTupleGo_enum (s := { s with heap := h', toks := tk + 1 }) ho fun h'' he' sb => ?_⟩
    have hT2 : h''.get? s.heap.objs.size = some { cls := .type "tuple", data := .seq #[.int i tk, y] } := (sb.2 _ (Nat.ne_of_gt hel)).trans hT
    have new : ObjOk X.prog X.w (upd H s.heap.objs.size (.tup [.int (i : Nat), x])) h'' s.heap.objs.size (.tup [.int (i : Nat), x]) :=
      ⟨by show 2 ≤ sizeLine; decide, [.int i tk, y], .cons ⟨_, rfl⟩ (.cons ru .nil), ⟨_, hT2, rfl, _, rfl⟩⟩
    have I1 : Inv X pins σ (upd H s.heap.objs.size (.tup [.int (i : Nat), x])) { s with heap := h'', toks := tk + 1 } :=
      I.turnedNew (ch := [e, it]) (fun b ob hb q => (sb.2 b (fun z => hb (by simp [z]))).trans (hk b ob (fun z => hb (by simp [z])) (fun z => hb (by simp [z])) q)) hf (Nat.le_refl _) new
    refine ⟨.ref s.heap.objs.size, _, I1, rfl, ⟨_, x, rfl, I.hok.fresh (Nat.le_refl _), rfl, fun ys hy => by rw [I.tuple_inj hy hq]; exact hx⟩, ⟨⟨y, ?_⟩, hst'.1.at fun o q => (sb.2 it (Ne.symm hne)).trans q, hne, hea, hia⟩, fun b hb => ?_⟩
    · have e1 : ((i + 1 : Nat) : Int) = (i : Int) + 1 := by omega
      rw [e1]; exact he'
    · have hb' : b < s.heap.objs.size := by
        have e' : b = e ∨ b = it := by simpa using hb
        rcases e' with z | z
        · rw [z]; exact hel
        · rw [z]; exact hil
      rw [upd_ne (Nat.ne_of_lt hb')]
      exact (hf b hb).1
  done := by
    intro X hP hw hK hc i pins s σ H E I hf st hg
    subst hP hw hK
    obtain ⟨⟨old, he⟩, hit, hne, hea, hia⟩ := st
    obtain ⟨xs, hq, hx⟩ := hg
    obtain ⟨its, rv, p, hz⟩ := I.tuple hq
    obtain ⟨f0, f1, f2, f3, f4, f5⟩ := hf it (by simp)
    have hl := rv.length
    have p' : s.heap.IsTuple a its.toArray := p
    have hh : X.A.in1.handled = none := I.ok.hd hc
    have D : Draws X.prog X.w X.A.in1 it [it, a] i (fun j v => its.toArray[j]? = some v) (fun j h => h.IsTupleIter it a j ∧ h.IsTuple a its.toArray ∧ i ≤ j) :=
      { live := fun _ _ st => let ⟨o, ho, _⟩ := st.1; ⟨o, ho⟩
        frame := fun _ _ _ st hk => ⟨st.1.at fun o e => hk it (by simp) o e, st.2.1.at fun o e => hk a (by simp) o e, st.2.2⟩
        item := fun j s Q E hi st hQ => absurd st.2.2 (by omega)
        done := fun s Q E st hE => wpAny_nextOf_tuple_end hh st.1 st.2.1 (by simp; omega) hE }
    exact wpAny_pyNext_enum_endD D he ⟨hit, p', Nat.le_refl _⟩ fun h' eb => ⟨rfl, I.turned (t' := s.toks) (fun b o hb q => eb b o hb q) f0 f1 f3 f4 f5⟩
  self := fun A i s Q E st h => let ⟨⟨_, he⟩, _⟩ := st; wpAny_pyIter_enum he h
def iEnT (K : PySem.W.Frag) (ta : TA) : TI := fun σ H R => ta σ H fun vs H1 => ∃ a xs, vs = [.ref a] ∧ SqT K H1 a xs ∧ R (ItE K a) H1
theorem pi_enT {X : Cx} {e : Expr} {ta : TA} {p pos tpos : Pos} {elts : List Expr} {kk : Nat} (hg : Gl X "enumerate") (hm : X.mg "enumerate" = none) (ha : PA X [e] ta) (hs : starEach [e] X.env = [(false, eval e X.env)] := by rfl) :
    PI X (.Tuple elts kk tpos) (.Call (.Name "enumerate" p) [e] [] pos) (iEnT X.K ta) := by
  refine ⟨fun pins s σ H R I h => ?_⟩
  refine Call_ (ld_blt I hg hm boot_enumerate (PyProof.Rows.callWith_type1 (thn (ha.run pos pins s σ H _ I h) fun us s1 ⟨vs, H1, I1, r1, q1⟩ => ?_) hs rfl))
  obtain ⟨a, xs, ex, hq, q⟩ := q1
  subst ex
  cases r1 with
  | cons r rr =>
    cases rr
    cases r
    obtain ⟨its, rv, p', hz⟩ := I1.tuple hq
    have ht : s1.heap.IsTuple a its.toArray := p'
    have hal : a < s1.heap.objs.size := by obtain ⟨o, ho, _⟩ := ht; exact Heap.lt_size ho
    refine call_enT (begins_tuple a its.toArray) ht fun h' he hit hsz hk => wpAny_pyIter_enum he ?_
    have I2 : Inv X pins σ H1 { s1 with heap := h' } := I1.kept (t' := s1.toks) hk
    refine ⟨s1.heap.objs.size + 1, [s1.heap.objs.size + 1, s1.heap.objs.size], _, _, H1, rfl, I2, turn_enT a (s1.heap.objs.size + 1) s1.heap.objs.size, ⟨⟨.none, he⟩, ⟨_, hit, rfl, rfl⟩, Nat.succ_ne_self _, Nat.ne_of_gt (Nat.lt_succ_of_lt hal), Nat.ne_of_gt hal⟩, fun b hb => ?_, q⟩
    have e' : b = s1.heap.objs.size + 1 ∨ b = s1.heap.objs.size := by simpa using hb
    have hle : s1.heap.objs.size ≤ b := by
      rcases e' with z | z
      · rw [z]; exact Nat.le_add_right _ _
      · rw [z]; exact Nat.le_refl _
    exact I1.fpOk hle (I1.hok.fresh hle)
theorem walk_enT {K : PySem.W.Frag} {a : Addr} {xs : List V} : Walk (ItE K a) xs.length (fun H => SqT K H a xs) (fun i H v H' => ∃ T x, v = .ref T ∧ H T = none ∧ H' = upd H T (.tup [.int (i : Nat), x]) ∧ xs[i]? = some x) := by
  refine ⟨fun i _ hi q => ⟨xs, xs[i], q, by simp [hi]⟩, fun _ q => ⟨xs, q, Nat.le_refl _⟩, fun i H v H' _ q y => ?_⟩
  obtain ⟨T, x, h1, h2, h3, h4⟩ := y
  exact ⟨T, x, h1, h2, h3, h4 xs q⟩
/-- for i, x in enumerate(a tuple): the items are pairs -/
def enumI (xs : List PV) : List PV := (List.range xs.length).map fun i => .tup [.int (i : Nat), xs.getD i .non]
theorem enumI_len (xs : List PV) : (enumI xs).length = xs.length := by simp [enumI]
theorem enumI_get {xs : List PV} {i : Nat} {x : PV} (h : xs[i]? = some x) : (enumI xs)[i]? = some (.tup [.int (i : Nat), x]) := by
  have hl := (List.getElem?_eq_some_iff.mp h).1
  unfold enumI
  rw [List.getElem?_map, List.getElem?_range hl]
  simp [List.getD_eq_getElem?_getD, h]
noncomputable def xForE (se : SE) (g : STg) (body : SS) : SS := fun l m => R.then l (se l m) fun x m1 => match x with
  | .tup xs => forL ⟨enumI xs, none⟩ g body (enumI xs) l m1
  | _ => .bad
section
variable {X : Cx} {W : XM} {e : Expr} {body : List Stmt} {g : STg} {sb : SS} {se : SE} {elts : List Expr} {kk : Nat} {tpos p cpos pos : Pos}
theorem x_forE (hp : PassesOwn (model X.prog X.w) X.A X.env X.xe) (hc : X.calm = true) (hgE : Gl X "enumerate") (hm : X.mg "enumerate" = none) (he : QE X W e se) (hg : QG X (.Tuple elts kk tpos) g) (hb : QSs X W body sb)
    (hs1 : starEach [e] X.env = [(false, eval e X.env)] := by rfl) (hs : ∀ x, foldedSetIterable (.Call (.Name "enumerate" p) [e] [] cpos) X.env x = pure x := by intro _; rfl) :
    QS X W (.For (.Tuple elts kk tpos) (.Call (.Name "enumerate" p) [e] [] cpos) body [] pos) (xForE se g sb) := ⟨ps_imp (ps_for hp hc (pi_enT hgE hm (pa_cons he.pe pa_nil (by rw [hs1] <;> rfl)) hs1) hg.pg hb.ps hs) fun D σ H ⟨φ, l, m, h1, h2, h3⟩ => by
  refine ⟨φ, l, m, h1, h2, (PostS.then (rel := rV X.K) h2 h3).mono ?_⟩
  rintro v H' ⟨φ', x, m', x0, a0, b0, r0, d0⟩
  match x, r0, d0 with
  | .tup xs, r0, d0 =>
    obtain ⟨a, vs, rfl, q1, q2⟩ := r0
    refine ⟨a, vs, rfl, q1, ?_⟩
    have hlen : vs.length = xs.length := q2.length
    have d0 : PostS X.K W φ' H' (forL ⟨enumI xs, none⟩ g sb (enumI xs) l m') D := d0
    refine for_it (walk_enT (xs := vs)) (fun i σ2 H2 => ∃ φ2 l2 m2, Ext X.K φ' H' φ2 H2 ∧ RH X.K H2 φ2 m2 ∧ RL X.K H2 φ2 l2 σ2 ∧ PostS X.K W φ2 H2 (forL ⟨enumI xs, none⟩ g sb ((enumI xs).drop i) l2 m2) D) ⟨φ', l, m', Ext.refl, a0, b0, d0⟩ ?_ ?_ ?_
    · rintro i σ2 H2 hi ⟨φ2, l2, m2, x2, a2, b2, c2⟩
      exact x2.tup _ _ q1
    · rintro i v σ2 H2 H3 hi ⟨φ2, l2, m2, x2, a2, b2, c2⟩ ⟨T, y, rfl, hT, rfl, hy⟩
      obtain ⟨px, e1⟩ : ∃ px, xs[i]? = some px := ⟨xs[i]'(by omega), List.getElem?_eq_getElem (by omega)⟩
      obtain ⟨y', e2, ry⟩ := q2.get e1
      rw [hy] at e2
      cases e2
      obtain ⟨f1, f2, f3⟩ := a2.newT (xs := [.int (i : Nat), px]) (vs := [.int (i : Nat), y]) hT ⟨_, _, rfl, rfl, _, _, rfl, RV.ext x2 ry, rfl⟩
      have hi' : i < (enumI xs).length := by rw [enumI_len]; omega
      rw [List.drop_eq_getElem_cons hi'] at c2
      have eg : (enumI xs)[i] = .tup [.int (i : Nat), px] := by
        have := enumI_get e1
        rw [List.getElem?_eq_getElem hi'] at this
        exact Option.some.inj this
      rw [eg] at c2
      unfold forL at c2
      rw [if_pos (show ITM.ok ⟨enumI xs, none⟩ m2 from trivial)] at c2
      cases hgx : g (.tup [.int (i : Nat), px]) l2 m2 with
      | none => rw [hgx] at c2; exact c2.elim
      | some p =>
        obtain ⟨l3, m3⟩ := p
        rw [hgx] at c2
        dsimp only at c2
        refine ⟨φ2, l2, m2, _, f2, b2.ext f1, f3, l3, m3, hgx, fun φ3 σ3 H3 x3 a3 b3 => ⟨φ3, l3, m3, a3, b3, ?_⟩⟩
        have c3 := PostS.ext (f1.trans x3) c2
        cases hb : sb l3 m3 with
        | nx l4 m4 =>
          rw [hb] at c3
          exact fun φ4 σ4 H4 x4 a4 b4 => ⟨φ4, l4, m4, ((x2.trans f1).trans x3).trans x4, a4, b4, PostS.ext x4 c3⟩
        | ct l4 m4 =>
          rw [hb] at c3
          exact fun φ4 σ4 H4 x4 a4 b4 => ⟨φ4, l4, m4, ((x2.trans f1).trans x3).trans x4, a4, b4, PostS.ext x4 c3⟩
        | bk l4 m4 => rw [hb] at c3; exact c3
        | rt x m4 => rw [hb] at c3; exact c3
        | ex c fs l4 m4 => rw [hb] at c3; exact c3
        | bad => rw [hb] at c3; exact c3
    · rintro σ2 H2 ⟨φ2, l2, m2, x2, a2, b2, c2⟩
      rw [List.drop_of_length_le (by rw [enumI_len]; omega)] at c2
      unfold forL at c2
      rw [if_pos (show ITM.ok ⟨enumI xs, none⟩ m2 from trivial)] at c2
      exact c2 φ2 σ2 H2 Ext.refl a2 b2⟩
end
end SM

set_option Elab.async false
set_option linter.all false
set_option maxRecDepth 100000
set_option maxHeartbeats 2000000
/-! SM15: a def that may raise, called where it doesn't; a try whose suite returns what a small def says of the exception's field. -/
namespace SM
open PySem PySem.Spec PyProof.Rows L2
/-! ## flat equality, wants no room -/
def eqS : PV → PV → MH → OR := fun x y m => (eqF x y).map fun b => (.bl b, m)
section
variable {X : Cx}
theorem o_eqS : OpQ X (compareOp .Eq) eqS := .of_eq fun v w H Q φ m x y h1 h2 h3 h4 => by
  unfold eqS at h4
  cases hf : eqF x y with
  | some b =>
    rw [hf] at h4
    obtain ⟨s1, s2⟩ := eqF_scal hf h2 h3
    exact ⟨_, op_eq, s1, by rw [s2]; exact h4.same h1 rfl⟩
  | none => rw [hf] at h4; exact h4.not.elim
end
/-! ## a call of a def that raises elsewhere, not here -/
section
variable {X : Cx} {W : XM} {e : Expr} {es : List Expr} {ses : SA} {x fn : Str} {cn : String} {C : Addr} {p pos : Pos} {n k j : Nat} {f : FS}
theorem q_callX0 (Cl : CalX X.prog X.w X.K X.mg X.base C cn fn x n k f) (hr : Room j X.A) (hk : k ≤ j) (hg : Gl X x) (ha : QA X W (e :: es) ses) (hdb : (x == ("__debug__" : Str)) = false := by decide)
    (he : starEach (e :: es) X.env = (false, eval e X.env) :: starEach es X.env := by rfl) (hpl : (backTo pos (starEach es X.env)).any (·.1) = false := by rfl) : QE X W (.Call (.Name x p) (e :: es) [] pos) (sCallU n f ses) := by
  obtain ⟨fa, fd, ps, hps, F, hm, hkp, hb⟩ := Cl
  refine ⟨pe_imp (pe_callS (E := fun _ => E0) F (hr.mono hk) hg hm hkp hb (fun σ pins H s e s' I h => passL pins σ H s e s' I h) ha.pa hdb he hpl) fun σ H Q q => (oneA q).mono fun vs H1 ⟨φ, m, xs, l, c1, c2, c3⟩ => ?_⟩
  by_cases hz : xs.length = n
  · rw [if_pos hz] at c3
    refine ⟨by rw [c2.length]; exact hz, φ, m, xs, c1, c2, ?_⟩
    cases hf : f xs m with
    | ok y m' => rw [hf] at c3; exact c3
    | ex c fs m' => rw [hf] at c3; exact c3.elim
    | bad => rw [hf] at c3; exact c3.elim
  · rw [if_neg hz] at c3
    exact c3.elim
end
/-! ## a small def (it calls nothing, it raises nothing), called while an exception is handled -/
structure Hotf (P : Program) (w : World) (K : PySem.W.Frag) (mg : Str → Option Value) (base : Heap) (x : Str) (n : Nat) (f : FS) : Prop where
  ex : ∃ (qual : Str) (st : Stmt) (fa : Addr) (fd : FuncData) (N ps : List Str) (b : SS), Fun K x qual st fa fd ∧ FnScope N ps (defScope st) ∧ ps.length = n ∧ f = fnS n N.length b ∧ mg x = some (.ref fa) ∧ Binds K fd ps [] ∧
    ∀ (cdv : Value) (A : Around) (outer : List Env) (s : Shared) (H : Hp) (E : XK) (q : Addr × Obj), QSs (L2H.cxH CX0 P w K mg base N qual (defScope st) fa cdv A outer s H E q).nox W0 (defBody st) b
section
variable {X : Cx} {x : Str} {n : Nat} {f : FS} {e : Expr} {es : List Expr} {p pos : Pos} {t : TA}
theorem pe_hot (F : Hotf X.prog X.w X.K X.mg X.base x n f) {q : Addr × Obj} (hq : q ∈ X.pn) (hd : X.A.depth < recursionLimit) (hg : Gl X x) (ha : PA X (e :: es) t) (hdb : (x == ("__debug__" : Str)) = false := by decide)
    (he : starEach (e :: es) X.env = (false, eval e X.env) :: starEach es X.env := by rfl) (hpl : (backTo pos (starEach es X.env)).any (·.1) = false := by rfl) : PE X (.Call (.Name x p) (e :: es) [] pos) (tCallS (SpQ X.K n f) (fun _ => E0) t) := by
  obtain ⟨qual, st, fa, fd, N, ps, b, G, S, hps, hfs, hm, hbd, hb⟩ := F.ex
  refine ⟨fun pins s σ H Q I h => ?_⟩
  refine wpAny_Call_Name_kw (ld_glob I hg hm ?_ hdb)
  refine PySem.W.callWith_K (h₀ := X.base) I.ok.mod.kin G.kp (thn (ha.run pos pins s σ H _ I h) fun us s1 ⟨vs, H1, I1, r, z⟩ => ⟨I1.kIn, ?_⟩) he hpl
  obtain ⟨hl, φ, m, xs, z1, z2, z3⟩ := z
  obtain ⟨oc, od, kV, doc, pm, an, cdv, ct, osl, rfl, lk, hcd⟩ := G.ex
  have hlv : vs.length = ps.length := hl.trans hps.symm
  have hlu : us.length = ps.length := by rw [← r.length]; exact hlv
  have bd := hbd s1 us I1.kIn (by rw [List.append_nil]; exact hlu)
  rw [List.append_nil] at bd
  have P1 := I1.pin q (List.mem_append_left _ hq)
  have hpin : L2H.PinOk X.stack H1 s1 q := ⟨P1.1, P1.2.1, fun hmm => (List.mem_cons.mp (I1.stkSub q.1 hmm)).elim P1.2.2.1 P1.2.2.2.1, P1.2.2.2.2⟩
  have e0 := I1.env0
  have KX : X.K.In s1.heap := e0.mod.kin.keeps fun b o e => (e0.bs b o e).1
  have lim : s1.heap.NoLimit := e0.mod.nolimit.keeps fun b o e => (e0.bs b o e).1
  have hkind : ∀ y ∈ ps.zip us, (defScope st).names.lookup y.1 = some .local ∨ ((defScope st).names.lookup y.1 = some .cell ∧ ((cellsFrom (s1.heap.objs.size + 1) (defScope st).names []).lookup y.1).isSome = true) := fun y hy => by
    rcases S.par y.1 (List.of_mem_zip hy).1 with k | k
    · exact .inl k
    · exact .inr ⟨k, PySem.W.cellsFrom_some _ _ _ (.inl k)⟩
  have main : codeAny (model X.prog X.w) X.A (.call (.ref fa) ⟨us, []⟩) (CR CX0 X.stack X.prog X.w H1 s1 Q E0) s1 := by
    refine codeAny_call_function hd (KX _ _ lk) rfl S.co S.gen rfl (PySem.W.codeRec_of KX hcd) (bd _ _ _ _ ?_)
    refine wpAny_newFunctionEnv_cells S.kind hkind fun env he s2 y => ?_
    subst he
    refine ⟨lim.keeps y.toInCall.keep, codeAny_func ?_⟩
    have J := L2H.inv_startH (CX := CX0) (E := E0) (mg := X.mg) (base := X.base) (qual := qual) S hpin e0 hlv r y
    have hle : ps.length ≤ N.length := by
      have := congrArg List.length S.pre
      rw [List.length_take] at this
      omega
    have hxl : xs.length = ps.length := by rw [← z2.length]; exact hlv
    have bod := (hb cdv X.A X.stack s1 H1 E0 q).ps.nox
    rw [hfs] at z3
    unfold fnS at z3
    rw [if_pos (hxl.trans hps)] at z3
    refine wpAny_mono (bod.run [] s2 (L2.start N vs) H1 { nx := fun _ H' => Q .non H', rt := Q } J ⟨φ, _, m, z1, rl_start hle z2 hxl, ?_⟩) (fun fl s' hs => ?_) fun e s' hs => hs
    · rw [← hps] at z3
      cases hbb : b (xs.map some ++ List.replicate (N.length - ps.length) none) m with
      | nx l m' => rw [hbb] at z3; exact fun φ' σ' H' x a b => z3 φ' H' _ x a rfl
      | rt y m' => rw [hbb] at z3; exact z3
      | bk l m' => rw [hbb] at z3; exact z3.elim
      | ct l m' => rw [hbb] at z3; exact z3.elim
      | ex c fs l m' => rw [hbb] at z3; exact z3.elim
      | bad => rw [hbb] at z3; exact z3.elim
    · cases fl with
      | ret u =>
        obtain ⟨v, σ', H', J', rv, k⟩ := hs
        exact ⟨v, H', J'.os, J'.bare, J'.base, J'.hok, rv, k⟩
      | next =>
        obtain ⟨σ', H', J', k⟩ := hs
        exact ⟨.non, H', J'.os, J'.bare, J'.base, J'.hok, rfl, k⟩
      | brk =>
        obtain ⟨_, _, _, k⟩ := hs
        exact k.elim
      | cont =>
        obtain ⟨_, _, _, k⟩ := hs
        exact k.elim
  refine wpAny_call (codeAny_mono main fun r s' hr => ?_)
  cases r with
  | error e => exact False.elim hr
  | ok fl =>
    cases fl with
    | ret u => exact I1.after hr
    | next => exact False.elim hr
    | brk => exact False.elim hr
    | cont => exact False.elim hr
end
/-! ## try: .. except C as n: return g(n.f, y) -/
def xTryB (cn : String) (i j : Nat) (g : FS) (sb : SS) : SS := fun l m => match sb l m with
  | .ex c [y] l' m' => if c = cn ∧ i < l'.length ∧ i ≠ j then (match l'[j]? with
    | some (some z) => match g [y, z] m' with
      | .ok u m2 => .rt u m2
      | _ => .bad
    | _ => .bad) else .bad
  | .ex _ _ _ _ => .bad
  | r => r
section
variable {X : Cx} {W : XM} {body : List Stmt} {sb : SS} {x n fn xg y : Str} {cn : String} {C : Addr} {i j k : Nat} {g : FS} {np p1 p2 p3 p4 p5 p6 pos pos' : Pos}
theorem x_tryB (i j : Nat) (hs : X.stack = X.env :: X.outer) (hf : X.env.frame = some X.env.locals) (hN : X.N.Nodup) (hi : X.N[i]? = some n) (hln : X.env.kindOf n = some .local) (hj : X.N[j]? = some y) (T : ExcT X.prog X.w X.K X.mg X.base x C fn) (hg : Gl X x) (hr : Room k X.A) (G : Hotf X.prog X.w X.K X.mg X.base xg 2 g) (hgg : Gl X xg)
    (hb : ∀ (Wx : WX) (pn : List (Addr × Obj)) (xe : Value → Shared → Prop), Takes (X.tr pn xe) Wx → PassesOwn (model X.prog X.w) X.A X.env xe → QSs (X.tr pn xe) (WTx X.K C cn fn Wx) body sb)
    (hv : Vis X.env.scope n) (hvj : Vis X.env.scope y) (hab : attributeBase (.Name n p1) fn X.env (eval (.Name n p1) X.env) = eval (.Name n p1) X.env) (hdb : (x == ("__debug__" : Str)) = false := by decide) (hdn : (n == ("__debug__" : Str)) = false := by decide) (hcd : (n == ("__classdict__" : Str)) = false := by decide)
    (hdy : (y == ("__debug__" : Str)) = false := by decide) (hcy : (y == ("__classdict__" : Str)) = false := by decide) (hdg : (xg == ("__debug__" : Str)) = false := by decide)
    (he : ∀ a pn, starEach [.Attribute (.Name n p1) fn p2, .Name y p4] (X.suite a pn).env = (false, eval (.Attribute (.Name n p1) fn p2) (X.suite a pn).env) :: starEach [.Name y p4] (X.suite a pn).env := by intros; rfl)
    (he2 : ∀ a pn, starEach [.Name y p4] (X.suite a pn).env = (false, eval (.Name y p4) (X.suite a pn).env) :: starEach [] (X.suite a pn).env := by intros; rfl)
    (hpl : ∀ a pn, (backTo p5 (starEach [.Name y p4] (X.suite a pn).env)).any (·.1) = false := by intros; rfl) :
    QS X W (.Try body [.ExceptHandler (some (.Name x np)) (some n) [.Return (some (.Call (.Name xg p6) [.Attribute (.Name n p1) fn p2, .Name y p4] [] p5)) p3] pos'] [] [] pos) (xTryB cn i j g sb) :=
  ⟨ps_imp (ps_try_as (tb := fun Wx => RdS X.K (WTx X.K C cn fn Wx) sb) (ts := fun a cls d D σ H => tCallS (SpQ X.K 2 g) (fun _ => E0) (tCons (tXf a cls d C fn (tVar i)) (tCons (tVar j) tNil)) σ H D.rt) hs hf hN hi hln ⟨hg, hdb, .inl T.gC⟩ (L2.takes0 (X := X)) (fun Wx pn xe tk po => (hb Wx pn xe tk po).ps)
    (fun a oe cls d pn hz hff => pss_one (ps_ret (pe_hot (X := X.suite a ((a, oe) :: pn)) G (q := (a, oe)) List.mem_cons_self (show L2H.RoomH k (X.A.mark (some (.ref a))) from ⟨hr.dp, hr.un⟩).depth hgg
      (pa_cons (pe_xf T.xf T.no hz hff (pe_var (i := i) hi hv hdn hcd) hab) (pa_cons (pe_var (i := j) hj hvj hdy hcy) pa_nil (he2 a _)) (he a _)) hdg (he a _) (hpl a _))))) fun D σ H ⟨φ, l, m, h1, h2, h3⟩ => by
    refine ⟨φ, l, m, h1, h2, ?_⟩
    unfold xTryB at h3
    cases hsb : sb l m with
    | nx l' m' => rw [hsb] at h3; exact h3
    | rt y m' => rw [hsb] at h3; exact h3
    | bk l' m' => rw [hsb] at h3; exact h3
    | ct l' m' => rw [hsb] at h3; exact h3
    | bad => rw [hsb] at h3; exact h3
    | ex c fs l' m' =>
      rw [hsb] at h3
      match fs, h3 with
      | [], h3 => exact h3.elim
      | [y], h3 =>
        dsimp only at h3
        by_cases hz : c = cn ∧ i < l'.length ∧ i ≠ j
        · rw [if_pos hz] at h3
          cases hlj : l'[j]? with
          | none => rw [hlj] at h3; exact h3.elim
          | some o =>
          cases o with
          | none => rw [hlj] at h3; exact h3.elim
          | some z =>
          rw [hlj] at h3
          dsimp only at h3
          intro φ1 σ1 H1 x1 a1 b1
          refine ⟨y, hz.1, rfl, fun φ2 H2 d v x2 a2 b2 r2 e2 => ⟨true, T.te, fun _ a na => ?_, fun z => by cases z⟩⟩
          have hil : i < σ1.length := by rw [← b2.1]; exact hz.2.1
          obtain ⟨w, w1, w2⟩ := b2.2 j z hlj
          have w3 : (σ1.set i (some (V.ref a)))[j]? = some (some w) := by rw [List.getElem?_set_ne hz.2.2]; exact w1
          refine ⟨.ref a, List.getElem?_set_self hil, rfl, rfl, d, [(fn, v)], v, rfl, e2, by simp [List.lookup], w, w3, rfl, φ2, m', [y, z], a2, ⟨v, [w], rfl, r2, ⟨w, [], rfl, w2, rfl⟩⟩, ?_⟩
          cases hgu : g [y, z] m' with
          | ok u m2 =>
            rw [hgu] at h3
            exact fun φ3 H3 v3 x3 a3 r3 => h3 φ3 H3 v3 ((x1.trans x2).trans x3) a3 r3
          | ex c2 fs2 m2 => rw [hgu] at h3; exact h3.elim
          | bad => rw [hgu] at h3; exact h3.elim
        · rw [if_neg hz] at h3; exact h3.elim
      | _ :: _ :: _, h3 => exact h3.elim⟩
end
end SM

set_option Elab.async false
set_option linter.all false
set_option maxRecDepth 100000
set_option maxHeartbeats 2000000
/-! SM16: sorted of any alike data; dicts whose keys are pairs. -/
namespace SM
open PySem PySem.Spec PyProof.Rows L2
/-! ## sorted, over the library's values -/
def rSortD (K : PySem.W.Frag) : List V → Hp → VK → Prop := fun vs H Q => ∃ (a : Addr) (zs : List (V × PyData)), vs = [.ref a] ∧ SqL K H a (zs.map (·.1)) ∧ (∀ z ∈ zs, Dp K H z.1 z.2) ∧ PySem.W.AllAlike (zs.map (·.2)) ∧ PySem.W.Sortable (zs.map (·.2)) ∧
  (∀ z ∈ zs, z.2.depth ≤ 60) ∧ ∀ p, H p = none → Q (.ref p) (upd H p (.lst ((zs.mergeSort (PySem.W.dataLe false (·.2))).map (·.1))))
theorem each_vals : ∀ {zs : List (V × PyData)} {us : List Value}, Vals (zs.map (·.1)) us → PySem.W.EachIs (fun u (z : V × PyData) => RelV z.1 u) us zs
  | [], _, h => by cases h; exact .nil
  | z :: zs, _, h => by
    rw [List.map_cons] at h
    cases h with
    | cons h1 h2 => exact .cons h1 (each_vals h2)
theorem vals_each : ∀ {zs : List (V × PyData)} {us : List Value}, PySem.W.EachIs (fun u (z : V × PyData) => RelV z.1 u) us zs → Vals (zs.map (·.1)) us
  | _, _, .nil => .nil
  | _, _, .cons h1 h2 => .cons h1 (vals_each h2)
section
variable {X : Cx}
theorem each_reads {pins : List (Addr × Obj)} {s : Shared} {σ : L2.St} {H : Hp} (I : Inv X pins σ H s) : ∀ {zs : List (V × PyData)} {us : List Value}, Vals (zs.map (·.1)) us → (∀ z ∈ zs, Dp X.K H z.1 z.2) → PySem.W.EachIs (fun u (z : V × PyData) => ∃ as, Reads s.heap u z.2 as) us zs
  | [], _, h, _ => by cases h; exact .nil
  | z :: zs, _, h, d => by
    rw [List.map_cons] at h
    cases h with
    | cons h1 h2 => exact .cons (Dp.reads I _ _ _ (d z List.mem_cons_self) h1) (each_reads I h2 fun z hz => d z (List.mem_cons_of_mem _ hz))
theorem cr_sortD {k : Nat} (hr : Room k X.A) : CallR X (.builtin "sorted") (rSortD X.K) := by
  intro pins s σ H vs us Q I r h
  obtain ⟨a, zs, rfl, hs, hd, hal, hso, hdp, q⟩ := h
  obtain ⟨its, rv, hl, hz⟩ := I.list hs
  obtain ⟨u, rfl, ru⟩ := vals1 r
  obtain rfl : u = Value.ref a := ru
  have hlen : zs.length ≤ sizeLine := by rw [List.length_map] at hz; exact hz
  refine PySem.W.sorted_data (R := fun u (z : V × PyData) => RelV z.1 u) (enc := fun z => z.2) (bs := zs) hl.isList (each_vals rv) (each_reads I rv hd) hal hso hlen (fun z hz => ?_) fun out ho hout => ?_
  · have := hdp z hz
    have := hr.units
    omega
  · obtain ⟨e, he⟩ := PyProof.Rows.sortedAll_at s.heap its (List.toArray out)
    have hv := vals_each hout
    refine ⟨.ref (s.heap.objs.size + 1), upd H (s.heap.objs.size + 1) (.lst ((zs.mergeSort (PySem.W.dataLe false (·.2))).map (·.1))), I.laid (t' := s.toks) (fun b o q => PyProof.Rows.sortedAll_old q) (Nat.le_succ _) ⟨?_, out, e, hv, he⟩, rfl, q _ (I.hok.fresh (Nat.le_succ _))⟩
    rw [List.length_map, List.length_mergeSort]
    exact hlen
end
/-! ## sorted, over the reckoning's values -/
def dOf (m : MH) (x : PV) : PyData := (toD m 8 x).getD .none
noncomputable def sortD (m : MH) (xs : List PV) : List PV := ((xs.map fun x => (x, dOf m x)).mergeSort (PySem.W.dataLe false (·.2))).map (·.1)
structure SortOk (m : MH) (xs : List PV) : Prop where
  rd : ∀ x ∈ xs, ∃ d, toD m 8 x = some d
  al : PySem.W.AllAlike (xs.map (dOf m))
  so : PySem.W.Sortable (xs.map (dOf m))
  dp : ∀ x ∈ xs, (dOf m x).depth ≤ 60
theorem sortD_perm {m : MH} {xs : List PV} : (sortD m xs).Perm xs := by
  have h := (List.mergeSort_perm (xs.map fun x => (x, dOf m x)) (PySem.W.dataLe false (·.2))).map (·.1)
  rw [List.map_map] at h
  have e : (Prod.fst ∘ fun x => (x, dOf m x)) = (id : PV → PV) := rfl
  rw [e, List.map_id] at h
  exact h
theorem sortD_len {m : MH} {xs : List PV} : (sortD m xs).length = xs.length := sortD_perm.length_eq
/-- the sorted values' order -/
theorem sortD_pair {m : MH} {xs : List PV} : (sortD m xs).Pairwise fun a b => PySem.W.dataLe false (dOf m) a b = true := by
  have h := PySem.W.sort_pairwise (PySem.W.sortLe_total (PyProof.Rows.listOrd PyProof.Rows.itemOrd) false fun z : PV × PyData => PySem.W.keyToks z.2) (xs.map fun x => (x, dOf m x))
  unfold sortD
  rw [List.pairwise_map]
  refine List.Pairwise.imp_of_mem ?_ h
  intro a b ha hb h
  have ha := List.mem_map.mp ((List.mergeSort_perm _ _).mem_iff.mp ha)
  have hb := List.mem_map.mp ((List.mergeSort_perm _ _).mem_iff.mp hb)
  obtain ⟨x, _, rfl⟩ := ha
  obtain ⟨y, _, rfl⟩ := hb
  exact h
open Classical in
noncomputable def sortedDv : List PV → MH → OR
  | [.ref n], m => match seq? m n with
    | some xs => if SortOk m xs then some (.ref m.length, m ++ [.lst (sortD m xs)]) else none
    | none => none
  | _, _ => none
section
variable {K : PySem.W.Frag} {H : Hp} {φ : List Addr}
/-- the values together with their data -/
theorem zip_data {m : MH} (h : RH K H φ m) : ∀ {xs : List PV} {ws : List V}, RVs K H φ xs ws → (∀ x ∈ xs, ∃ d, toD m 8 x = some d) →
    ∃ zs : List (V × PyData), zs.map (·.1) = ws ∧ zs.map (·.2) = xs.map (dOf m) ∧ (∀ z ∈ zs, Dp K H z.1 z.2) ∧ PySem.W.EachIs (fun (p : PV × PyData) (z : V × PyData) => RV K H φ p.1 z.1 ∧ p.2 = z.2) (xs.map fun x => (x, dOf m x)) zs
  | [], _, r, _ => by cases r; exact ⟨[], rfl, rfl, (fun z hz => nomatch hz), .nil⟩
  | x :: xs, _, r, d => by
    obtain ⟨v, ws, rfl, r1, r2⟩ := r
    obtain ⟨zs, e1, e2, e3, e4⟩ := zip_data h r2 fun y hy => d y (List.mem_cons_of_mem _ hy)
    obtain ⟨dx, hd⟩ := d x List.mem_cons_self
    have ed : dOf m x = dx := by unfold dOf; rw [hd]; rfl
    refine ⟨(v, dx) :: zs, by rw [List.map_cons, e1], by rw [List.map_cons, List.map_cons, e2, ed], fun z hz => ?_, ?_⟩
    · rcases List.mem_cons.mp hz with rfl | hz
      · exact dp_of h 8 x v dx r1 hd
      · exact e3 z hz
    · rw [List.map_cons, ed]
      exact .cons ⟨r1, rfl⟩ e4
theorem rvs_each : ∀ {ps : List (PV × PyData)} {zs : List (V × PyData)}, PySem.W.EachIs (fun (p : PV × PyData) (z : V × PyData) => RV K H φ p.1 z.1 ∧ p.2 = z.2) ps zs → RVs K H φ (ps.map (·.1)) (zs.map (·.1))
  | _, _, .nil => rfl
  | _, _, .cons h1 h2 => ⟨_, _, rfl, h1.1, rvs_each h2⟩
theorem sort_rvs {m : MH} (h : RH K H φ m) {xs : List PV} {ws : List V} (r : RVs K H φ xs ws) (ok : SortOk m xs) :
    ∃ zs : List (V × PyData), zs.map (·.1) = ws ∧ (∀ z ∈ zs, Dp K H z.1 z.2) ∧ PySem.W.AllAlike (zs.map (·.2)) ∧ PySem.W.Sortable (zs.map (·.2)) ∧ (∀ z ∈ zs, z.2.depth ≤ 60) ∧ RVs K H φ (sortD m xs) ((zs.mergeSort (PySem.W.dataLe false (·.2))).map (·.1)) := by
  obtain ⟨zs, e1, e2, e3, e4⟩ := zip_data h r ok.rd
  refine ⟨zs, e1, e3, by rw [e2]; exact ok.al, by rw [e2]; exact ok.so, fun z hz => ?_, ?_⟩
  · have : z.2 ∈ zs.map (·.2) := List.mem_map.mpr ⟨z, hz, rfl⟩
    rw [e2] at this
    obtain ⟨x, hx, e⟩ := List.mem_map.mp this
    rw [← e]
    exact ok.dp x hx
  · exact rvs_each (PySem.W.sort_each e4 fun p hp q hq => by
      have h1 := e4.zip p hp
      have h2 := e4.zip q hq
      show PySem.W.dataLe false (fun z : PV × PyData => z.2) p.1 q.1 = PySem.W.dataLe false (fun z : V × PyData => z.2) p.2 q.2
      unfold PySem.W.dataLe PySem.W.sortLe
      dsimp only
      rw [h1.2, h2.2])
end
section
variable {X : Cx} {k : Nat}
theorem c_sortedD (hr : Room k X.A) : CrQ X (.builtin "sorted") sortedDv := .of fun vs H Q φ m xs h1 h2 h4 => by
  unfold sortedDv at h4
  split at h4
  · obtain ⟨v, rfl, r⟩ := h2.one
    rename_i n
    cases hq : seq? m n with
    | none => rw [hq] at h4; exact h4.not.elim
    | some xs =>
      rw [hq] at h4
      obtain ⟨a, ws, rfl, q1, q2⟩ := h1.seq r hq
      dsimp only at h4
      by_cases ok : SortOk m xs
      · rw [if_pos ok] at h4
        obtain ⟨zs, e1, e2, e3, e4, e5, e6⟩ := sort_rvs h1 q2 ok
        subst e1
        exact ⟨_, cr_sortD hr, a, zs, rfl, q1, e2, e3, e4, e5, fun p hn => h4.newL h1 e6 p hn⟩
      · rw [if_neg ok] at h4
        exact h4.not.elim
  · exact h4.not.elim
end
/-! ## dicts -/
def putD {κ : Type} [DecidableEq κ] (kvs : List (κ × PV)) (k : κ) (v : PV) : List (κ × PV) :=
  if (kvs.any fun p => decide (p.1 = k)) = true then kvs.map (fun p => if p.1 = k then (p.1, v) else p) else kvs ++ [(k, v)]
def getD {κ : Type} [DecidableEq κ] (kvs : List (κ × PV)) (k : κ) : Option PV := (kvs.find? fun p => decide (p.1 = k)).map (·.2)
theorem encT_inj {a b : List Int} : encT a = encT b ↔ a = b := by
  unfold encT
  constructor
  · intro h
    induction a generalizing b with
    | nil => cases b with
      | nil => rfl
      | cons y b => cases h
    | cons x a ih => cases b with
      | nil => cases h
      | cons y b =>
        rw [List.map_cons, List.map_cons] at h
        injection h with h1 h2
        rw [Sum.inl.inj h1, ih h2]
  · rintro rfl; rfl
theorem encK_inj {a b : Int} : encK a = encK b ↔ a = b := ⟨fun h => Sum.inl.inj h, fun h => by rw [h]⟩
section
variable {K : PySem.W.Frag} {H : Hp} {φ : List Addr} {κ κ' : Type} [DecidableEq κ] [DecidableEq κ'] {enc : κ → κ'}
theorem rks_len : ∀ {kvs : List (κ × PV)} {ws : List (κ' × V)}, RKs K H φ enc kvs ws → ws.length = kvs.length
  | [], _, h => by cases h; rfl
  | p :: r, _, h => by obtain ⟨v, t, rfl, _, h3⟩ := h; simp [rks_len h3]
theorem rks_get (inj : ∀ {a b}, enc a = enc b ↔ a = b) {k : κ} {x : PV} : ∀ {kvs : List (κ × PV)} {ws : List (κ' × V)}, RKs K H φ enc kvs ws → getD kvs k = some x → ∃ v, valV ws (enc k) = some v ∧ RV K H φ x v
  | [], _, h, e => by cases e
  | p :: r, _, h, e => by
    obtain ⟨v, t, rfl, h2, h3⟩ := h
    unfold getD at e
    rw [List.find?_cons] at e
    by_cases c : p.1 = k
    · rw [decide_eq_true c] at e
      cases e
      exact ⟨v, valV_pos (by rw [c]), h2⟩
    · rw [decide_eq_false c] at e
      obtain ⟨w, e1, e2⟩ := rks_get inj (k := k) h3 e
      exact ⟨w, by rw [valV_neg (by intro z; exact c (inj.mp z))]; exact e1, e2⟩
theorem rks_any (inj : ∀ {a b}, enc a = enc b ↔ a = b) {k : κ} : ∀ {kvs : List (κ × PV)} {ws : List (κ' × V)}, RKs K H φ enc kvs ws → (ws.any fun p => decide (p.1 = enc k)) = kvs.any fun p => decide (p.1 = k)
  | [], _, h => by cases h; rfl
  | p :: r, _, h => by
    obtain ⟨v, t, rfl, h2, h3⟩ := h
    rw [List.any_cons, List.any_cons, rks_any inj h3]
    congr 1
    exact decide_eq_decide.mpr inj
theorem rks_rep (inj : ∀ {a b}, enc a = enc b ↔ a = b) {k : κ} {x : PV} {v : V} (q : RV K H φ x v) : ∀ {kvs : List (κ × PV)} {ws : List (κ' × V)}, RKs K H φ enc kvs ws →
    RKs K H φ enc (kvs.map fun p => if p.1 = k then (p.1, x) else p) (ws.map fun p => if p.1 = enc k then (p.1, v) else p)
  | [], _, h => by cases h; rfl
  | p :: r, _, h => by
    obtain ⟨u, t, rfl, h2, h3⟩ := h
    rw [List.map_cons, List.map_cons]
    by_cases c : p.1 = k
    · rw [if_pos c, if_pos (by rw [c])]
      exact ⟨v, _, rfl, q, rks_rep inj q h3⟩
    · rw [if_neg c, if_neg (by intro z; exact c (inj.mp z))]
      exact ⟨u, _, rfl, h2, rks_rep inj q h3⟩
theorem rks_snoc {k : κ} {x : PV} {v : V} (q : RV K H φ x v) : ∀ {kvs : List (κ × PV)} {ws : List (κ' × V)}, RKs K H φ enc kvs ws → RKs K H φ enc (kvs ++ [(k, x)]) (ws ++ [(enc k, v)])
  | [], _, h => by cases h; exact ⟨v, [], rfl, q, rfl⟩
  | p :: r, _, h => by
    obtain ⟨u, t, rfl, h2, h3⟩ := h
    exact ⟨u, _, rfl, h2, rks_snoc q h3⟩
theorem rks_put (inj : ∀ {a b}, enc a = enc b ↔ a = b) {k : κ} {x : PV} {v : V} (q : RV K H φ x v) {kvs : List (κ × PV)} {ws : List (κ' × V)} (h : RKs K H φ enc kvs ws) : RKs K H φ enc (putD kvs k x) (putK ws (enc k) v) := by
  unfold putD putK
  rw [rks_any inj h]
  by_cases c : (kvs.any fun p => decide (p.1 = k)) = true
  · rw [if_pos c, if_pos c]; exact rks_rep inj q h
  · rw [if_neg c, if_neg c]; exact rks_snoc q h
end
def sDNewT : SE := fun _ m => .ok (.ref m.length) (m ++ [.dct []])
def sDNewK : SE := fun _ m => .ok (.ref m.length) (m ++ [.dck []])
/-- d[x, y] = v -/
def xDPutT (sv sd : SE) (sk : SA) : SS := fun l m => R.then l (sv l m) fun v m1 => R.then l (sd l m1) fun x m2 => R.then l (sk l m2) fun ks m3 => match x, ks with
  | .ref n, [.int a, .int b] => match m3[n]? with
    | some (.dct kvs) => if kvs.length < 16777216 then .nx l (m3.set n (.dct (putD kvs [a, b] v))) else .bad
    | _ => .bad
  | _, _ => .bad
/-- d[i] = v -/
def xDPutK (sv sd sk : SE) : SS := fun l m => R.then l (sv l m) fun v m1 => R.then l (sd l m1) fun x m2 => R.then l (sk l m2) fun k m3 => match x, k with
  | .ref n, .int k => match m3[n]? with
    | some (.dck kvs) => if kvs.length < 16777216 then .nx l (m3.set n (.dck (putD kvs k v))) else .bad
    | _ => .bad
  | _, _ => .bad
/-- d[key] -/
def dgetv : PV → PV → MH → OR
  | .ref n, .tup [.int a, .int b], m => match m[n]? with
    | some (.dct kvs) => (getD kvs [a, b]).map fun x => (x, m)
    | _ => none
  | _, _, _ => none
theorem ints_of : ∀ {xs : List PV} {k : List Int}, ints? xs = some k → xs = k.map .int
  | [], _, h => by cases h; rfl
  | .int i :: xs, _, h => by
    unfold ints? at h
    cases hx : ints? xs with
    | none => rw [hx] at h; cases h
    | some ms => rw [hx] at h; cases h; rw [ints_of hx]; rfl
theorem kV_ints (k : List Int) : k.map V.int = (encT k).map kV := by
  unfold encT
  rw [List.map_map]
  rfl
section
variable {X : Cx} {W : XM} {pos pos' pt : Pos} {value o i : Expr} {sv sd sk : SE} {ska : SA} {es : List Expr} {k k2 : Nat}
theorem q_dnewT : QE X W (.Dict [] [] pos) sDNewT :=
  ⟨pe_imp pe_dnewT fun σ H Q ⟨φ, l, m, h1, h2, h3⟩ p n => by
    have e : Ext X.K φ H (φ ++ [p]) (upd H p (.dT [])) := ⟨⟨[p], rfl⟩, fun a ws w => sqt_upd_new n w, fun _ _ _ w => by rw [upd_ne (ne_of_none w n)]; exact w⟩
    exact h3 (φ ++ [p]) _ _ e (h1.newO n e ⟨[], upd_same, rfl⟩) ⟨p, by simp [← h1.len], rfl⟩⟩
theorem q_dnewK : QE X W (.Dict [] [] pos) sDNewK :=
  ⟨pe_imp pe_dnewK fun σ H Q ⟨φ, l, m, h1, h2, h3⟩ p n => by
    have e : Ext X.K φ H (φ ++ [p]) (upd H p (.dK [])) := ⟨⟨[p], rfl⟩, fun a ws w => sqt_upd_new n w, fun _ _ _ w => by rw [upd_ne (ne_of_none w n)]; exact w⟩
    exact h3 (φ ++ [p]) _ _ e (h1.newO n e ⟨[], upd_same, rfl⟩) ⟨p, by simp [← h1.len], rfl⟩⟩
theorem x_dputT (hr : Room k X.A) (hv : QE X W value sv) (ho : QE X W o sd) (hi : QA X W es ska) (hs : swapsWith value (some (.Subscript o (.Tuple es k2 pt) pos')) pos.line X.env = pure false := by rfl) :
    QS X W (.Assign [.Subscript o (.Tuple es k2 pt) pos'] value pos) (xDPutT sv sd ska) :=
  ⟨ps_imp (ps_dput (by have := hr.units; omega) ho.pe (pe_tup hi.pa) hv.pe hs) fun D σ H ⟨φ, l, m, h1, h2, h3⟩ => by
    refine ⟨φ, l, m, h1, h2, (PostS.then (rel := rV X.K) h2 h3).mono ?_⟩
    rintro v H1 ⟨φ1, x, m1, e1, a1, b1, c1, d1⟩
    refine ⟨φ1, l, m1, a1, b1, (PostS.then (rel := rV X.K) b1 d1).mono ?_⟩
    rintro w H2 ⟨φ2, y, m2, e2, a2, b2, c2, d2⟩
    refine ⟨φ2, l, m2, a2, b2, (PostS.then (rel := rA X.K) b2 d2).mono ?_⟩
    rintro us H3 ⟨φ3, ks, m3, e3, a3, b3, c3, d3⟩
    split at d3
    · rename_i n a b
      split at d3
      · rename_i kvs hm
        by_cases hl : kvs.length < 16777216
        · rw [if_pos hl] at d3
          obtain ⟨ad, ha, rfl⟩ := RV.ext e3 c2
          obtain ⟨ws, q1, q2⟩ := a3.obj n ad _ ha hm
          have eus : us = (encT [a, b]).map kV := by
            obtain ⟨u1, r1, rfl, t1, u2, r2, rfl, t2, t3⟩ := c3
            cases t1; cases t2; cases t3
            rfl
          refine ⟨by rw [c3.length]; show 2 ≤ sizeLine; decide, fun p hp => ?_⟩
          obtain ⟨x1, x2, x3⟩ := a3.newT hp c3
          have hne : ad ≠ p := ne_of_none q1 hp
          have q1' : upd H3 p (.tup us) ad = some (.dT ws) := by rw [upd_ne hne]; exact q1
          have hwl : ws.length < sizeLine := by rw [rks_len q2, sl_eq]; exact hl
          have cv : RV X.K (upd H3 p (.tup us)) φ3 x v := RV.ext x1 (RV.ext e3 (RV.ext e2 c1))
          obtain ⟨y1, y2⟩ := x2.setM ha hm rfl q1' (fun _ z => by cases z) (fun _ _ z => by cases z) rfl (o2 := .dct (putD kvs [a, b] x)) (u2 := .dT (putK ws (encT [a, b]) v)) fun e => ⟨_, upd_same, rks_put encT_inj (RV.ext e cv) (RKs.ext (x1.trans e) q2)⟩
          exact ⟨ad, _, rfl, DPut.t q1' (by rw [upd_same, eus]) hwl, d3 φ3 σ _ (x1.trans y1) y2 (b3.ext (x1.trans y1))⟩
        · rw [if_neg hl] at d3; exact d3.elim
      · exact d3.elim
    · exact d3.elim⟩
theorem x_dputK (hr : Room k X.A) (hv : QE X W value sv) (ho : QE X W o sd) (hi : QE X W i sk) (hs : swapsWith value (some (.Subscript o i pos')) pos.line X.env = pure false := by rfl) :
    QS X W (.Assign [.Subscript o i pos'] value pos) (xDPutK sv sd sk) :=
  ⟨ps_imp (ps_dput (by have := hr.units; omega) ho.pe hi.pe hv.pe hs) fun D σ H ⟨φ, l, m, h1, h2, h3⟩ => by
    refine ⟨φ, l, m, h1, h2, (PostS.then (rel := rV X.K) h2 h3).mono ?_⟩
    rintro v H1 ⟨φ1, x, m1, e1, a1, b1, c1, d1⟩
    refine ⟨φ1, l, m1, a1, b1, (PostS.then (rel := rV X.K) b1 d1).mono ?_⟩
    rintro w H2 ⟨φ2, y, m2, e2, a2, b2, c2, d2⟩
    refine ⟨φ2, l, m2, a2, b2, (PostS.then (rel := rV X.K) b2 d2).mono ?_⟩
    rintro u H3 ⟨φ3, ky, m3, e3, a3, b3, c3, d3⟩
    split at d3
    · rename_i n a
      split at d3
      · rename_i kvs hm
        by_cases hl : kvs.length < 16777216
        · rw [if_pos hl] at d3
          obtain ⟨ad, ha, rfl⟩ := RV.ext e3 c2
          obtain ⟨ws, q1, q2⟩ := a3.obj n ad _ ha hm
          cases c3
          have hwl : ws.length < sizeLine := by rw [rks_len q2, sl_eq]; exact hl
          obtain ⟨y1, y2⟩ := a3.setM ha hm rfl q1 (fun _ z => by cases z) (fun _ _ z => by cases z) rfl (o2 := .dck (putD kvs a x)) (u2 := .dK (putK ws (encK a) v)) fun e => ⟨_, upd_same, rks_put encK_inj (RV.ext e (RV.ext e3 (RV.ext e2 c1))) (RKs.ext e q2)⟩
          exact ⟨ad, _, rfl, (show DPut H3 ad (kV (encK a)) v _ from DPut.k q1 hwl), d3 φ3 σ _ y1 y2 (b3.ext y1)⟩
        · rw [if_neg hl] at d3; exact d3.elim
      · exact d3.elim
    · exact d3.elim⟩
/-! a dict's value at a key that is a tuple of any kind -/
def tDGetS (K : PySem.W.Frag) (td ty : TE) : TE := fun σ H Q => td σ H fun x H1 => ty σ H1 fun y H2 => ∃ (a b : Addr) (kvs : List (List Key × V)) (k : List Key) (v : V), x = .ref a ∧ y = .ref b ∧ H2 a = some (.dT kvs) ∧ SqT K H2 b (k.map kV) ∧ valV kvs k = some v ∧ Q v H2
theorem pe_dgetS {td ty : TE} (hu : X.A.units + 1 < cLine) (ho : PE X o td) (hi : PE X i ty) (hs : NoSl i) : PE X (.Subscript o i pos) (tDGetS X.K td ty) := by
  refine ⟨fun pins s σ H Q I h => ?_⟩
  refine subD_of PySem.F.slot_dict_getitem.lookup hs (thn (ho.run pins s σ H _ I h) fun u s1 ⟨x, H1, I1, rx, q1⟩ => thn (hi.run pins s1 σ H1 _ I1 q1) fun iv s2 ⟨y, H2, I2, ry, a, b, kvs, k, v, ex, ey, hd, hk, hv, q2⟩ => ?_)
  subst ex ey
  obtain rfl : u = Value.ref a := rx
  obtain rfl : iv = Value.ref b := ry
  obtain ⟨z, hsm, xs, rel, dd⟩ := dt_of I2.hok hd
  obtain ⟨its, r, ⟨ob, hob, hc, n, hdt⟩, _⟩ := I2.tuple hk
  obtain ⟨od, es, ep, hod, hx, _⟩ := id dd
  obtain ⟨w', hw, rw'⟩ := RelO.some_of (v := v) (o := (atKey xs k).map (·.2)) (by rw [← hv]; exact rel.val k)
  obtain ⟨p, hp, hp2⟩ := Option.map_eq_some_iff.mp hw
  have key : (tupleKind (mixKind X.prog X.w)).is s2.heap k b := ⟨ob, its.toArray, n, hob, hc, hdt, by simpa using items_are r⟩
  refine ⟨⟨od, hod, hx.1⟩, wpAny_getItem_heap (tupleKind_room_in1 hu) key dd hp ?_⟩
  rw [hp2]
  exact ⟨v, H2, I2.tok _, rw', q2⟩
theorem q_dget (hr : Room k X.A) (ho : QE X W o sd) (hi : QE X W i sk) (hs : NoSl i) : QE X W (.Subscript o i pos) (sOp dgetv sd sk) :=
  ⟨pe_imp (pe_dgetS (by have := hr.units; omega) ho.pe hi.pe hs) fun σ H Q h => (two h).mono fun v H1 h1 => Rdg.mono h1 fun w H2 ⟨φ, m, x, y, _, c1, c2, c3, c4⟩ => by
    unfold dgetv at c4
    split at c4
    · rename_i n a b
      split at c4
      · rename_i kvs hm
        cases hg : getD kvs [a, b] with
        | none => rw [hg] at c4; exact c4.elim
        | some z =>
          rw [hg] at c4
          obtain ⟨ad, ha, rfl⟩ := c2
          obtain ⟨ws, q1, q2⟩ := c1.obj n ad _ ha hm
          obtain ⟨bd, us, rfl, t1, t2⟩ := c3
          have eus : us = (encT [a, b]).map kV := by
            obtain ⟨u1, r1, rfl, t3, u2, r2, rfl, t4, t5⟩ := t2
            cases t3; cases t4; cases t5
            rfl
          rw [eus] at t1
          obtain ⟨u, e1, e2⟩ := rks_get encT_inj q2 hg
          exact ⟨ad, bd, ws, _, u, rfl, rfl, q1, t1, e1, c4 φ H2 u Ext.refl c1 e2⟩
      · exact c4.elim
    · exact c4.elim⟩
end
/-! ## sorted of a dict whose keys are pairs -/
def kD : Key → PyData
  | .inl i => .int i
  | .inr x => .str x
def kTD (k : List Key) : PyData := .tuple (k.map kD)
def rSortT : List V → Hp → VK → Prop := fun vs H Q => ∃ (a : Addr) (kvs : List (List Key × V)), vs = [.ref a] ∧ H a = some (.dT kvs) ∧ PySem.W.AllAlike (kvs.map fun p => kTD p.1) ∧ PySem.W.Sortable (kvs.map fun p => kTD p.1) ∧ (∀ p ∈ kvs, (kTD p.1).depth ≤ 60) ∧
  ∀ (zs : List (V × PyData)) (p : Addr), PySem.W.EachIs (fun (kv : List Key × V) (z : V × PyData) => ∃ b, z.1 = .ref b ∧ H b = some (.tup (kv.1.map kV)) ∧ z.2 = kTD kv.1) kvs zs → H p = none → Q (.ref p) (upd H p (.lst ((zs.mergeSort (PySem.W.dataLe false (·.2))).map (·.1))))
theorem each_paired {α β : Type} {R : α → β → Prop} {γ : Type} {S : α → γ → Prop} (f : β → γ) (h : ∀ a b, R a b → S a (f b)) : ∀ {as : List α} {bs : List β}, Paired R as bs → PySem.W.EachIs S as (bs.map f)
  | _, _, .nil => .nil
  | _, _, .cons h1 h2 => .cons (h _ _ h1) (each_paired f h h2)
theorem each_swap {α β γ : Type} {R : α → β → Prop} (f : β → γ) : ∀ {as : List α} {bs : List β}, PySem.W.EachIs R as bs → as.length = bs.length
  | _, _, h => h.length
theorem dp_keys {K : PySem.W.Frag} {H : Hp} : ∀ k : List Key, DpAll K H (k.map kV) (k.map kD)
  | [] => .nil
  | .inl i :: k => .cons (.int i) (dp_keys k)
  | .inr x :: k => .cons (.str x) (dp_keys k)
theorem each_dp {K : PySem.W.Frag} {H : Hp} : ∀ {kvs : List (List Key × V)} {zs : List (V × PyData)}, PySem.W.EachIs (fun (kv : List Key × V) (z : V × PyData) => ∃ b, z.1 = .ref b ∧ H b = some (.tup (kv.1.map kV)) ∧ z.2 = kTD kv.1) kvs zs → (∀ z ∈ zs, Dp K H z.1 z.2) ∧ zs.map (·.2) = kvs.map fun p => kTD p.1
  | _, _, .nil => ⟨fun z hz => (nomatch hz), rfl⟩
  | _, _, .cons (b := z) ⟨b, e1, e2, e3⟩ h2 => by
    obtain ⟨i1, i2⟩ := each_dp (K := K) h2
    refine ⟨fun y hy => ?_, by rw [List.map_cons, List.map_cons, e3, i2]⟩
    rcases List.mem_cons.mp hy with rfl | hy
    · rw [e1, e3]
      exact .tup (.inl (.inl e2)) (dp_keys _)
    · exact i1 y hy
theorem reads_keys {h : Heap} : ∀ {k : List Key} {its : List Value}, Vals (k.map kV) its → ReadsAll h its (k.map kD) []
  | [], _, r => by cases r; exact .nil
  | .inl i :: k, _, r => by
    rw [List.map_cons] at r
    cases r with
    | cons r1 r2 =>
      obtain ⟨t, rfl⟩ := r1
      exact .cons (as := []) (bs := []) (.int i t) (reads_keys r2)
  | .inr x :: k, _, r => by
    rw [List.map_cons] at r
    cases r with
    | cons r1 r2 =>
      obtain ⟨t, rfl⟩ := r1
      exact .cons (as := []) (bs := []) (.str x t) (reads_keys r2)
section
variable {X : Cx}
theorem each_readsT {pins : List (Addr × Obj)} {s : Shared} {σ : L2.St} {H : Hp} (I : Inv X pins σ H s) : ∀ {kvs : List (List Key × V)} {zs : List (V × PyData)} {us : List Value}, PySem.W.EachIs (fun (kv : List Key × V) (z : V × PyData) => ∃ b, z.1 = .ref b ∧ H b = some (.tup (kv.1.map kV)) ∧ z.2 = kTD kv.1) kvs zs →
    Vals (zs.map (·.1)) us → PySem.W.EachIs (fun u (z : V × PyData) => Reads s.heap u z.2 []) us zs
  | _, _, _, .nil, r => by cases r; exact .nil
  | _, _, _, .cons (b := z) ⟨b, e1, e2, e3⟩ h2, r => by
    rw [List.map_cons] at r
    cases r with
    | cons r1 r2 =>
      rw [e1] at r1
      cases r1
      obtain ⟨_, its, rv, o, ho, hc, n, hd⟩ := (show ObjOk X.prog X.w H s.heap b (.tup _) from I.hok b _ e2)
      refine .cons ?_ (each_readsT I h2 r2)
      rw [e3]
      exact .tuple ho hc hd (by simpa using reads_keys rv)
theorem cr_sortT {k : Nat} (hc : X.calm = true) (hr : Room k X.A) : CallR X (.builtin "sorted") rSortT := by
  intro pins s σ H vs us Q I r h
  obtain ⟨d, kvs, rfl, hd, hal, hso, hdp, q⟩ := h
  obtain ⟨u, rfl, rx⟩ := r.one
  cases rx
  obtain ⟨z, hs, ks, pr, o, es, ep, ho, hx, hdt, he, hn⟩ := (show ObjOk X.prog X.w H s.heap d (.dT kvs) from I.hok d _ hd)
  have l1 : es.size = ks.length := size_of_entries he
  have l2 : kvs.length = ks.length := Paired.length pr
  have ez := each_paired (S := fun (kv : List Key × V) (z : V × PyData) => ∃ b, z.1 = .ref b ∧ H b = some (.tup (kv.1.map kV)) ∧ z.2 = kTD kv.1) (fun x : List Key × Addr × Value => (V.ref x.2.1, kTD x.1)) (fun a b hab => ⟨_, rfl, hab.2.1, by rw [hab.1]⟩) pr
  obtain ⟨ed, e2⟩ := each_dp (K := X.K) ez
  refine Calls.call_function_entry PyProof.Rows.kind_sorted PyProof.Rows.plain_sorted PyProof.Rows.entry_sorted (PyProof.Rows.args_sorted1 _) ?_
  unfold Builtin.«sorted»
  refine wpAny_bind (m := checkCount "sorted" 1 1 _) (wpAny_pure ?_)
  refine wpAny_bind (PySem.W.kdu_collect (A := X.A.in1) (kdl_raw hs hx hdt) (I.ok.hd hc) ho (by omega) fun h' tk acc kp it => ?_)
  have ea : acc.toList = ks.map fun x => Value.ref x.2.1 := by
    refine List.ext_getElem? fun j => ?_
    have hl : acc.toList.length = ks.length := by rw [Array.length_toList, it.1]; exact l1
    rw [List.getElem?_map]
    by_cases hj : j < ks.length
    · have h1 : acc.toList[j]? = some acc.toList[j] := List.getElem?_eq_getElem (by omega)
      have h2 : ks[j]? = some ks[j] := List.getElem?_eq_getElem hj
      obtain ⟨en, hen, hv⟩ := it.2 j acc.toList[j] (by rw [← Array.getElem?_toList]; exact h1)
      have h3 := entry_at he j
      rw [hen, h2] at h3
      rw [h1, h2, hv, Option.some.inj h3]
      rfl
    · rw [List.getElem?_eq_none (by omega), List.getElem?_eq_none (by omega)]
      rfl
  have rv : Vals ((ks.map fun x => (V.ref x.2.1, kTD x.1)).map (·.1)) acc.toList := by
    rw [ea, List.map_map]
    clear ea ez ed e2 pr he hn l1 l2
    induction ks with
    | nil => exact .nil
    | cons x ks ih => exact .cons rfl ih
  have I1 : Inv X pins σ H { s with heap := h', toks := tk } := I.kept kp
  have hacc : acc.toList.length ≤ sizeLine := by rw [ea, List.length_map]; omega
  refine wpAny_bind (wpAny_newList ?_ hacc)
  have hoL : (h'.push (seqObj "list" acc.toList.toArray 0)).get? h'.objs.size = some (seqObj "list" acc.toList.toArray 0) := Heap.get?_push_size _ rfl
  show wpAny _ _ _ _ _ { s with heap := h'.push (seqObj "list" acc.toList.toArray 0), toks := tk }
  have er := (each_readsT I1 ez rv).mono fun u (z : V × PyData) q => (⟨[], PyProof.Rows.Reads.keeps (fun b o e => Heap.get?_push_of_some _ e) q, by simp⟩ : ∃ as, Reads (h'.push (seqObj "list" acc.toList.toArray 0)) u z.2 as ∧ h'.objs.size ∉ as)
  have hlen : (ks.map fun x : List Key × Addr × Value => (V.ref x.2.1, kTD x.1)).length ≤ sizeLine := by rw [List.length_map]; omega
  refine wpAny_bind (wpAny_holding (PySem.W.list_sort_data (A := X.A.in1) (s := { s with heap := h'.push (seqObj "list" acc.toList.toArray 0), toks := tk }) (R := fun u (z : V × PyData) => RelV z.1 u) (enc := fun z => z.2) (bs := ks.map fun x => (V.ref x.2.1, kTD x.1)) hoL (each_vals rv) er (by rw [e2]; exact hal) (by rw [e2]; exact hso) hlen (fun z hz => ?_) fun out ho2 hout => ?_))
  · have : z.2 ∈ (ks.map fun x : List Key × Addr × Value => (V.ref x.2.1, kTD x.1)).map (·.2) := List.mem_map.mpr ⟨z, hz, rfl⟩
    rw [e2] at this
    obtain ⟨p, hp, e⟩ := List.mem_map.mp this
    have h1 := hdp p hp
    rw [e] at h1
    have h2 := hr.un
    show X.A.units + 1 + 1 + z.2.depth < cLine
    omega
  · obtain ⟨e', he'⟩ := PyProof.Rows.sortedHeap_at (vs := acc.toList) (out := List.toArray out) hoL
    have hv := vals_each hout
    refine wpAny_pure ⟨_, rfl, .ref h'.objs.size, upd H h'.objs.size (.lst (((ks.map fun x : List Key × Addr × Value => (V.ref x.2.1, kTD x.1)).mergeSort (PySem.W.dataLe false (·.2))).map (·.1))), I1.laid (t' := tk) (fun b u e => ?_) (Nat.le_refl _) ⟨?_, out, e', hv, he'⟩, rfl, q _ _ ez (I1.hok.fresh (Nat.le_refl _))⟩
    · have hb : b < h'.objs.size := Heap.lt_size e
      rw [PyProof.Rows.sortedHeap_old (Nat.ne_of_lt hb) (by rw [PyProof.Rows.size_push']; exact Nat.lt_succ_of_lt hb)]
      exact Heap.get?_push_of_some _ e
    · rw [List.length_map, List.length_mergeSort]
      exact hlen
end
def keyPVs (kvs : List (List Int × PV)) : List PV := kvs.map fun p => .tup (p.1.map .int)
theorem toD_ints {m : MH} {n : Nat} : ∀ k : List Int, allO ((k.map PV.int).map (toD m (n + 1))) = some (k.map PyData.int)
  | [] => rfl
  | i :: k => by
    rw [List.map_cons, List.map_cons]
    show (allO ((k.map PV.int).map (toD m (n + 1)))).map (PyData.int i :: ·) = _
    rw [toD_ints k]
    rfl
theorem toD_key {m : MH} {k : List Int} : toD m 8 (.tup (k.map .int)) = some (.tuple (k.map .int)) := by
  show (allO ((k.map PV.int).map (toD m 7))).map PyData.tuple = _
  rw [toD_ints]
  rfl
theorem dOf_key {m : MH} {k : List Int} : dOf m (.tup (k.map .int)) = kTD (encT k) := by
  unfold dOf kTD encT
  rw [toD_key, List.map_map]
  rfl
open Classical in
noncomputable def sortedTv : List PV → MH → OR
  | [.ref n], m => match m[n]? with
    | some (.dct kvs) => if SortOk m (keyPVs kvs) then some (.ref m.length, m ++ [.lst (sortD m (keyPVs kvs))]) else none
    | _ => none
  | _, _ => none
theorem keys_data {K : PySem.W.Frag} {H : Hp} {φ : List Addr} {m : MH} : ∀ {kvs : List (List Int × PV)} {ws : List (List Key × V)} {zs : List (V × PyData)}, RKs K H φ encT kvs ws →
    PySem.W.EachIs (fun (kv : List Key × V) (z : V × PyData) => ∃ b, z.1 = .ref b ∧ H b = some (.tup (kv.1.map kV)) ∧ z.2 = kTD kv.1) ws zs → PySem.W.EachIs (fun (p : PV × PyData) (z : V × PyData) => RV K H φ p.1 z.1 ∧ p.2 = z.2) ((keyPVs kvs).map fun x => (x, dOf m x)) zs
  | [], _, _, h, e => by cases h; cases e; exact .nil
  | p :: r, _, _, h, e => by
    obtain ⟨v, t, rfl, h2, h3⟩ := h
    cases e with
    | cons e1 e2 =>
      obtain ⟨b, q1, q2, q3⟩ := e1
      refine .cons ⟨?_, ?_⟩ (keys_data h3 e2)
      · rw [q1]
        refine ⟨b, p.1.map V.int, rfl, .inl (.inl ?_), rvs_ints _⟩
        rw [q2, ← kV_ints]
      · rw [q3]
        exact dOf_key
theorem rks_keys {K : PySem.W.Frag} {H : Hp} {φ : List Addr} {κ κ' : Type} {enc : κ → κ'} : ∀ {kvs : List (κ × PV)} {ws : List (κ' × V)}, RKs K H φ enc kvs ws → ws.map (·.1) = kvs.map fun p => enc p.1
  | [], _, h => by cases h; rfl
  | p :: r, _, h => by obtain ⟨v, t, rfl, h2, h3⟩ := h; rw [List.map_cons, List.map_cons, rks_keys h3]
section
variable {X : Cx} {k : Nat}
theorem c_sortedT (hc : X.calm = true) (hr : Room k X.A) : CrQ X (.builtin "sorted") sortedTv := .of fun vs H Q φ m xs h1 h2 h4 => by
  unfold sortedTv at h4
  split at h4
  · obtain ⟨v, rfl, r⟩ := h2.one
    rename_i n
    split at h4
    · rename_i kvs hm
      obtain ⟨a, ha, rfl⟩ := r
      obtain ⟨ws, q1, q2⟩ := h1.obj n a _ ha hm
      by_cases ok : SortOk m (keyPVs kvs)
      · rw [if_pos ok] at h4
        have ek : (ws.map fun p => kTD p.1) = (keyPVs kvs).map (dOf m) := by
          have e : (ws.map fun p => kTD p.1) = (ws.map (·.1)).map kTD := by rw [List.map_map]; rfl
          rw [e, rks_keys q2]
          unfold keyPVs
          rw [List.map_map, List.map_map]
          refine List.map_congr_left fun p _ => ?_
          exact dOf_key.symm
        refine ⟨_, cr_sortT hc hr, a, ws, rfl, q1, by rw [ek]; exact ok.al, by rw [ek]; exact ok.so, fun p hp => ?_, fun zs p hz hn => ?_⟩
        · have : kTD p.1 ∈ ws.map fun p => kTD p.1 := List.mem_map.mpr ⟨p, hp, rfl⟩
          rw [ek] at this
          obtain ⟨x, hx, e⟩ := List.mem_map.mp this
          rw [← e]
          exact ok.dp x hx
        · have e4 := keys_data (m := m) q2 hz
          exact h4.newL h1 (rvs_each (PySem.W.sort_each e4 fun p hp q hq => by
            have h1 := e4.zip p hp
            have h2 := e4.zip q hq
            show PySem.W.dataLe false (fun z : PV × PyData => z.2) p.1 q.1 = PySem.W.dataLe false (fun z : V × PyData => z.2) p.2 q.2
            unfold PySem.W.dataLe PySem.W.sortLe
            dsimp only
            rw [h1.2, h2.2])) p hn
      · rw [if_neg ok] at h4
        exact h4.not.elim
    · exact h4.not.elim
  · exact h4.not.elim
/-! ## sum of a tuple or list of integers -/
def sumv : List PV → MH → OR
  | [.ref n], m => match seq? m n with
    | some xs => (ints? xs).map fun ns => (.int ns.sum, m)
    | none => none
  | [.tup xs], m => (ints? xs).map fun ns => (.int ns.sum, m)
  | _, _ => none
theorem cr_sumT (hc : X.calm = true) : CallR X (.builtin "sum") (fun vs H Q => ∃ (a : Addr) (ns : List Int), vs = [V.ref a] ∧ SqT X.K H a (ns.map V.int) ∧ Q (.int ns.sum) H) := by
  intro pins s σ H vs us Q I r h
  obtain ⟨a, ns, rfl, hs, q⟩ := h
  obtain ⟨its, rv, ht, _⟩ := I.tuple hs
  rw [Vals.ref1 r]
  obtain ⟨xs, e⟩ := rv.ints.allInts.items
  have hn : numsOf (intItems xs).toList = ns := by rw [← e]; exact rv.ints.numsOf
  rw [nums_intItems] at hn
  rw [e] at ht
  refine PySem.W.ktm_sumG (I.ok.hd hc) ht fun h' tk t' hk => ?_
  rw [preSum_eq, List.take_of_length_le (by simp), hn]
  exact ⟨.int _, H, I.kept hk, ⟨_, rfl⟩, q⟩
theorem c_sum (hc : X.calm = true) : CrQ X (.builtin "sum") sumv := .of fun vs H Q φ m xs h1 h2 h4 => by
  unfold sumv at h4
  split at h4
  · obtain ⟨v, rfl, r⟩ := h2.one
    rename_i n
    cases hq : seq? m n with
    | none => rw [hq] at h4; exact h4.not.elim
    | some xs =>
      rw [hq] at h4
      obtain ⟨a, ws, rfl, q1, q2⟩ := h1.seq r hq
      dsimp only at h4
      cases hi : ints? xs with
      | none => rw [hi] at h4; exact h4.not.elim
      | some ns =>
        rw [hi] at h4
        have e := ints_rvs hi q2
        subst e
        exact ⟨_, cr_sum hc, a, ns, rfl, q1, h4.same h1 rfl⟩
  · obtain ⟨v, rfl, r⟩ := h2.one
    rename_i xs
    obtain ⟨a, ws, rfl, q1, q2⟩ := r
    cases hi : ints? xs with
    | none => rw [hi] at h4; exact h4.not.elim
    | some ns =>
      rw [hi] at h4
      have e := ints_rvs hi q2
      subst e
      exact ⟨_, cr_sumT hc, a, ns, rfl, q1, h4.same h1 rfl⟩
  · exact h4.not.elim
end
/-! ## == and != of two dicts of the same entries -/
def datK (m : MH) (kvs : List (Int × PV)) : Prop := ∀ p ∈ kvs, ∃ d, toD m 8 p.2 = some d ∧ SeqAt.shaped d = true ∧ PyData.eqv d d = true
open Classical in
noncomputable def neDv : PV → PV → MH → OR
  | .ref i, .ref j, m => match m[i]?, m[j]? with
    | some (.dck k1), some (.dck k2) => if k1 = k2 ∧ datK m k1 then some (.bl false, m) else none
    | _, _ => none
  | _, _, _ => none
open Classical in
noncomputable def eqDv : PV → PV → MH → OR
  | .ref i, .ref j, m => match m[i]?, m[j]? with
    | some (.dck k1), some (.dck k2) => if k1 = k2 ∧ datK m k1 then some (.bl true, m) else none
    | _, _ => none
  | _, _, _ => none
theorem valueAt_get {κ : Type} [DecidableEq κ] : ∀ {vs : List (κ × Value)} {j : Nat} {k : κ} {v : Value}, (vs.map (·.1)).Nodup → vs[j]? = some (k, v) → valueAt vs k = some v
  | [], _, _, _, _, e => by cases e
  | p :: vs, 0, k, v, nd, e => by
    cases e
    simp [valueAt]
  | p :: vs, j + 1, k, v, nd, e => by
    rw [List.map_cons, List.nodup_cons] at nd
    have e : vs[j]? = some (k, v) := by simpa using e
    have hm : k ∈ vs.map (·.1) := List.mem_map.mpr ⟨_, List.mem_of_getElem? e, rfl⟩
    have hne : ¬ p.1 = k := fun z => nd.1 (z ▸ hm)
    have := valueAt_get nd.2 e
    unfold valueAt at this ⊢
    rw [List.find?_cons_of_neg (by simpa using hne)]
    exact this
/-- entries of two dicts whose data are the same, place by place -/
inductive SameK (K : PySem.W.Frag) (H : Hp) : List (Key × V) → List (Key × V) → Prop
  | nil : SameK K H [] []
  | cons {k : Key} {v w : V} {d : PyData} {a b : List (Key × V)} (h1 : Dp K H v d) (h2 : Dp K H w d) (h3 : SeqAt.shaped d = true) (h4 : PyData.eqv d d = true) (r : SameK K H a b) : SameK K H ((k, v) :: a) ((k, w) :: b)
section
variable {X : Cx}
theorem sameK_hits {pins : List (Addr × Obj)} {s : Shared} {σ : L2.St} {H : Hp} (I : Inv X pins σ H s) (hu : X.A.units + 65 < cLine) {all : List (Key × Value)} (nd : (all.map (·.1)).Nodup) : ∀ {a b : List (Key × V)} {x y : List (Key × Value)} (j : Nat), SameK X.K H a b → KV a x → KV b y → (∀ i, all[j + i]? = y[i]?) → PySem.W.KeqHits X.A.in1 s all x true
  | _, _, _, _, j, .nil, h1, _, _ => by cases h1; exact .nil
  | _, _, _, _, j, .cons (d := d) q1 q2 q3 q4 r, h1, h2, h => by
    cases h1 with
    | cons p1 p2 =>
      rename_i x xs
      cases h2 with
      | cons p3 p4 =>
        rename_i y ys
        obtain ⟨e1, r1⟩ := p1
        obtain ⟨e2, r2⟩ := p3
        obtain ⟨kx, vx⟩ := x
        obtain ⟨ky, vy⟩ := y
        cases e1; cases e2
        have hj := h 0
        have hv := valueAt_get nd (j := j) (by simpa using hj)
        obtain ⟨as, s1⟩ := Dp.reads I d _ _ q1 r1
        obtain ⟨bs, s2⟩ := Dp.reads I d _ _ q2 r2
        have e := PySem.W.keq_at (A := X.A) s1 s2 q3 q3 (show X.A.units + 1 + 64 < cLine by omega)
        rw [q4] at e
        exact PySem.W.KeqHits.hit (e := true) (b := true) hv e (sameK_hits I hu nd (j + 1) r p2 p4 fun i => by
          have := h (i + 1)
          rw [show j + 1 + i = j + (i + 1) by omega]
          simpa using this)
theorem sameK_len {K : PySem.W.Frag} {H : Hp} : ∀ {a b : List (Key × V)}, SameK K H a b → a.length = b.length
  | _, _, .nil => rfl
  | _, _, .cons _ _ _ _ r => by simp [sameK_len r]
theorem op_neK {k : Nat} (hr : Room k X.A) : OpR X (compareOp .NotEq) (fun x y H Q => ∃ a b w1 w2, x = .ref a ∧ y = .ref b ∧ H a = some (.dK w1) ∧ H b = some (.dK w2) ∧ SameK X.K H w1 w2 ∧ Q (.bl false) H) := by
  intro pins s σ H x y v u Q I rx ry h
  obtain ⟨a, b, w1, w2, rfl, rfl, ha, hb, hs, q⟩ := h
  obtain rfl : v = Value.ref a := rx
  obtain rfl : u = Value.ref b := ry
  obtain ⟨z1, m1, v1, k1, d1⟩ := dk_of I.hok ha
  obtain ⟨z2, m2, v2, k2, d2⟩ := dk_of I.hok hb
  have nd : (v2.map (·.1)).Nodup := by obtain ⟨_, _, _, _, _, _, _, _, nd⟩ := id d2; exact nd
  have hl : v1.length = v2.length := by rw [← Paired.length k1, ← Paired.length k2]; exact sameK_len hs
  have hun := hr.un
  refine PySem.W.keq_ne m1 m2 d1 d2 hr.units0 (fun _ => sameK_hits I (by omega) nd 0 hs k1 k2 fun i => by rw [Nat.zero_add]) ?_
  rw [hl]
  simp only [beq_self_eq_true, Bool.and_self, Bool.not_true]
  exact ⟨.bl false, H, I, rfl, q⟩
theorem op_eqK {k : Nat} (hr : Room k X.A) : OpR X (compareOp .Eq) (fun x y H Q => ∃ a b w1 w2, x = .ref a ∧ y = .ref b ∧ H a = some (.dK w1) ∧ H b = some (.dK w2) ∧ SameK X.K H w1 w2 ∧ Q (.bl true) H) := by
  intro pins s σ H x y v u Q I rx ry h
  obtain ⟨a, b, w1, w2, rfl, rfl, ha, hb, hs, q⟩ := h
  obtain rfl : v = Value.ref a := rx
  obtain rfl : u = Value.ref b := ry
  obtain ⟨z1, m1, v1, k1, d1⟩ := dk_of I.hok ha
  obtain ⟨z2, m2, v2, k2, d2⟩ := dk_of I.hok hb
  have nd : (v2.map (·.1)).Nodup := by obtain ⟨_, _, _, _, _, _, _, _, nd⟩ := id d2; exact nd
  have hl : v1.length = v2.length := by rw [← Paired.length k1, ← Paired.length k2]; exact sameK_len hs
  have hun := hr.un
  refine PySem.W.keq_eq m1 m2 d1 d2 hr.units0 (fun _ => sameK_hits I (by omega) nd 0 hs k1 k2 fun i => by rw [Nat.zero_add]) ?_
  rw [hl]
  simp only [beq_self_eq_true, Bool.and_self]
  exact ⟨.bl true, H, I, rfl, q⟩
theorem sameK_of {K : PySem.W.Frag} {H : Hp} {φ : List Addr} {m : MH} (h : RH K H φ m) : ∀ {kvs : List (Int × PV)} {w1 w2 : List (Key × V)}, datK m kvs → RKs K H φ encK kvs w1 → RKs K H φ encK kvs w2 → SameK K H w1 w2
  | [], _, _, _, a, b => by cases a; cases b; exact .nil
  | p :: r, _, _, d, a, b => by
    obtain ⟨v, t, rfl, a2, a3⟩ := a
    obtain ⟨w, u, rfl, b2, b3⟩ := b
    obtain ⟨e, e1, e2, e3⟩ := d p List.mem_cons_self
    exact .cons (dp_of h 8 _ _ e a2 e1) (dp_of h 8 _ _ e b2 e1) e2 e3 (sameK_of h (fun q hq => d q (List.mem_cons_of_mem _ hq)) a3 b3)
theorem o_neD {k : Nat} (hr : Room k X.A) : OpQ X (compareOp .NotEq) neDv := .of_eq fun v w H Q φ m x y h1 h2 h3 h4 => by
  unfold neDv at h4
  split at h4
  · split at h4
    · rename_i i j k1 k2 e1 e2
      by_cases c : k1 = k2 ∧ datK m k1
      · rw [if_pos c] at h4
        obtain ⟨rfl, hd⟩ := c
        obtain ⟨a, ha, rfl⟩ := h2
        obtain ⟨b, hb, rfl⟩ := h3
        obtain ⟨w1, q1, q2⟩ := h1.obj _ a _ ha e1
        obtain ⟨w2, q3, q4⟩ := h1.obj _ b _ hb e2
        exact ⟨_, op_neK hr, a, b, w1, w2, rfl, rfl, q1, q3, sameK_of h1 hd q2 q4, h4.same h1 rfl⟩
      · rw [if_neg c] at h4; exact h4.not.elim
    · exact h4.not.elim
  · exact h4.not.elim
theorem o_eqDk {k : Nat} (hr : Room k X.A) : OpQ X (compareOp .Eq) eqDv := .of_eq fun v w H Q φ m x y h1 h2 h3 h4 => by
  unfold eqDv at h4
  split at h4
  · split at h4
    · rename_i i j k1 k2 e1 e2
      by_cases c : k1 = k2 ∧ datK m k1
      · rw [if_pos c] at h4
        obtain ⟨rfl, hd⟩ := c
        obtain ⟨a, ha, rfl⟩ := h2
        obtain ⟨b, hb, rfl⟩ := h3
        obtain ⟨w1, q1, q2⟩ := h1.obj _ a _ ha e1
        obtain ⟨w2, q3, q4⟩ := h1.obj _ b _ hb e2
        exact ⟨_, op_eqK hr, a, b, w1, w2, rfl, rfl, q1, q3, sameK_of h1 hd q2 q4, h4.same h1 rfl⟩
      · rw [if_neg c] at h4; exact h4.not.elim
    · exact h4.not.elim
  · exact h4.not.elim
end
end SM

set_option Elab.async false
set_option linter.all false
set_option maxRecDepth 100000
set_option maxHeartbeats 2000000
/-! SM17: sorted with a def of the law as its key. -/
namespace SM
open PySem PySem.Spec PyProof.Rows L2
/-! ## inside a built-in that calls a def -/
abbrev inn (X : Cx) : Cx := { X with A := X.A.in1.in1, xe := fun _ _ => False }
section
variable {X : Cx} {pins : List (Addr × Obj)} {σ : L2.St} {H : Hp} {s : Shared}
theorem ok_inn (o : X.Ok) : (inn X).Ok := { mod := o.mod, kind := o.kind, glob := o.glob, blt := o.blt, above := o.above, inj := o.inj, has := o.has, cab := o.cab, hd := o.hd, frames := o.frames, stk := o.stk, exf := o.exf, bs := o.bs, bsz := o.bsz, noex := o.noex, exfs := o.exfs, funs := o.funs, frf := o.frf }
theorem inv_inn (I : Inv X pins σ H s) : Inv (inn X) pins σ H s := { ok := ok_inn I.ok, os := I.os, bare := I.bare, base := I.base, loc := I.loc, cell := I.cell, free := I.free, freeC := I.freeC, pin := I.pin, hok := I.hok, len := I.len }
theorem inv_out (o : X.Ok) (I : Inv (inn X) pins σ H s) : Inv X pins σ H s := { ok := o, os := I.os, bare := I.bare, base := I.base, loc := I.loc, cell := I.cell, free := I.free, freeC := I.freeC, pin := I.pin, hok := I.hok, len := I.len }
end
/-! ## what it gives -/
def keyOf (g : FS) (m : MH) (x : PV) : PV := match g [x] m with
  | .ok k _ => k
  | _ => .non
structure SortKOk (g : FS) (m : MH) (xs : List PV) : Prop where
  kk : ∀ x ∈ xs, ∃ k, g [x] m = .ok k m
  ok : SortOk m (xs.map (keyOf g m))
noncomputable def sortK (g : FS) (m : MH) (xs : List PV) : List PV := ((xs.map fun x => (x, dOf m (keyOf g m x))).mergeSort (PySem.W.dataLe false (·.2))).map (·.1)
theorem sortK_perm {g : FS} {m : MH} {xs : List PV} : (sortK g m xs).Perm xs := by
  have h := (List.mergeSort_perm (xs.map fun x => (x, dOf m (keyOf g m x))) (PySem.W.dataLe false (·.2))).map (·.1)
  rw [List.map_map] at h
  have e : (Prod.fst ∘ fun x => (x, dOf m (keyOf g m x))) = (id : PV → PV) := rfl
  rw [e, List.map_id] at h
  exact h
theorem sortK_pair {g : FS} {m : MH} {xs : List PV} : (sortK g m xs).Pairwise fun a b => PySem.W.dataLe false (fun x => dOf m (keyOf g m x)) a b = true := by
  have h := PySem.W.sort_pairwise (PySem.W.sortLe_total (PyProof.Rows.listOrd PyProof.Rows.itemOrd) false fun z : PV × PyData => PySem.W.keyToks z.2) (xs.map fun x => (x, dOf m (keyOf g m x)))
  unfold sortK
  rw [List.pairwise_map]
  refine List.Pairwise.imp_of_mem ?_ h
  intro a b ha hb h
  have ha := List.mem_map.mp ((List.mergeSort_perm _ _).mem_iff.mp ha)
  have hb := List.mem_map.mp ((List.mergeSort_perm _ _).mem_iff.mp hb)
  obtain ⟨x, _, rfl⟩ := ha
  obtain ⟨y, _, rfl⟩ := hb
  exact h
/-! ## the loop over the keys -/
section
variable {X : Cx} {pins : List (Addr × Obj)} {σ : L2.St} {H : Hp} {s : Shared}
/-- where the keys stand while the def runs, item by item -/
def KInv (X : Cx) (pins : List (Addr × Obj)) (σ : L2.St) (H : Hp) (φ : List Addr) (m : MH) (g : FS) (xs : List PV) (D kS : Addr) (e1 : Nat) (i : Nat) (t : Shared) : Prop :=
  ∃ (H' : Hp) (φ' : List Addr) (kv : List V) (kA : Array Value) (e : Nat), Inv X pins σ H' t ∧ H' kS = none ∧ H' D = none ∧ Ext X.K φ H φ' H' ∧ RH X.K H' φ' m ∧ RVs X.K H' φ' ((xs.take i).map (keyOf g m)) kv ∧ Vals kv kA.toList ∧
    t.heap.get? kS = some (seqObj "list" kA e) ∧ t.heap.get? D = some (seqObj "list" #[] e1)
theorem rvs_dp {K : PySem.W.Frag} {H : Hp} {φ : List Addr} {m : MH} (h : RH K H φ m) : ∀ {xs : List PV} {vs : List V}, RVs K H φ xs vs → (∀ x ∈ xs, ∃ d, toD m 8 x = some d) →
    ∃ zs : List (V × PyData), zs.map (·.1) = vs ∧ zs.map (·.2) = xs.map (dOf m) ∧ ∀ z ∈ zs, Dp K H z.1 z.2 := fun r d => by
  obtain ⟨zs, a, b, c, _⟩ := zip_data h r d
  exact ⟨zs, a, b, c⟩
theorem each_map_snd {h : Heap} : ∀ {zs : List (V × PyData)} {us : List Value}, PySem.W.EachIs (fun u (z : V × PyData) => ∃ as, Reads h u z.2 as) us zs → PySem.W.EachIs (fun u d => ∃ as, Reads h u d as) us (zs.map (·.2))
  | _, _, .nil => .nil
  | _, _, .cons h1 h2 => .cons h1 (each_map_snd h2)
theorem zip_keys {K : PySem.W.Frag} {H : Hp} {φ : List Addr} {m : MH} {g : FS} : ∀ {xs : List PV} {ws : List V}, RVs K H φ xs ws →
    ∃ zs : List (V × PyData), zs.map (·.1) = ws ∧ zs.map (·.2) = (xs.map (keyOf g m)).map (dOf m) ∧ PySem.W.EachIs (fun (p : PV × PyData) (z : V × PyData) => RV K H φ p.1 z.1 ∧ p.2 = z.2) (xs.map fun x => (x, dOf m (keyOf g m x))) zs
  | [], _, r => by cases r; exact ⟨[], rfl, rfl, .nil⟩
  | x :: xs, _, r => by
    obtain ⟨v, vs, rfl, r1, r2⟩ := r
    obtain ⟨zs, e1, e2, e3⟩ := zip_keys (m := m) (g := g) r2
    exact ⟨(v, _) :: zs, by rw [List.map_cons, e1], by rw [List.map_cons, e2]; rfl, .cons ⟨r1, rfl⟩ e3⟩
theorem key_step {k : Nat} {fa : Addr} {fd : FuncData} {ps : List Str} {g : FS} {m : MH} {xs : List PV} {ws : List V} {its : List Value} {φ : List Addr} {D kS : Addr} {e1 : Nat}
    (F : FnOk X.prog X.w X.K X.mg X.base CX0 k fa fd ps (SpQ X.K 1 g)) (hr : Room (k + 2) X.A) (hb : Binds X.K fd ps []) (I : Inv X pins σ H s) (hD : s.heap.objs.size ≤ D) (hS : s.heap.objs.size ≤ kS) (hne : kS ≠ D)
    (hv : RVs X.K H φ xs ws) (rv : Vals ws its) (hL : its.length ≤ sizeLine) (ok : ∀ x ∈ xs, ∃ k, g [x] m = .ok k m) {j : Nat} {u : Value} {t : Shared} (hu : its[j]? = some u) (J : KInv X pins σ H φ m g xs D kS e1 j t) :
    wpAny (model X.prog X.w) X.A.in1.in1 (call (.ref fa) [u]) (fun v t2 => ∃ (kA : Array Value) (e : Nat), t2.heap.get? kS = some (seqObj "list" kA e) ∧ kA.size ≤ its.length ∧ (kA.size = j) ∧
      KInv X pins σ H φ m g xs D kS e1 (j + 1) { t2 with heap := t2.heap.update kS (Obj.mapSeq (·.push v)) }) (fun _ _ => False) t := by
  obtain ⟨H', φ', kv, kA, e, I', nS, nD, ex, hR, hk, hkv, gS, gD⟩ := J
  have hj : j < its.length := (List.getElem?_eq_some_iff.mp hu).1
  have l1 : ws.length = its.length := rv.length
  have l2 : ws.length = xs.length := hv.length
  obtain ⟨x, hx⟩ : ∃ x, xs[j]? = some x := ⟨_, List.getElem?_eq_getElem (by omega)⟩
  obtain ⟨w, hw, rx⟩ := hv.get hx
  obtain ⟨u', hu', rw⟩ := rv.get hw
  obtain rfl : u' = u := by rw [hu] at hu'; exact (Option.some.inj hu').symm
  obtain ⟨ky, hky⟩ := ok x (List.mem_of_getElem? hx)
  have eky : keyOf g m x = ky := by unfold keyOf; rw [hky]
  have hsz : kA.size = j := by
    have a := hk.length
    have b : kv.length = kA.toList.length := hkv.length
    have c : kA.toList.length = kA.size := Array.length_toList
    rw [List.length_map, List.length_take, Nat.min_eq_left (by omega)] at a
    omega
  have I2 : Inv X (pins ++ [(kS, seqObj "list" kA e), (D, seqObj "list" #[] e1)]) σ H' t := I'.pins_of fun p hp => by
    rcases List.mem_append.mp hp with hp | hp
    · exact I'.pin p (List.mem_append_right _ hp)
    · rcases List.mem_cons.mp hp with rfl | hp
      · exact ⟨gS, nS, Nat.ne_of_gt (Nat.lt_of_lt_of_le I.lt hS), I.nofs hS, fun v z => by cases z⟩
      · rcases List.mem_cons.mp hp with rfl | hp
        · exact ⟨gD, nD, Nat.ne_of_gt (Nat.lt_of_lt_of_le I.lt hD), I.nofs hD, fun v z => by cases z⟩
        · cases hp
  refine wpAny_mono (run_fn (X := inn X) (E := E0) (dvs := []) (Q := fun v H2 => ∃ φ2, Ext X.K φ' H' φ2 H2 ∧ RH X.K H2 φ2 m ∧ RV X.K H2 φ2 ky v) F hr.in1.in1 hb .nil pass0 (inv_inn I2) (.cons rw .nil)
    ⟨rfl, φ', m, [x], hR, ⟨w, [], rfl, rx.ext ex, rfl⟩, ?_⟩) (fun v t2 hq => ?_) fun _ _ h => h
  · rw [hky]
    exact fun φ2 H2 v a b c => ⟨φ2, a, b, c⟩
  · obtain ⟨y, H2, I3, ry, φ2, x2, r2, rk⟩ := hq
    have I4 : Inv X (pins ++ [(kS, seqObj "list" kA e), (D, seqObj "list" #[] e1)]) σ H2 t2 := inv_out I.ok I3
    obtain ⟨a1, a2, -⟩ := I4.pin (kS, seqObj "list" kA e) (List.mem_append_right _ (List.mem_append_right _ (.head _)))
    obtain ⟨b1, b2, -⟩ := I4.pin (D, seqObj "list" #[] e1) (List.mem_append_right _ (List.mem_append_right _ (.tail _ (.head _))))
    have sb := Heap.SameBut.update t2.heap kS (Obj.mapSeq (·.push v))
    refine ⟨kA, e, a1, by omega, hsz, H2, φ2, kv ++ [y], kA.push v, _, ?_, a2, b2, ex.trans x2, r2, ?_, ?_, get?_update_seq a1 (·.push v), (sb.2 D hne.symm).trans b1⟩
    · exact I4.unpinned.turnedL (t' := t2.toks) (ch := [kS]) (fun b o hb q => (sb.2 b fun z => hb (by rw [z]; exact .head _)).trans q) fun b hb => by
        obtain rfl : b = kS := by simpa using hb
        exact I.fpOk hS a2
    · rw [List.take_add_one, hx, List.map_append]
      refine RVs.append (RVs.ext x2 hk) ?_
      exact ⟨y, [], rfl, by rw [eky]; exact rk, rfl⟩
    · rw [Array.toList_push]
      exact hkv.append (.cons ry .nil)
theorem key_rest {k : Nat} {fa : Addr} {fd : FuncData} {ps : List Str} {g : FS} {m : MH} {xs : List PV} {ws : List V} {its : List Value} {φ : List Addr} {D kS : Addr} {e1 : Nat} {Q : VK} {t : Shared} {E : Value → Shared → Prop}
    (F : FnOk X.prog X.w X.K X.mg X.base CX0 k fa fd ps (SpQ X.K 1 g)) (hr : Room (k + 2) X.A) (hb : Binds X.K fd ps []) (I : Inv X pins σ H s) (hD : s.heap.objs.size ≤ D) (hS : s.heap.objs.size ≤ kS) (hne : kS ≠ D)
    (hv : RVs X.K H φ xs ws) (rv : Vals ws its) (hL : its.length ≤ sizeLine) (ok : SortKOk g m xs) (J : KInv X pins σ H φ m g xs D kS e1 0 t)
    (q : ∀ φ' H' vs, Ext X.K φ H φ' H' → RH X.K H' φ' m → RVs X.K H' φ' (sortK g m xs) vs → H' D = none → Q (.ref D) (upd H' D (.lst vs))) :
    wpAny (model X.prog X.w) X.A.in1.in1 (ksk_rest D (.ref fa) false its.toArray e1 (.ref kS)) (fun f t2 => f = .done (.ret .none) ∧ EP X pins σ Q (.ref D) t2) E t := by
  unfold ksk_rest
  refine wpAny_bind (wpAny_rule ?_)
  first
    | rw [List.forIn_toArray]
    | (rw [← Array.forIn_toList]; simp only [List.toList_toArray])
  refine wpAny_bind (ksk_fold (KInv X pins σ H φ m g xs D kS e1) its 0 t J (fun j u t1 hu J1 => ?_) fun t1 J1 => ?_)
  · rw [Nat.zero_add] at J1 ⊢
    refine wpAny_bind (wpAny_attempt (wpAny_mono (key_step F hr hb I hD hS hne hv rv hL ok.kk hu J1) (fun v t2 hq => ?_) fun _ _ h => h.elim))
    obtain ⟨kA, e, a1, a2, a3, a4⟩ := hq
    try dsimp only
    refine wpAny_bind (listUpdate_at a1 rfl ?_ (Nat.le_trans a2 hL) (Nat.le_trans (Nat.le_of_eq (Array.size_push ..)) (Nat.succ_le_succ (Nat.le_trans a2 hL))))
    exact wpAny_pure ⟨rfl, a4⟩
  · obtain ⟨H', φ', kv, kA, e, I', nS, nD, ex, hR, hk, hkv, gS, gD⟩ := J1
    have l1 : ws.length = its.length := rv.length
    have l2 : ws.length = xs.length := hv.length
    rw [Nat.zero_add, List.take_of_length_le (by omega)] at hk
    obtain ⟨ks, k1, k2, k3⟩ := rvs_dp hR hk ok.ok.rd
    subst k1
    have hkr := each_map_snd (each_reads I' hkv k3)
    rw [k2] at hkr
    have hsz : kA.size = its.length := by
      have a := hk.length
      have b : (ks.map (·.1)).length = kA.toList.length := hkv.length
      have c : kA.toList.length = kA.size := Array.length_toList
      simp only [List.length_map] at a b l1 l2
      omega
    obtain ⟨zs, z1, z2, z4⟩ := zip_keys (m := m) (g := g) (RVs.ext ex hv)
    subst z1
    try dsimp only
    refine wpAny_bind (listItems_at gS rfl ?_)
    have hkS : (t1.heap.hide kS).get? kS = none := Heap.hide_self _ _
    have kp : PySem.W.KeepsBut D (t1.heap.hide kS) t1.heap := fun b o _ e => Heap.of_hide e
    refine PySem.W.keyH_end (κ := PySem.W.dataKind t1.heap ((xs.map (keyOf g m)).map (dOf m))) (h₁ := t1.heap.hide kS) kp hkS gS gD hne (PySem.W.SortsAt.data hkr ok.ok.al ok.ok.so fun d hd => ?_) hsz hL fun h3 tk c k3' n3 => ⟨rfl, ?_⟩
    · obtain ⟨y, hy, rfl⟩ := List.mem_map.mp hd
      have a := ok.ok.dp y hy
      have b := hr.units
      show X.A.units + 1 + 1 + _ < cLine
      omega
    · have ko : PySem.W.KeyedOut false (zs.map (·.2)) its (PySem.W.sortVals (PySem.W.dataKind t1.heap ((xs.map (keyOf g m)).map (dOf m))) false kA.toList its) := ⟨t1.heap, kA.toList, by rw [z2]; exact ok.ok.al, by rw [z2], by rw [z2]; exact hkr⟩
      have ho := vals_each (PySem.W.keyedOut_each (fun z : V × PyData => z.2) ko (each_vals rv))
      have hrv : RVs X.K H' φ' (sortK g m xs) ((zs.mergeSort (PySem.W.dataLe false (·.2))).map (·.1)) := rvs_each (PySem.W.sort_each z4 fun p hp q hq => by
        have h1 := z4.zip p hp
        have h2 := z4.zip q hq
        show PySem.W.dataLe false (fun z : PV × PyData => z.2) p.1 q.1 = PySem.W.dataLe false (fun z : V × PyData => z.2) p.2 q.2
        unfold PySem.W.dataLe PySem.W.sortLe
        dsimp only
        rw [h1.2, h2.2])
      have I5 : Inv X pins σ H' { t1 with heap := h3, toks := tk } := I'.turnedL (t' := tk) (ch := [kS, D]) (fun b o hb e => k3' b o (fun z => hb (by rw [z]; exact .tail _ (.head _))) (by rw [Heap.hide_ne _ (fun z => hb (by rw [z]; exact .head _))]; exact e)) fun b hb => by
        rcases List.mem_cons.mp hb with rfl | hb
        · exact I.fpOk hS nS
        · obtain rfl : b = D := by simpa using hb
          exact I.fpOk hD nD
      refine ⟨.ref D, upd H' D (.lst ((zs.mergeSort (PySem.W.dataLe false (·.2))).map (·.1))), I5.take (t' := tk) (it := D) (fun b o _ e => e) (I.fpOk hD nD) ⟨?_, _, c, ho, n3⟩, rfl, q φ' H' _ ex hR hrv nD⟩
      rw [ho.length]
      have : (PySem.W.sortVals (PySem.W.dataKind t1.heap ((xs.map (keyOf g m)).map (dOf m))) false kA.toList its).length = its.length := PySem.W.sortVals_length false (by rw [Array.length_toList]; exact hsz)
      rw [this]
      exact hL
/-- sorted(xs, key=f) -/
theorem run_sortK {k : Nat} {fa a : Addr} {fd : FuncData} {ps : List Str} {g : FS} {m : MH} {xs : List PV} {ws : List V} {φ : List Addr} {Q : VK}
    (F : FnOk X.prog X.w X.K X.mg X.base CX0 k fa fd ps (SpQ X.K 1 g)) (hr : Room (k + 2) X.A) (hb : Binds X.K fd ps []) (I : Inv X pins σ H s) (hR : RH X.K H φ m) (hs : SqL X.K H a ws) (hv : RVs X.K H φ xs ws) (ok : SortKOk g m xs)
    (q : ∀ φ' H' vs p, Ext X.K φ H φ' H' → RH X.K H' φ' m → RVs X.K H' φ' (sortK g m xs) vs → H' p = none → Q (.ref p) (upd H' p (.lst vs))) :
    wpAny (model X.prog X.w) X.A (call (.builtin "sorted") [.ref a] [(Str.ofString "key", .ref fa)]) (EP X pins σ Q) X.xe s := by
  obtain ⟨its, rv, hl, hz⟩ := I.list hs
  have hil : its.length ≤ sizeLine := by rw [← rv.length]; exact hz
  refine PySem.W.sorted_of_sort hl.isList hil (ksk_s1 _ _) (fun _ => ksk_l1 _ _) fun E' => ?_
  rw [ksk_t1]
  have h1 := PySem.W.copyHeap_at s.heap its
  obtain ⟨e1, ho1⟩ : ∃ e1, ((PySem.W.copyHeap s.heap its).update (s.heap.objs.size + 1) (Obj.mapSeq fun _ => (#[] : Array Value))).get? (s.heap.objs.size + 1) = some (seqObj "list" #[] e1) := ⟨_, get?_update_seq h1 fun _ => #[]⟩
  unfold ksk_tree
  refine wpAny_bind (listItems_at h1 rfl (wpAny_bind (listUpdate_at h1 rfl ?_ (by rw [List.size_toArray]; exact hil) (Nat.zero_le _))))
  refine wpAny_bind (seqEpoch_at ho1 rfl (wpAny_bind (wpAny_newTuple ?_ (by show its.length ≤ _; exact hil))))
  refine wpAny_bind (wpAny_newList ?_ (Nat.zero_le _))
  refine wpAny_holding ?_
  have hcs : s.heap.objs.size + 1 < (PySem.W.copyHeap s.heap its).objs.size := Heap.lt_size h1
  have hus : ((PySem.W.copyHeap s.heap its).update (s.heap.objs.size + 1) (Obj.mapSeq fun _ => (#[] : Array Value))).objs.size = (PySem.W.copyHeap s.heap its).objs.size := Heap.size_update ..
  have hps : (((PySem.W.copyHeap s.heap its).update (s.heap.objs.size + 1) (Obj.mapSeq fun _ => (#[] : Array Value))).push (seqObj "tuple" its.toArray 0)).objs.size = (PySem.W.copyHeap s.heap its).objs.size + 1 := by rw [size_push', hus]
  refine key_rest F hr hb I (Nat.le_succ _) (kS := _) (by show s.heap.objs.size ≤ (Heap.push _ (seqObj "tuple" its.toArray 0)).objs.size; rw [hps]; omega) (by show (Heap.push _ (seqObj "tuple" its.toArray 0)).objs.size ≠ _; rw [hps]; omega) hv rv hil ok
    ⟨H, φ, [], #[], 0, I.kept (t' := s.toks) (fun b o e => PySem.W.sorting_copy_old e), I.hok.fresh ?_, I.hok.fresh (Nat.le_succ _), .refl, hR, rfl, .nil, Heap.get?_push_size _ rfl, Heap.get?_push_of_some _ (Heap.get?_push_of_some _ ho1)⟩ fun φ' H' vs a b c d => q φ' H' vs _ a b c d
  show s.heap.objs.size ≤ (Heap.push _ (seqObj "tuple" its.toArray 0)).objs.size
  rw [hps]
  omega
end
open Classical in
/-- sorted(xs, key=f) over the reckoning's values -/
noncomputable def sortKv (g : FS) : List PV → MH → OR
  | [.ref n], m => match seq? m n with
    | some xs => if SortKOk g m xs then some (.ref m.length, m ++ [.lst (sortK g m xs)]) else none
    | none => none
  | _, _ => none
section
variable {X : Cx} {W : XM} {e : Expr} {x : Str} {p pf kp pos : Pos} {k j : Nat} {g : FS} {ses : SA}
theorem cr_sortK {fa : Addr} {fd : FuncData} {ps : List Str} (F : FnOk X.prog X.w X.K X.mg X.base CX0 k fa fd ps (SpQ X.K 1 g)) (hr : Room (k + 2) X.A) (hb : Binds X.K fd ps []) :
    CallRK X (.builtin "sorted") [Str.ofString "key"] fun vs zs H Q => zs = [.ref fa] ∧ ∃ φ m xs, RH X.K H φ m ∧ RVs X.K H φ xs vs ∧ PostO X.K φ H (sortKv g xs m) Q := by
  intro pins s σ H vs zs us ws Q I r rz ⟨ez, φ, m, xs, h1, h2, h4⟩
  subst ez
  unfold sortKv at h4
  split at h4
  · obtain ⟨v, rfl, rx⟩ := h2.one
    rename_i n
    cases hq : seq? m n with
    | none => rw [hq] at h4; exact h4.not.elim
    | some xs =>
      rw [hq] at h4
      obtain ⟨a, vs, rfl, q1, q2⟩ := h1.seq rx hq
      dsimp only at h4
      by_cases ok : SortKOk g m xs
      · rw [if_pos ok] at h4
        obtain rfl := Vals.ref1 r
        obtain rfl := Vals.ref1 rz
        refine run_sortK F hr hb I h1 q1 q2 ok fun φ' H' vs p a b c d => ?_
        obtain ⟨y, m', e0, q⟩ := h4
        cases e0
        obtain ⟨x1, x2, x3⟩ := b.newL d c
        exact q _ _ _ (a.trans x1) x2 x3
      · rw [if_neg ok] at h4
        exact h4.not.elim
  · exact h4.not.elim
theorem q_sortK (C : Cal X.prog X.w X.K X.mg X.base x 1 k g) (hr : Room j X.A) (hk : k + 2 ≤ j) (hg : Gl X (Str.ofString "sorted")) (hgx : Gl X x) (hm : X.mg (Str.ofString "sorted") = none) (ha : QA X W [e] ses)
    (hv : bootBuiltins (Str.ofString "sorted") = some (.builtin "sorted") := by rfl) (hdb : (x == ("__debug__" : Str)) = false := by decide) (hn : (Str.ofString "sorted") ≠ "__name__" := by decide) (hd2 : (Str.ofString "sorted" == ("__debug__" : Str)) = false := by decide)
    (he : backTo pos (starEach [e] X.env) = (false, eval e X.env) :: backTo pos (starEach [] X.env) := by rfl) (hpl : (backTo pos (starEach [e] X.env)).any (·.1) = false := by rfl)
    (hall : (backToKw pos (keywordEach [⟨some (Str.ofString "key"), .Name x pf, kp⟩] X.env)).all (·.1.isSome) = true := by rfl) (hnone : (backToKw pos (keywordEach [⟨some (Str.ofString "key"), .Name x pf, kp⟩] X.env)).any (·.1.isNone) = false := by rfl)
    (hks : (backToKw pos (keywordEach [⟨some (Str.ofString "key"), .Name x pf, kp⟩] X.env)).filterMap (·.1) = [Str.ofString "key"] := by rfl) :
    QE X W (.Call (.Name (Str.ofString "sorted") p) [e] [⟨some (Str.ofString "key"), .Name x pf, kp⟩] pos) (sCall (sortKv g) ses) := by
  obtain ⟨fa, fd, ps, hps, F, hmx, hkp, hb⟩ := C
  exact ⟨pe_imp (pe_callBK (cr_sortK F (hr.mono hk) hb) hg hm hv ha.pa (pk_cons (pe_glob hgx hmx (v := .ref fa) rfl hdb) pk_nil) hn hd2 he hpl hall hnone hks) fun σ H Q q => (oneA q).mono fun vs H1 ⟨φ, m, xs, _, c1, c2, c3⟩ => ⟨rfl, φ, m, xs, c1, c2, .of c3⟩⟩
end
end SM

set_option Elab.async false
set_option linter.all false
set_option maxRecDepth 100000
set_option maxHeartbeats 4000000
namespace Lw
open PySem PySem.Spec PyProof.Rows L2 SM
def clsBody : Stmt → List Stmt
  | .ClassDef _ _ _ b _ _ _ _ _ _ _ => b
  | _ => []
def topS (i : Nat) : Stmt := PySem.Challenge.pw_homingtrue_k36_who_can_be_ahead.main.body.getD i (.Pass ⟨0, 0, 0, 0⟩)
/-! ### _law_cell -/
abbrev s_law_cell : Stmt := topS 41
theorem sc_law_cell : FnScope ["script", "k"] ["script", "k"] (defScope s_law_cell) := ⟨rfl, rfl, rfl, by decide +kernel, rfl, by decide +kernel, by decide +kernel⟩
noncomputable def b_law_cell : SS := (xSeq (xIf (tBool (sOp ltv (sVar 1) (sCall lenv (aCons (sVar 0) aNil)))) (xRet (sOp ixv (sVar 0) (sVar 1))) xNil) (xRet (sC (.int 0))))
noncomputable def f_law_cell : FS := fnS 2 2 b_law_cell
/-! ### _law_fraction -/
abbrev s_law_fraction : Stmt := topS 55
theorem sc_law_fraction : FnScope ["p", "q", "k"] ["p", "q"] (defScope s_law_fraction) := ⟨rfl, rfl, rfl, by decide +kernel, rfl, by decide +kernel, by decide +kernel⟩
noncomputable def law_fraction_l1 : SS := (xSeq (xSet 0 (sOp fdivv (sVar 0) (sVar 2))) (xSet 1 (sOp fdivv (sVar 1) (sVar 2))))
noncomputable def law_fraction_l2 : SS := (xWhile (tAndS (tBool (sOp eqv (sOp modv (sCall intv (aCons (sVar 0) aNil)) (sVar 2)) (sC (.int 0)))) (tAndS (tBool (sOp eqv (sOp modv (sCall intv (aCons (sVar 1) aNil)) (sVar 2)) (sC (.int 0)))) (tBool (sOp nev (sVar 0) (sC (.int 0)))))) (law_fraction_l1))
noncomputable def b_law_fraction : SS := (xSeq (xFor (iRng2S (sC (.int 2)) (sOp addv (sC (.int 1)) (sCall max2v (aCons (sC (.int 2)) (aCons (sCall min2v (aCons (sCall absv (aCons (sVar 0) aNil)) (aCons (sCall absv (aCons (sVar 1) aNil)) aNil))) aNil))))) (gNm 2) (law_fraction_l2)) (xSeq (xIf (tBool (sOp eqv (sVar 0) (sC (.int 0)))) (xRet (sTup (aCons (sC (.int 0)) (aCons (sC (.int 1)) aNil)))) xNil) (xRet (sTup (aCons (sVar 0) (aCons (sVar 1) aNil))))))
noncomputable def f_law_fraction : FS := fnS 2 3 b_law_fraction
/-! ### _law_digits -/
abbrev s_law_digits : Stmt := topS 42
theorem sc_law_digits : FnScope ["cell", "k", "most", "digits", "turn", "seed"] ["cell", "k", "most"] (defScope s_law_digits) := ⟨rfl, rfl, rfl, by decide +kernel, rfl, by decide +kernel, by decide +kernel⟩
noncomputable def law_digits_l1 : SS := (xIf (tAndS (tBool (sOp gtv (sVar 0) (sC (.int 0)))) (tBool (sOp ltv (sCall lenv (aCons (sVar 3) aNil)) (sVar 2)))) (xSeq (xExpr (sMeth isLst appendv (sVar 3) (aCons (sOp modv (sCall intv (aCons (sVar 0) aNil)) (sC (.int 1000))) aNil))) (xSet 0 (sOp fdivv (sVar 0) (sC (.int 1000))))) xNil)
noncomputable def law_digits_l2 : SS := (xSeq (xSet 5 (sOp modv (sCall intv (aCons (sOp addv (sOp addv (sOp mulvS (sVar 5) (sC (.int 16807))) (sOp mulvS (sC (.int 7)) (sVar 4))) (sC (.int 1))) aNil)) (sC (.int 2147483647)))) (xExpr (sMeth isLst appendv (sVar 3) (aCons (sOp modv (sCall intv (aCons (sOp fdivv (sVar 5) (sC (.int 997))) aNil)) (sC (.int 1000))) aNil))))
noncomputable def b_law_digits : SS := (xSeq (xSet 3 (sLst aNil)) (xSeq (xIf (tBool (sOp ltv (sVar 0) (sC (.int 0)))) (xSet 0 (sOp subv (sUn negv (sC (.int 1))) (sVar 0))) xNil) (xSeq (xIf (tBool (sOp gev (sVar 0) (sOp powv (sC (.int 10)) (sC (.int 18))))) (xFor (iRng1S (sC (.int 60))) (gNm 4) (law_digits_l1)) (xSeq (xSet 5 (sOp modv (sCall intv (aCons (sOp addv (sOp addv (sOp mulvS (sVar 0) (sC (.int 48271))) (sOp mulvS (sVar 1) (sC (.int 69621)))) (sC (.int 11))) aNil)) (sC (.int 2147483647)))) (xFor (iRng1S (sVar 2)) (gNm 4) (law_digits_l2)))) (xRet (sVar 3)))))
noncomputable def f_law_digits : FS := fnS 3 6 b_law_digits
/-! ### _law_padded -/
abbrev s_law_padded : Stmt := topS 43
theorem sc_law_padded : FnScope ["cell", "k", "d", "turn"] ["cell", "k"] (defScope s_law_padded) := ⟨rfl, rfl, rfl, by decide +kernel, rfl, by decide +kernel, by decide +kernel⟩
noncomputable def law_padded_l1 : SS := (xExpr (sMeth isLst appendv (sVar 2) (aCons (sVar 3) aNil)))
noncomputable def b_law_padded : SS := (xSeq (xSet 2 (sCallU 3 f_law_digits (aCons (sVar 0) (aCons (sVar 1) (aCons (sC (.int 20)) aNil))))) (xSeq (xFor (iRng1S (sC (.int 20))) (gNm 3) (law_padded_l1)) (xRet (sVar 2))))
noncomputable def f_law_padded : FS := fnS 2 4 b_law_padded
/-! ### _law_clocks -/
abbrev s_law_clocks : Stmt := topS 45
theorem sc_law_clocks : FnScope ["script", "club", "found", "race", "loft", "d", "begin", "end"] ["script", "club"] (defScope s_law_clocks) := ⟨rfl, rfl, rfl, by decide +kernel, rfl, by decide +kernel, by decide +kernel⟩
noncomputable def law_clocks_l1 : SS := (xSeq (xSet 5 (sCallU 2 f_law_padded (aCons (sCallU 2 f_law_cell (aCons (sVar 0) (aCons (sOp addv (sC (.int 1)) (sVar 3)) aNil))) (aCons (sOp addv (sC (.int 1)) (sVar 3)) aNil)))) (xSeq (xSet 6 (sOp subv (sOp ixv (sOp ixv (sOp ixv (sVar 1) (sC (.int 2))) (sVar 3)) (sC (.int 3))) (sOp modv (sCall intv (aCons (sOp ixv (sVar 5) (sVar 4)) aNil)) (sC (.int 30))))) (xSeq (xSet 7 (sOp addv (sOp ixv (sOp ixv (sOp ixv (sVar 1) (sC (.int 2))) (sVar 3)) (sC (.int 4))) (sOp modv (sCall intv (aCons (sOp ixv (sVar 5) (sOp addv (sC (.int 3)) (sVar 4))) aNil)) (sC (.int 20))))) (xExpr (sMeth isLst appendv (sVar 2) (aCons (sTup (aCons (sVar 3) (aCons (sVar 4) (aCons (sVar 6) (aCons (sVar 7) (aCons (sCall max2v (aCons (sOp addv (sVar 6) (sC (.int 1))) (aCons (sOp addv (sOp subv (sVar 7) (sC (.int 4))) (sOp modv (sCall intv (aCons (sOp ixv (sVar 5) (sOp addv (sC (.int 6)) (sVar 4))) aNil)) (sC (.int 9)))) aNil))) aNil)))))) aNil))))))
noncomputable def law_clocks_l2 : SS := (xFor (iRng1S (sCall lenv (aCons (sOp ixv (sVar 1) (sC (.int 0))) aNil))) (gNm 4) (law_clocks_l1))
noncomputable def b_law_clocks : SS := (xSeq (xSet 2 (sLst aNil)) (xSeq (xFor (iRng1S (sCall lenv (aCons (sOp ixv (sVar 1) (sC (.int 2))) aNil))) (gNm 3) (law_clocks_l2)) (xRet (sVar 2))))
noncomputable def f_law_clocks : FS := fnS 2 8 b_law_clocks
/-! ### _law_club -/
abbrev s_law_club : Stmt := topS 44
theorem sc_law_club : FnScope ["script", "d", "lofts", "k", "birds", "races", "start", "close", "dusk"] ["script"] (defScope s_law_club) := ⟨rfl, rfl, rfl, by decide +kernel, rfl, by decide +kernel, by decide +kernel⟩
noncomputable def law_club_l1 : SS := (xExpr (sMeth isLst appendv (sVar 2) (aCons (sTup (aCons (sOp ixv (sC (.str [97, 98, 99])) (sVar 3)) (aCons (sOp modv (sCall intv (aCons (sOp ixv (sVar 1) (sOp addv (sC (.int 1)) (sVar 3))) aNil)) (sC (.int 4))) (aCons (sOp modv (sCall intv (aCons (sOp ixv (sVar 1) (sOp addv (sC (.int 4)) (sVar 3))) aNil)) (sC (.int 3))) aNil)))) aNil)))
noncomputable def law_club_l2 : SS := (xExpr (sMeth isLst appendv (sVar 4) (aCons (sTup (aCons (sOp addv (sOp addv (sOp mulvS (sC (.int 9)) (sVar 3)) (sC (.int 1))) (sOp modv (sCall intv (aCons (sOp ixv (sVar 1) (sOp addv (sC (.int 8)) (sVar 3))) aNil)) (sC (.int 9)))) (aCons (sOp modv (sCall intv (aCons (sOp fdivv (sOp ixv (sVar 1) (sOp addv (sC (.int 8)) (sVar 3))) (sC (.int 9))) aNil)) (sCall lenv (aCons (sVar 2) aNil))) (aCons (sOp addv (sC (.int 20)) (sVar 3)) aNil)))) aNil)))
noncomputable def law_club_l3 : SS := (xSeq (xSet 6 (sOp addv (sC (.int 300)) (sOp modv (sCall intv (aCons (sOp ixv (sVar 1) (sOp addv (sC (.int 14)) (sVar 3))) aNil)) (sC (.int 200))))) (xSeq (xSet 7 (sOp addv (sOp addv (sVar 6) (sC (.int 1))) (sOp modv (sCall intv (aCons (sOp ixv (sVar 1) (sOp addv (sC (.int 16)) (sVar 3))) aNil)) (sOp ixv (sLst (aCons (sC (.int 90)) (aCons (sC (.int 700)) (aCons (sC (.int 2000)) aNil)))) (sOp modv (sCall intv (aCons (sOp ixv (sVar 1) (sC (.int 18))) aNil)) (sC (.int 3))))))) (xSeq (xSet 8 (sOp ixv (sLst (aCons (sOp subv (sVar 6) (sC (.int 20))) (aCons (sOp addv (sVar 6) (sC (.int 30))) (aCons (sC (.int 1200)) (aCons (sC (.int 0)) aNil))))) (sOp modv (sCall intv (aCons (sOp ixv (sVar 1) (sC (.int 19))) aNil)) (sC (.int 4))))) (xExpr (sMeth isLst appendv (sVar 5) (aCons (sTup (aCons (sOp ixv (sC (.str [112, 113])) (sVar 3)) (aCons (sOp addv (sC (.int 10)) (sOp modv (sCall intv (aCons (sOp ixv (sVar 1) (sOp addv (sC (.int 16)) (sVar 3))) aNil)) (sC (.int 5)))) (aCons (sOp addv (sC (.int 20)) (sVar 3)) (aCons (sVar 6) (aCons (sVar 7) (aCons (sVar 8) (aCons (sOp modv (sOp addv (sVar 8) (sOp modv (sCall intv (aCons (sOp ixv (sVar 1) (sC (.int 18))) aNil)) (sC (.int 700)))) (sC (.int 1440))) aNil)))))))) aNil))))))
noncomputable def b_law_club : SS := (xSeq (xSet 1 (sCallU 2 f_law_padded (aCons (sCallU 2 f_law_cell (aCons (sVar 0) (aCons (sC (.int 0)) aNil))) (aCons (sC (.int 0)) aNil)))) (xSeq (xSet 2 (sLst aNil)) (xSeq (xFor (iRng1S (sOp addv (sC (.int 1)) (sOp modv (sCall intv (aCons (sOp ixv (sVar 1) (sC (.int 0))) aNil)) (sC (.int 3))))) (gNm 3) (law_club_l1)) (xSeq (xSet 4 (sLst aNil)) (xSeq (xFor (iRng1S (sOp addv (sC (.int 1)) (sOp modv (sCall intv (aCons (sOp ixv (sVar 1) (sC (.int 7))) aNil)) (sC (.int 5))))) (gNm 3) (law_club_l2)) (xSeq (xSet 5 (sLst aNil)) (xSeq (xFor (iRng1S (sOp addv (sC (.int 1)) (sOp modv (sCall intv (aCons (sOp ixv (sVar 1) (sC (.int 13))) aNil)) (sC (.int 2))))) (gNm 3) (law_club_l3)) (xRet (sTup (aCons (sCall tuplev (aCons (sVar 2) aNil)) (aCons (sCall tuplev (aCons (sVar 4) aNil)) (aCons (sCall tuplev (aCons (sVar 5) aNil)) aNil))))))))))))
noncomputable def f_law_club : FS := fnS 1 9 b_law_club
/-! ### _law_clock_for -/
abbrev s_law_clock_for : Stmt := topS 47
theorem sc_law_clock_for : FnScope ["club", "clocks", "race", "ring", "loft", "bird", "clock"] ["club", "clocks", "race", "ring"] (defScope s_law_clock_for) := ⟨rfl, rfl, rfl, by decide +kernel, rfl, by decide +kernel, by decide +kernel⟩
noncomputable def b_law_clock_for : SS := (xSeq (xSet 4 (sOp ixv (sLc (iSeq (sOp ixv (sVar 0) (sC (.int 1)))) (gNm 5) (tBool (sOp eqv (sOp ixv (sVar 5) (sC (.int 0))) (sVar 3))) (sOp ixv (sVar 5) (sC (.int 1))) [5]) (sC (.int 0)))) (xRet (sOp ixv (sLc (iSeq (sVar 1)) (gNm 6) (tBool (sOp eqv (sSl (sVar 6) oNone (oSome (sC (.int 2)))) (sTup (aCons (sVar 2) (aCons (sVar 4) aNil))))) (sVar 6) [6]) (sUn negv (sC (.int 1))))))
noncomputable def f_law_clock_for : FS := fnS 4 7 b_law_clock_for
/-! ### _law_reading -/
abbrev s_law_reading : Stmt := topS 46
theorem sc_law_reading : FnScope ["clock", "digit"] ["clock", "digit"] (defScope s_law_reading) := ⟨rfl, rfl, rfl, by decide +kernel, rfl, by decide +kernel, by decide +kernel⟩
noncomputable def b_law_reading : SS := (xRet (sOp addv (sOp ixv (sVar 0) (sC (.int 2))) (sOp modv (sCall intv (aCons (sOp mulvS (sVar 1) (sC (.int 37))) aNil)) (sOp addv (sOp subv (sOp ixv (sVar 0) (sC (.int 4))) (sOp ixv (sVar 0) (sC (.int 2)))) (sC (.int 1))))))
noncomputable def f_law_reading : FS := fnS 2 2 b_law_reading
/-! ### _law_slips -/
abbrev s_law_slips : Stmt := topS 48
theorem sc_law_slips : FnScope ["script", "club", "clocks", "found", "k", "d", "race", "ring", "reading"] ["script", "club", "clocks"] (defScope s_law_slips) := ⟨rfl, rfl, rfl, by decide +kernel, rfl, by decide +kernel, by decide +kernel⟩
noncomputable def law_slips_l1 : SS := (xSeq (xSet 5 (sCallU 2 f_law_padded (aCons (sCallU 2 f_law_cell (aCons (sVar 0) (aCons (sVar 4) aNil))) (aCons (sVar 4) aNil)))) (xSeq (xSet 6 (sOp modv (sCall intv (aCons (sOp ixv (sVar 5) (sC (.int 0))) aNil)) (sCall lenv (aCons (sOp ixv (sVar 1) (sC (.int 2))) aNil)))) (xSeq (xSet 7 (sOp ixv (sOp ixv (sOp ixv (sVar 1) (sC (.int 1))) (sOp modv (sCall intv (aCons (sOp ixv (sVar 5) (sC (.int 1))) aNil)) (sCall lenv (aCons (sOp ixv (sVar 1) (sC (.int 1))) aNil)))) (sC (.int 0)))) (xSeq (xSet 8 (sC .non)) (xSeq (xIf (tBool (sOp gtv (sOp modv (sCall intv (aCons (sOp ixv (sVar 5) (sC (.int 2))) aNil)) (sC (.int 6))) (sC (.int 0)))) (xSet 8 (sCallU 2 f_law_reading (aCons (sCallU 4 f_law_clock_for (aCons (sVar 1) (aCons (sVar 2) (aCons (sVar 6) (aCons (sVar 7) aNil))))) (aCons (sOp modv (sCall intv (aCons (sOp ixv (sVar 5) (sC (.int 3))) aNil)) (sOp ixv (sLst (aCons (sC (.int 4)) (aCons (sC (.int 1000)) aNil))) (sOp modv (sCall intv (aCons (sOp ixv (sVar 5) (sC (.int 4))) aNil)) (sC (.int 2))))) aNil)))) xNil) (xExpr (sMeth isLst appendv (sVar 3) (aCons (sTup (aCons (sVar 6) (aCons (sVar 7) (aCons (sVar 8) aNil)))) aNil))))))))
noncomputable def b_law_slips : SS := (xSeq (xSet 3 (sLst aNil)) (xSeq (xFor (iRng2S (sC (.int 4)) (sOp addv (sC (.int 4)) (sOp modv (sCall intv (aCons (sCallU 2 f_law_cell (aCons (sVar 0) (aCons (sC (.int 3)) aNil))) aNil)) (sC (.int 9))))) (gNm 4) (law_slips_l1)) (xRet (sVar 3))))
noncomputable def f_law_slips : FS := fnS 3 9 b_law_slips
/-! ### _law_given -/
abbrev s_law_given : Stmt := topS 49
theorem sc_law_given : FnScope ["script", "club", "clocks"] ["script"] (defScope s_law_given) := ⟨rfl, rfl, rfl, by decide +kernel, rfl, by decide +kernel, by decide +kernel⟩
noncomputable def b_law_given : SS := (xSeq (xSet 1 (sCallU 1 f_law_club (aCons (sVar 0) aNil))) (xSeq (xSet 2 (sCallU 2 f_law_clocks (aCons (sVar 0) (aCons (sVar 1) aNil)))) (xRet (sTup (aCons (sVar 1) (aCons (sVar 2) (aCons (sCallU 3 f_law_slips (aCons (sVar 0) (aCons (sVar 1) (aCons (sVar 2) aNil)))) aNil)))))))
noncomputable def f_law_given : FS := fnS 1 3 b_law_given
/-! ### _law_less -/
abbrev s_law_less : Stmt := topS 52
theorem sc_law_less : FnScope ["one", "other"] ["one", "other"] (defScope s_law_less) := ⟨rfl, rfl, rfl, by decide +kernel, rfl, by decide +kernel, by decide +kernel⟩
noncomputable def b_law_less : SS := (xRet (sOp ltv (sOp mulvS (sOp ixv (sVar 0) (sC (.int 0))) (sOp ixv (sVar 1) (sC (.int 1)))) (sOp mulvS (sOp ixv (sVar 1) (sC (.int 0))) (sOp ixv (sVar 0) (sC (.int 1))))))
noncomputable def f_law_less : FS := fnS 2 2 b_law_less
/-! ### _law_now -/
abbrev s_law_now : Stmt := topS 51
theorem sc_law_now : FnScope ["club", "race", "cell", "start", "close"] ["club", "race", "cell"] (defScope s_law_now) := ⟨rfl, rfl, rfl, by decide +kernel, rfl, by decide +kernel, by decide +kernel⟩
noncomputable def b_law_now : SS := (xSeq (xSet 3 (sOp ixv (sOp ixv (sOp ixv (sVar 0) (sC (.int 2))) (sVar 1)) (sC (.int 3)))) (xSeq (xSet 4 (sOp ixv (sOp ixv (sOp ixv (sVar 0) (sC (.int 2))) (sVar 1)) (sC (.int 4)))) (xRet (sOp addv (sVar 3) (sOp modv (sCall intv (aCons (sVar 2) aNil)) (sOp addv (sOp subv (sVar 4) (sVar 3)) (sC (.int 1))))))))
noncomputable def f_law_now : FS := fnS 3 5 b_law_now
/-! ### dark_of_day -/
abbrev s_dark_of_day : Stmt := topS 24
theorem sc_dark_of_day : FnScope ["dusk", "dawn", "end"] ["dusk", "dawn", "end"] (defScope s_dark_of_day) := ⟨rfl, rfl, rfl, by decide +kernel, rfl, by decide +kernel, by decide +kernel⟩
noncomputable def b_dark_of_day : SS := (xSeq (xIf (tBool (sOp lev (sVar 0) (sVar 1))) (xRet (sCall max2v (aCons (sC (.int 0)) (aCons (sOp subv (sCall min2v (aCons (sVar 2) (aCons (sVar 1) aNil))) (sVar 0)) aNil)))) xNil) (xRet (sOp addv (sCall min2v (aCons (sVar 2) (aCons (sVar 1) aNil))) (sCall max2v (aCons (sC (.int 0)) (aCons (sOp subv (sVar 2) (sVar 0)) aNil))))))
noncomputable def f_dark_of_day : FS := fnS 3 3 b_dark_of_day
/-! ### lowest -/
abbrev s_lowest : Stmt := topS 9
theorem sc_lowest : FnScope ["p", "q", "common"] ["p", "q"] (defScope s_lowest) := ⟨rfl, rfl, rfl, by decide +kernel, rfl, by decide +kernel, by decide +kernel⟩
noncomputable def b_lowest : SS := (xSeq (xSet 2 (sCall gcdv (aCons (sVar 0) (aCons (sVar 1) aNil)))) (xSeq (xIf (tBool (sOp ltv (sVar 1) (sC (.int 0)))) (xSet 2 (sUn negv (sVar 2))) xNil) (xRet (sTup (aCons (sOp fdivv (sVar 0) (sVar 2)) (aCons (sOp fdivv (sVar 1) (sVar 2)) aNil))))))
noncomputable def f_lowest : FS := fnS 2 3 b_lowest
/-! ### dark_until -/
abbrev s_dark_until : Stmt := topS 23
theorem sc_dark_until : FnScope ["race", "time", "dusk", "dawn", "p", "q", "days", "whole"] ["race", "time"] (defScope s_dark_until) := ⟨rfl, rfl, rfl, by decide +kernel, rfl, by decide +kernel, by decide +kernel⟩
noncomputable def b_dark_until : SS := (xSeq (xPar 2 3 (sOp ixv (sVar 0) (sC (.int 5))) (sOp ixv (sVar 0) (sC (.int 6)))) (xSeq (xAsg (sVar 1) (gTupS 2 (gConsS (gNm 4) (gConsS (gNm 5) gNilS)))) (xSeq (xSet 6 (sOp fdivv (sVar 4) (sOp mulvS (sC (.int 1440)) (sVar 5)))) (xSeq (xSet 7 (sOp mulvS (sOp mulvS (sVar 6) (sOp modv (sOp subv (sVar 3) (sVar 2)) (sC (.int 1440)))) (sVar 5))) (xRet (sCallU 2 f_lowest (aCons (sOp addv (sVar 7) (sCallU 3 f_dark_of_day (aCons (sOp mulvS (sVar 2) (sVar 5)) (aCons (sOp mulvS (sVar 3) (sVar 5)) (aCons (sOp subv (sVar 4) (sOp mulvS (sOp mulvS (sVar 6) (sC (.int 1440))) (sVar 5))) aNil))))) (aCons (sVar 5) aNil))))))))
noncomputable def f_dark_until : FS := fnS 2 8 b_dark_until
/-! ### minus -/
abbrev s_minus : Stmt := topS 11
theorem sc_minus : FnScope ["one", "other", "p", "q", "r", "s"] ["one", "other"] (defScope s_minus) := ⟨rfl, rfl, rfl, by decide +kernel, rfl, by decide +kernel, by decide +kernel⟩
noncomputable def b_minus : SS := (xSeq (xAsg (sVar 0) (gTupS 2 (gConsS (gNm 2) (gConsS (gNm 3) gNilS)))) (xSeq (xAsg (sVar 1) (gTupS 2 (gConsS (gNm 4) (gConsS (gNm 5) gNilS)))) (xRet (sCallU 2 f_lowest (aCons (sOp subv (sOp mulvS (sVar 2) (sVar 5)) (sOp mulvS (sVar 4) (sVar 3))) (aCons (sOp mulvS (sVar 3) (sVar 5)) aNil))))))
noncomputable def f_minus : FS := fnS 2 6 b_minus
/-! ### dark_part -/
abbrev s_dark_part : Stmt := topS 22
theorem sc_dark_part : FnScope ["race", "first", "last"] ["race", "first", "last"] (defScope s_dark_part) := ⟨rfl, rfl, rfl, by decide +kernel, rfl, by decide +kernel, by decide +kernel⟩
noncomputable def b_dark_part : SS := (xRet (sCallU 2 f_minus (aCons (sCallU 2 f_dark_until (aCons (sVar 0) (aCons (sVar 2) aNil))) (aCons (sCallU 2 f_dark_until (aCons (sVar 0) (aCons (sVar 1) aNil))) aNil))))
noncomputable def f_dark_part : FS := fnS 3 3 b_dark_part
/-! ### flight -/
abbrev s_flight : Stmt := topS 25
theorem sc_flight : FnScope ["race", "time", "start"] ["race", "time"] (defScope s_flight) := ⟨rfl, rfl, rfl, by decide +kernel, rfl, by decide +kernel, by decide +kernel⟩
noncomputable def b_flight : SS := (xSeq (xSet 2 (sTup (aCons (sOp ixv (sVar 0) (sC (.int 3))) (aCons (sC (.int 1)) aNil)))) (xRet (sCallU 2 f_minus (aCons (sCallU 2 f_minus (aCons (sVar 1) (aCons (sVar 2) aNil))) (aCons (sCallU 3 f_dark_part (aCons (sVar 0) (aCons (sVar 2) (aCons (sVar 1) aNil)))) aNil)))))
noncomputable def f_flight : FS := fnS 2 3 b_flight
/-! ### square_distance -/
abbrev s_square_distance : Stmt := topS 18
theorem sc_square_distance : FnScope ["club", "race", "loft", "lofts", "_", "races", "across", "along"] ["club", "race", "loft"] (defScope s_square_distance) := ⟨rfl, rfl, rfl, by decide +kernel, rfl, by decide +kernel, by decide +kernel⟩
noncomputable def b_square_distance : SS := (xSeq (xAsg (sVar 0) (gTupS 3 (gConsS (gNm 3) (gConsS (gNm 4) (gConsS (gNm 5) gNilS))))) (xSeq (xSet 6 (sOp subv (sOp ixv (sOp ixv (sVar 5) (sVar 1)) (sC (.int 1))) (sOp ixv (sOp ixv (sVar 3) (sVar 2)) (sC (.int 1))))) (xSeq (xSet 7 (sOp subv (sOp ixv (sOp ixv (sVar 5) (sVar 1)) (sC (.int 2))) (sOp ixv (sOp ixv (sVar 3) (sVar 2)) (sC (.int 2))))) (xRet (sOp addv (sOp mulvS (sVar 6) (sVar 6)) (sOp mulvS (sVar 7) (sVar 7)))))))
noncomputable def f_square_distance : FS := fnS 3 8 b_square_distance
/-! ### _law_speed -/
abbrev s_law_speed : Stmt := topS 53
theorem sc_law_speed : FnScope ["club", "race", "ring", "time", "flown", "loft", "bird"] ["club", "race", "ring", "time"] (defScope s_law_speed) := ⟨rfl, rfl, rfl, by decide +kernel, rfl, by decide +kernel, by decide +kernel⟩
noncomputable def b_law_speed : SS := (xSeq (xIf (tTru (sCallU 2 f_law_less (aCons (sTup (aCons (sOp ixv (sOp ixv (sOp ixv (sVar 0) (sC (.int 2))) (sVar 1)) (sC (.int 4))) (aCons (sC (.int 1)) aNil))) (aCons (sVar 3) aNil)))) (xRet (sC .non)) xNil) (xSeq (xSet 4 (sCallU 2 f_flight (aCons (sOp ixv (sOp ixv (sVar 0) (sC (.int 2))) (sVar 1)) (aCons (sVar 3) aNil)))) (xSeq (xIf (tBool (sOp lev (sOp ixv (sVar 4) (sC (.int 0))) (sC (.int 0)))) (xRet (sC .non)) xNil) (xSeq (xSet 5 (sOp ixv (sLc (iSeq (sOp ixv (sVar 0) (sC (.int 1)))) (gNm 6) (tBool (sOp eqv (sOp ixv (sVar 6) (sC (.int 0))) (sVar 2))) (sOp ixv (sVar 6) (sC (.int 1))) [6]) (sC (.int 0)))) (xRet (sTup (aCons (sOp mulvS (sOp mulvS (sCallU 3 f_square_distance (aCons (sVar 0) (aCons (sVar 1) (aCons (sVar 5) aNil)))) (sOp ixv (sVar 4) (sC (.int 1)))) (sOp ixv (sVar 4) (sC (.int 1)))) (aCons (sOp mulvS (sOp ixv (sVar 4) (sC (.int 0))) (sOp ixv (sVar 4) (sC (.int 0)))) aNil))))))))
noncomputable def f_law_speed : FS := fnS 4 7 b_law_speed
/-! ### _law_times -/
abbrev s_law_times : Stmt := topS 54
theorem sc_law_times : FnScope ["club", "race", "now", "found", "close", "minute", "parts"] ["club", "race", "now"] (defScope s_law_times) := ⟨rfl, rfl, rfl, by decide +kernel, rfl, by decide +kernel, by decide +kernel⟩
noncomputable def law_times_l1 : SS := (xIf (tBool (sOp lev (sVar 5) (sVar 4))) (xExpr (sMeth isLst appendv (sVar 3) (aCons (sTup (aCons (sVar 5) (aCons (sC (.int 1)) aNil))) aNil))) xNil)
noncomputable def law_times_l2 : SS := (xSet 5 (sOp addv (sVar 5) (sC (.int 1))))
noncomputable def law_times_l3 : SS := (xExpr (sMeth isLst appendv (sVar 3) (aCons (sTup (aCons (sOp addv (sOp mulvS (sVar 5) (sVar 6)) (sC (.int 1))) (aCons (sVar 6) aNil))) aNil)))
noncomputable def b_law_times : SS := (xSeq (xSet 3 (sLst aNil)) (xSeq (xSet 4 (sOp ixv (sOp ixv (sOp ixv (sVar 0) (sC (.int 2))) (sVar 1)) (sC (.int 4)))) (xSeq (xFor (iSeq (sLst (aCons (sVar 2) (aCons (sOp addv (sVar 2) (sC (.int 1))) (aCons (sOp addv (sVar 2) (sC (.int 2))) (aCons (sOp addv (sVar 2) (sC (.int 7))) (aCons (sVar 4) aNil))))))) (gNm 5) (law_times_l1)) (xSeq (xSet 5 (sVar 2)) (xSeq (xWhile (tAndS (tBool (sOp ltv (sVar 5) (sVar 4))) (tBool (sOp eqv (sOp ixv (sCallU 2 f_flight (aCons (sOp ixv (sOp ixv (sVar 0) (sC (.int 2))) (sVar 1)) (aCons (sTup (aCons (sOp addv (sVar 5) (sC (.int 1))) (aCons (sC (.int 1)) aNil))) aNil))) (sC (.int 0))) (sC (.int 0))))) (law_times_l2)) (xSeq (xIf (tAndS (tBool (sOp eqv (sOp ixv (sCallU 2 f_flight (aCons (sOp ixv (sOp ixv (sVar 0) (sC (.int 2))) (sVar 1)) (aCons (sTup (aCons (sVar 2) (aCons (sC (.int 1)) aNil))) aNil))) (sC (.int 0))) (sC (.int 0)))) (tBool (sOp ltv (sVar 5) (sVar 4)))) (xFor (iSeq (sLst (aCons (sC (.int 3)) (aCons (sC (.int 100)) (aCons (sC (.int 100000)) (aCons (sOp powv (sC (.int 10)) (sC (.int 9))) aNil)))))) (gNm 6) (law_times_l3)) xNil) (xRet (sVar 3))))))))
noncomputable def f_law_times : FS := fnS 3 7 b_law_times
/-! ### is_less -/
abbrev s_is_less : Stmt := topS 14
theorem sc_is_less : FnScope ["one", "other", "p", "q", "r", "s"] ["one", "other"] (defScope s_is_less) := ⟨rfl, rfl, rfl, by decide +kernel, rfl, by decide +kernel, by decide +kernel⟩
noncomputable def b_is_less : SS := (xSeq (xAsg (sVar 0) (gTupS 2 (gConsS (gNm 2) (gConsS (gNm 3) gNilS)))) (xSeq (xAsg (sVar 1) (gTupS 2 (gConsS (gNm 4) (gConsS (gNm 5) gNilS)))) (xRet (sOp ltv (sOp mulvS (sVar 2) (sVar 5)) (sOp mulvS (sVar 4) (sVar 3))))))
noncomputable def f_is_less : FS := fnS 2 6 b_is_less
/-! ### can_count -/
abbrev s_can_count : Stmt := topS 38
theorem sc_can_count : FnScope ["club", "race", "told"] ["club", "race"] (defScope s_can_count) := ⟨rfl, rfl, rfl, by decide +kernel, rfl, by decide +kernel, by decide +kernel⟩
noncomputable def b_can_count : SS := (xSeq (xSet 2 (sOp ixv (sOp ixv (sVar 0) (sC (.int 2))) (sVar 1))) (xRet (sCallU 2 f_is_less (aCons (sC (.tup [.int 0, .int 1])) (aCons (sCallU 2 f_flight (aCons (sVar 2) (aCons (sTup (aCons (sOp ixv (sVar 2) (sC (.int 4))) (aCons (sC (.int 1)) aNil))) aNil))) aNil)))))
noncomputable def f_can_count : FS := fnS 2 3 b_can_count
/-! ### number_of -/
abbrev s_number_of : Stmt := topS 6
theorem sc_number_of : FnScope ["rows", "first", "number", "row"] ["rows", "first"] (defScope s_number_of) := ⟨rfl, rfl, rfl, by decide +kernel, rfl, by decide +kernel, by decide +kernel⟩
noncomputable def number_of_l1 : SS := (xIf (tBool (sOp eqv (sOp ixv (sVar 3) (sC (.int 0))) (sVar 1))) (xRet (sVar 2)) xNil)
noncomputable def b_number_of : SS := (xSeq (xForE (sVar 0) (gTupS 2 (gConsS (gNm 2) (gConsS (gNm 3) gNilS))) (number_of_l1)) (xRet (sC .non)))
noncomputable def f_number_of : FS := fnS 2 4 b_number_of
/-! ### bird_of -/
abbrev s_bird_of : Stmt := topS 7
theorem sc_bird_of : FnScope ["club", "ring", "number"] ["club", "ring"] (defScope s_bird_of) := ⟨rfl, rfl, rfl, by decide +kernel, rfl, by decide +kernel, by decide +kernel⟩
noncomputable def b_bird_of : SS := (xSeq (xSet 2 (sCallU 2 f_number_of (aCons (sOp ixv (sVar 0) (sC (.int 1))) (aCons (sVar 1) aNil)))) (xSeq (xIf (tBool (sOp isNv (sVar 2) (sC .non))) xBad xNil) (xRet (sVar 2))))
noncomputable def f_bird_of : FS := fnS 2 3 b_bird_of
/-! ### over -/
abbrev s_over : Stmt := topS 13
theorem sc_over : FnScope ["one", "other", "p", "q", "r", "s"] ["one", "other"] (defScope s_over) := ⟨rfl, rfl, rfl, by decide +kernel, rfl, by decide +kernel, by decide +kernel⟩
noncomputable def b_over : SS := (xSeq (xAsg (sVar 0) (gTupS 2 (gConsS (gNm 2) (gConsS (gNm 3) gNilS)))) (xSeq (xAsg (sVar 1) (gTupS 2 (gConsS (gNm 4) (gConsS (gNm 5) gNilS)))) (xRet (sCallU 2 f_lowest (aCons (sOp mulvS (sVar 2) (sVar 5)) (aCons (sOp mulvS (sVar 3) (sVar 4)) aNil))))))
noncomputable def f_over : FS := fnS 2 6 b_over
/-! ### times -/
abbrev s_times : Stmt := topS 12
theorem sc_times : FnScope ["one", "other", "p", "q", "r", "s"] ["one", "other"] (defScope s_times) := ⟨rfl, rfl, rfl, by decide +kernel, rfl, by decide +kernel, by decide +kernel⟩
noncomputable def b_times : SS := (xSeq (xAsg (sVar 0) (gTupS 2 (gConsS (gNm 2) (gConsS (gNm 3) gNilS)))) (xSeq (xAsg (sVar 1) (gTupS 2 (gConsS (gNm 4) (gConsS (gNm 5) gNilS)))) (xRet (sCallU 2 f_lowest (aCons (sOp mulvS (sVar 2) (sVar 4)) (aCons (sOp mulvS (sVar 3) (sVar 5)) aNil))))))
noncomputable def f_times : FS := fnS 2 6 b_times
/-! ### speed_at -/
abbrev s_speed_at : Stmt := topS 27
theorem sc_speed_at : FnScope ["club", "race", "loft", "time", "told", "flown"] ["club", "race", "loft", "time"] (defScope s_speed_at) := ⟨rfl, rfl, rfl, by decide +kernel, rfl, by decide +kernel, by decide +kernel⟩
noncomputable def b_speed_at : SS := (xSeq (xSet 4 (sOp ixv (sOp ixv (sVar 0) (sC (.int 2))) (sVar 1))) (xSeq (xIf (tOrS (tTru (sCallU 2 f_is_less (aCons (sVar 3) (aCons (sTup (aCons (sOp ixv (sVar 4) (sC (.int 3))) (aCons (sC (.int 1)) aNil))) aNil)))) (tTru (sCallU 2 f_is_less (aCons (sTup (aCons (sOp ixv (sVar 4) (sC (.int 4))) (aCons (sC (.int 1)) aNil))) (aCons (sVar 3) aNil))))) (xRet (sC .non)) xNil) (xSeq (xSet 5 (sCallU 2 f_flight (aCons (sVar 4) (aCons (sVar 3) aNil)))) (xSeq (xIf (tNotS (tTru (sCallU 2 f_is_less (aCons (sC (.tup [.int 0, .int 1])) (aCons (sVar 5) aNil))))) (xRet (sC .non)) xNil) (xRet (sCallU 2 f_over (aCons (sTup (aCons (sCallU 3 f_square_distance (aCons (sVar 0) (aCons (sVar 1) (aCons (sVar 2) aNil)))) (aCons (sC (.int 1)) aNil))) (aCons (sCallU 2 f_times (aCons (sVar 5) (aCons (sVar 5) aNil))) aNil))))))))
noncomputable def f_speed_at : FS := fnS 4 6 b_speed_at
/-! ### speed_home -/
abbrev s_speed_home : Stmt := topS 37
theorem sc_speed_home : FnScope ["club", "race", "ring", "time"] ["club", "race", "ring", "time"] (defScope s_speed_home) := ⟨rfl, rfl, rfl, by decide +kernel, rfl, by decide +kernel, by decide +kernel⟩
noncomputable def b_speed_home : SS := (xRet (sCallU 4 f_speed_at (aCons (sVar 0) (aCons (sVar 1) (aCons (sOp ixv (sOp ixv (sOp ixv (sVar 0) (sC (.int 1))) (sCallU 2 f_bird_of (aCons (sVar 0) (aCons (sVar 2) aNil)))) (sC (.int 1))) (aCons (sVar 3) aNil))))))
noncomputable def f_speed_home : FS := fnS 4 4 b_speed_home
/-! ### can_be_ahead -/
abbrev s_can_be_ahead : Stmt := topS 39
theorem sc_can_be_ahead : FnScope ["club", "race", "ring", "now", "speed", "greatest"] ["club", "race", "ring", "now", "speed"] (defScope s_can_be_ahead) := ⟨rfl, rfl, rfl, by decide +kernel, rfl, by decide +kernel, by decide +kernel⟩
noncomputable def b_can_be_ahead : SS := (xSeq (xSet 5 (sCallU 4 f_speed_home (aCons (sVar 0) (aCons (sVar 1) (aCons (sVar 2) (aCons (sTup (aCons (sVar 3) (aCons (sC (.int 1)) aNil))) aNil)))))) (xSeq (xIf (tBool (sOp isNv (sVar 5) (sC .non))) (xRet (sCallU 2 f_can_count (aCons (sVar 0) (aCons (sVar 1) aNil)))) xNil) (xRet (sCallU 2 f_is_less (aCons (sVar 4) (aCons (sVar 5) aNil))))))
noncomputable def f_can_be_ahead : FS := fnS 5 6 b_can_be_ahead
/-! ### counting -/
abbrev s_counting : Stmt := topS 29
theorem sc_counting : FnScope ["rows", "last", "row", "key"] ["rows"] (defScope s_counting) := ⟨rfl, rfl, rfl, by decide +kernel, rfl, by decide +kernel, by decide +kernel⟩
noncomputable def counting_l1 : SS := (xDPutT (sVar 2) (sVar 1) (aCons (sOp ixv (sVar 2) (sC (.int 0))) (aCons (sOp ixv (sVar 2) (sC (.int 1))) aNil)))
noncomputable def b_counting : SS := (xSeq (xSet 1 sDNewT) (xSeq (xFor (iSeq (sVar 0)) (gNm 2) (counting_l1)) (xRet (sLc (iSeq (sCall sortedTv (aCons (sVar 1) aNil))) (gNm 3) tYesS (sOp dgetv (sVar 1) (sVar 3)) [3]))))
noncomputable def f_counting : FS := fnS 1 4 b_counting
/-! ### ranked -/
abbrev s_ranked : Stmt := topS 34
theorem sc_ranked : FnScope ["pairs", "rows", "number", "told", "ahead", "_", "other"] ["pairs"] (defScope s_ranked) := ⟨rfl, rfl, rfl, by decide +kernel, rfl, by decide +kernel, by decide +kernel⟩
noncomputable def ranked_l1 : SS := (xSeq (xSet 4 (sLc (iSeq (sVar 0)) (gTupS 2 (gConsS (gNm 5) (gConsS (gNm 6) gNilS))) (tTru (sCallU 2 f_is_less (aCons (sVar 3) (aCons (sVar 6) aNil)))) (sVar 6) [5, 6])) (xExpr (sMeth isLst appendv (sVar 1) (aCons (sTup (aCons (sOp addv (sCall lenv (aCons (sVar 4) aNil)) (sC (.int 1))) (aCons (sVar 2) (aCons (sVar 3) aNil)))) aNil))))
noncomputable def b_ranked : SS := (xSeq (xSet 1 (sLst aNil)) (xSeq (xFor (iSeq (sVar 0)) (gTupS 2 (gConsS (gNm 2) (gConsS (gNm 3) gNilS))) (ranked_l1)) (xRet (sCall sortedDv (aCons (sVar 1) aNil)))))
noncomputable def f_ranked : FS := fnS 1 7 b_ranked
/-! ### clock_of -/
abbrev s_clock_of : Stmt := topS 30
theorem sc_clock_of : FnScope ["clocks", "race", "loft", "found", "clock"] ["clocks", "race", "loft"] (defScope s_clock_of) := ⟨rfl, rfl, rfl, by decide +kernel, rfl, by decide +kernel, by decide +kernel⟩
noncomputable def clock_of_l1 : SS := (xIf (tBool (sOp eqv (sTup (aCons (sOp ixv (sVar 4) (sC (.int 0))) (aCons (sOp ixv (sVar 4) (sC (.int 1))) aNil))) (sTup (aCons (sVar 1) (aCons (sVar 2) aNil))))) (xSet 3 (sVar 4)) xNil)
noncomputable def b_clock_of : SS := (xSeq (xSet 3 (sC .non)) (xSeq (xFor (iSeq (sVar 0)) (gNm 4) (clock_of_l1)) (xRet (sVar 3))))
noncomputable def f_clock_of : FS := fnS 3 5 b_clock_of
/-! ### plus -/
abbrev s_plus : Stmt := topS 10
theorem sc_plus : FnScope ["one", "other", "p", "q", "r", "s"] ["one", "other"] (defScope s_plus) := ⟨rfl, rfl, rfl, by decide +kernel, rfl, by decide +kernel, by decide +kernel⟩
noncomputable def b_plus : SS := (xSeq (xAsg (sVar 0) (gTupS 2 (gConsS (gNm 2) (gConsS (gNm 3) gNilS)))) (xSeq (xAsg (sVar 1) (gTupS 2 (gConsS (gNm 4) (gConsS (gNm 5) gNilS)))) (xRet (sCallU 2 f_lowest (aCons (sOp addv (sOp mulvS (sVar 2) (sVar 5)) (sOp mulvS (sVar 4) (sVar 3))) (aCons (sOp mulvS (sVar 3) (sVar 5)) aNil))))))
noncomputable def f_plus : FS := fnS 2 6 b_plus
/-! ### true_time -/
abbrev s_true_time : Stmt := topS 16
theorem sc_true_time : FnScope ["clock", "reading", "_", "begin", "end", "shown"] ["clock", "reading"] (defScope s_true_time) := ⟨rfl, rfl, rfl, by decide +kernel, rfl, by decide +kernel, by decide +kernel⟩
noncomputable def b_true_time : SS := (xSeq (xAsg (sVar 0) (gTupS 5 (gConsS (gNm 2) (gConsS (gNm 2) (gConsS (gNm 3) (gConsS (gNm 4) (gConsS (gNm 5) gNilS))))))) (xSeq (xIf (tNotS (tBool (sChain lev lev (sVar 3) (sVar 1) (sVar 5)))) (xRet (sC .non)) xNil) (xRet (sCallU 2 f_plus (aCons (sTup (aCons (sVar 3) (aCons (sC (.int 1)) aNil))) (aCons (sCallU 2 f_lowest (aCons (sOp mulvS (sOp subv (sVar 1) (sVar 3)) (sOp subv (sVar 4) (sVar 3))) (aCons (sOp subv (sVar 5) (sVar 3)) aNil))) aNil))))))
noncomputable def f_true_time : FS := fnS 2 6 b_true_time
/-! ### speed -/
abbrev s_speed : Stmt := topS 26
theorem sc_speed : FnScope ["club", "clock", "reading", "time"] ["club", "clock", "reading"] (defScope s_speed) := ⟨rfl, rfl, rfl, by decide +kernel, rfl, by decide +kernel, by decide +kernel⟩
noncomputable def b_speed : SS := (xSeq (xSet 3 (sCallU 2 f_true_time (aCons (sVar 1) (aCons (sVar 2) aNil)))) (xSeq (xIf (tBool (sOp isNv (sVar 3) (sC .non))) (xRet (sC .non)) xNil) (xRet (sCallU 4 f_speed_at (aCons (sVar 0) (aCons (sOp ixv (sVar 1) (sC (.int 0))) (aCons (sOp ixv (sVar 1) (sC (.int 1))) (aCons (sVar 3) aNil))))))))
noncomputable def f_speed : FS := fnS 3 4 b_speed
/-! ### speed_of -/
abbrev s_speed_of : Stmt := topS 33
theorem sc_speed_of : FnScope ["club", "clocks", "slip", "race", "ring", "reading", "clock"] ["club", "clocks", "slip"] (defScope s_speed_of) := ⟨rfl, rfl, rfl, by decide +kernel, rfl, by decide +kernel, by decide +kernel⟩
noncomputable def b_speed_of : SS := (xSeq (xAsg (sVar 2) (gTupS 3 (gConsS (gNm 3) (gConsS (gNm 4) (gConsS (gNm 5) gNilS))))) (xSeq (xSet 6 (sCallU 3 f_clock_of (aCons (sVar 1) (aCons (sVar 3) (aCons (sOp ixv (sOp ixv (sOp ixv (sVar 0) (sC (.int 1))) (sCallU 2 f_bird_of (aCons (sVar 0) (aCons (sVar 4) aNil)))) (sC (.int 1))) aNil))))) (xSeq (xIf (tOrS (tBool (sOp isNv (sVar 5) (sC .non))) (tBool (sOp isNv (sVar 6) (sC .non)))) (xRet (sC .non)) xNil) (xRet (sCallU 3 f_speed (aCons (sVar 0) (aCons (sVar 6) (aCons (sVar 5) aNil))))))))
noncomputable def f_speed_of : FS := fnS 3 7 b_speed_of
/-! ### race_list -/
abbrev s_race_list : Stmt := topS 32
theorem sc_race_list : FnScope ["club", "clocks", "slips", "race", "found", "slip", "told"] ["club", "clocks", "slips", "race"] (defScope s_race_list) := ⟨rfl, rfl, rfl, by decide +kernel, rfl, by decide +kernel, by decide +kernel⟩
noncomputable def race_list_l1 : SS := (xIf (tBool (sOp eqv (sOp ixv (sVar 5) (sC (.int 0))) (sVar 3))) (xSeq (xSet 6 (sCallU 3 f_speed_of (aCons (sVar 0) (aCons (sVar 1) (aCons (sVar 5) aNil))))) (xIf (tBool (sOp notNv (sVar 6) (sC .non))) (xExpr (sMeth isLst appendv (sVar 4) (aCons (sTup (aCons (sOp ixv (sVar 5) (sC (.int 1))) (aCons (sVar 6) aNil))) aNil))) xNil)) xNil)
noncomputable def b_race_list : SS := (xSeq (xSet 4 (sLst aNil)) (xSeq (xFor (iSeq (sCallU 1 f_counting (aCons (sVar 2) aNil))) (gNm 5) (race_list_l1)) (xRet (sCallU 1 f_ranked (aCons (sVar 4) aNil)))))
noncomputable def f_race_list : FS := fnS 4 7 b_race_list
/-! ### law -/
abbrev s_law : Stmt := topS 56
theorem sc_law : FnScope ["script", "club", "clocks", "slips", "race", "now", "rows", "speeds", "row", "times_v", "bird", "own", "time", "speed_v", "due", "one"] ["script"] (defScope s_law) := ⟨rfl, rfl, rfl, by decide +kernel, rfl, by decide +kernel, by decide +kernel⟩
noncomputable def law_l1 : SS := (xSeq (xSet 14 (sOp gtv (sCall lenv (aCons (sLc (iSeq (sVar 11)) (gNm 15) (tAndS (tBool (sOp notNv (sVar 15) (sC .non))) (tTru (sCallU 2 f_law_less (aCons (sVar 13) (aCons (sVar 15) aNil))))) (sVar 15) [15]) aNil)) (sC (.int 0)))) (xIf (tBool (sOp nev (sCallU 5 f_can_be_ahead (aCons (sVar 1) (aCons (sVar 4) (aCons (sOp ixv (sVar 10) (sC (.int 0))) (aCons (sVar 5) (aCons (sVar 13) aNil)))))) (sVar 14))) (xRet (sC (.bl false))) xNil))
noncomputable def law_l2 : SS := (xSeq (xSet 11 (sLc (iSeq (sVar 9)) (gNm 12) tYesS (sCallU 4 f_law_speed (aCons (sVar 1) (aCons (sVar 4) (aCons (sOp ixv (sVar 10) (sC (.int 0))) (aCons (sVar 12) aNil))))) [12])) (xFor (iSeq (sVar 7)) (gNm 13) (law_l1)))
noncomputable def b_law : SS := (xSeq (xAsg (sCallU 1 f_law_given (aCons (sVar 0) aNil)) (gTupS 3 (gConsS (gNm 1) (gConsS (gNm 2) (gConsS (gNm 3) gNilS))))) (xSeq (xSet 4 (sOp modv (sCall intv (aCons (sCallU 2 f_law_cell (aCons (sVar 0) (aCons (sC (.int 20)) aNil))) aNil)) (sCall lenv (aCons (sOp ixv (sVar 1) (sC (.int 2))) aNil)))) (xSeq (xSet 5 (sCallU 3 f_law_now (aCons (sVar 1) (aCons (sVar 4) (aCons (sCallU 2 f_law_cell (aCons (sVar 0) (aCons (sC (.int 21)) aNil))) aNil))))) (xSeq (xSet 6 (sCallU 4 f_race_list (aCons (sVar 1) (aCons (sVar 2) (aCons (sVar 3) (aCons (sVar 4) aNil)))))) (xSeq (xSet 7 (sOp addv (sLc (iSeq (sVar 6)) (gNm 8) tYesS (sOp ixv (sVar 8) (sC (.int 2))) [8]) (sLst (aCons (sCallU 2 f_law_fraction (aCons (sOp addv (sC (.int 1)) (sOp modv (sCall intv (aCons (sCallU 2 f_law_cell (aCons (sVar 0) (aCons (sC (.int 22)) aNil))) aNil)) (sC (.int 5000)))) (aCons (sOp addv (sC (.int 1)) (sOp modv (sCall intv (aCons (sCallU 2 f_law_cell (aCons (sVar 0) (aCons (sC (.int 23)) aNil))) aNil)) (sC (.int 90)))) aNil))) aNil)))) (xSeq (xSet 9 (sCallU 3 f_law_times (aCons (sVar 1) (aCons (sVar 4) (aCons (sVar 5) aNil))))) (xSeq (xFor (iSeq (sOp ixv (sVar 1) (sC (.int 1)))) (gNm 10) (law_l2)) (xRet (sC (.bl true))))))))))
noncomputable def f_law : FS := fnS 1 16 b_law
section
variable {P : Program} {w : World} {K : PySem.W.Frag} {mg : Str → Option Value} {base : Heap}
theorem ok_law_cell {f : Addr} {fd : FuncData} (F : Fun K "_law_cell" "_law_cell" s_law_cell f fd) (m_len : mg "len" = none) : FnOk P w K mg base CX0 1 f fd ["script", "k"] (SpQ K 2 f_law_cell) :=
  okQ F sc_law_cell b_law_cell fun cdv A outer s H E hr => by
    have nd := sc_law_cell.nd
    exact (x_cons (x_if (t_cmp o_lt (q_var 1) (q_callB c_len (by rfl) m_len PySem.boot_len (a_cons (q_var 0) a_nil)) (nomark _)) (x_one (x_ret (q_ix (q_var 0) (q_var 1) (fun _ _ => rfl)))) x_nil) (x_one (x_ret q_int)))
theorem ok_law_fraction {f : Addr} {fd : FuncData} (F : Fun K "_law_fraction" "_law_fraction" s_law_fraction f fd) (m_range : mg "range" = none) (m_abs : mg "abs" = none) (m_min : mg "min" = none) (m_max : mg "max" = none) (m_int : mg "int" = none) : FnOk P w K mg base CX0 1 f fd ["p", "q"] (SpQ K 2 f_law_fraction) :=
  okQ F sc_law_fraction b_law_fraction fun cdv A outer s H E hr => by
    have nd := sc_law_fraction.nd
    exact (x_cons (x_for PassesOwn.never rfl (i_rng2 (by rfl) m_range q_int (q_bin o_add q_int (q_callB (c_max2 rfl) (by rfl) m_max (by decide +kernel) (a_cons q_int (a_cons (q_callB (c_min2 rfl) (by rfl) m_min (by decide +kernel) (a_cons (q_callB c_abs (by rfl) m_abs (by decide +kernel) (a_cons (q_var 0) a_nil)) (a_cons (q_callB c_abs (by rfl) m_abs (by decide +kernel) (a_cons (q_var 1) a_nil)) a_nil))) a_nil))))) (g_name 2 nd) (x_one (x_while PassesOwn.never (t_w (w_and (t_cmp (o_eq hr) (q_bin o_mod (q_callTy c_int (by rfl) m_int (by decide +kernel) (a_cons (q_var 0) a_nil)) (q_var 2)) q_int (nomark _)) (w_and (t_cmp (o_eq hr) (q_bin o_mod (q_callTy c_int (by rfl) m_int (by decide +kernel) (a_cons (q_var 1) a_nil)) (q_var 2)) q_int (nomark _)) (w_and1 (t_cmp (o_ne hr) (q_var 0) q_int (nomark _)))))) (x_cons (x_set 0 nd (q_bin o_fdiv (q_var 0) (q_var 2))) (x_one (x_set 1 nd (q_bin o_fdiv (q_var 1) (q_var 2)))))))) (x_cons (x_if (t_cmp (o_eq hr) (q_var 0) q_int (nomark _)) (x_one (x_ret (q_tup (a_cons q_int (a_cons q_int a_nil))))) x_nil) (x_one (x_ret (q_tup (a_cons (q_var 0) (a_cons (q_var 1) a_nil)))))))
theorem ok_law_digits {f : Addr} {fd : FuncData} (F : Fun K "_law_digits" "_law_digits" s_law_digits f fd) (m_range : mg "range" = none) (m_len : mg "len" = none) (m_int : mg "int" = none) : FnOk P w K mg base CX0 1 f fd ["cell", "k", "most"] (SpQ K 3 f_law_digits) :=
  okQ F sc_law_digits b_law_digits fun cdv A outer s H E hr => by
    have nd := sc_law_digits.nd
    exact (x_cons (x_set 3 nd (q_lst a_nil)) (x_cons (x_if (t_cmp o_lt (q_var 0) q_int (nomark _)) (x_one (x_set 0 nd (q_bin o_sub (q_un o_neg q_int) (q_var 0)))) x_nil) (x_cons (x_if (t_cmp o_ge (q_var 0) (q_bin o_pow q_int q_int) (nomark _)) (x_one (x_for PassesOwn.never rfl (i_rng1 (by rfl) m_range q_int) (g_name 4 nd) (x_one (x_if (t_w (w_and (t_cmp o_gt (q_var 0) q_int (nomark _)) (w_and1 (t_cmp o_lt (q_callB c_len (by rfl) m_len PySem.boot_len (a_cons (q_var 3) a_nil)) (q_var 2) (nomark _))))) (x_cons (x_expr (q_m ty_list PySem.F.plainAttrs_list PySem.F.slot_list_append PySem.F.type_list_append m_append (q_var 3) (a_cons (q_bin o_mod (q_callTy c_int (by rfl) m_int (by decide +kernel) (a_cons (q_var 0) a_nil)) q_int) a_nil))) (x_one (x_set 0 nd (q_bin o_fdiv (q_var 0) q_int)))) x_nil)))) (x_cons (x_set 5 nd (q_bin o_mod (q_callTy c_int (by rfl) m_int (by decide +kernel) (a_cons (q_bin o_add (q_bin o_add (q_bin o_mulS (q_var 0) q_int) (q_bin o_mulS (q_var 1) q_int)) q_int) a_nil)) q_int)) (x_one (x_for PassesOwn.never rfl (i_rng1 (by rfl) m_range (q_var 2)) (g_name 4 nd) (x_cons (x_set 5 nd (q_bin o_mod (q_callTy c_int (by rfl) m_int (by decide +kernel) (a_cons (q_bin o_add (q_bin o_add (q_bin o_mulS (q_var 5) q_int) (q_bin o_mulS q_int (q_var 4))) q_int) a_nil)) q_int)) (x_one (x_expr (q_m ty_list PySem.F.plainAttrs_list PySem.F.slot_list_append PySem.F.type_list_append m_append (q_var 3) (a_cons (q_bin o_mod (q_callTy c_int (by rfl) m_int (by decide +kernel) (a_cons (q_bin o_fdiv (q_var 5) q_int) a_nil)) q_int) a_nil))))))))) (x_one (x_ret (q_var 3))))))
theorem ok_law_padded {f : Addr} {fd : FuncData} (F : Fun K "_law_padded" "_law_padded" s_law_padded f fd) (C_law_digits : Cal P w K mg base "_law_digits" 3 1 f_law_digits) (m_range : mg "range" = none) : FnOk P w K mg base CX0 2 f fd ["cell", "k"] (SpQ K 2 f_law_padded) :=
  okQ F sc_law_padded b_law_padded fun cdv A outer s H E hr => by
    have nd := sc_law_padded.nd
    exact (x_cons (x_set 2 nd (q_call C_law_digits hr (by decide) (by rfl) (a_cons (q_var 0) (a_cons (q_var 1) (a_cons q_int a_nil))))) (x_cons (x_for PassesOwn.never rfl (i_rng1 (by rfl) m_range q_int) (g_name 3 nd) (x_one (x_expr (q_m ty_list PySem.F.plainAttrs_list PySem.F.slot_list_append PySem.F.type_list_append m_append (q_var 2) (a_cons (q_var 3) a_nil))))) (x_one (x_ret (q_var 2)))))
theorem ok_law_clocks {f : Addr} {fd : FuncData} (F : Fun K "_law_clocks" "_law_clocks" s_law_clocks f fd) (C_law_cell : Cal P w K mg base "_law_cell" 2 1 f_law_cell) (C_law_padded : Cal P w K mg base "_law_padded" 2 2 f_law_padded) (m_range : mg "range" = none) (m_len : mg "len" = none) (m_int : mg "int" = none) (m_max : mg "max" = none) : FnOk P w K mg base CX0 3 f fd ["script", "club"] (SpQ K 2 f_law_clocks) :=
  okQ F sc_law_clocks b_law_clocks fun cdv A outer s H E hr => by
    have nd := sc_law_clocks.nd
    exact (x_cons (x_set 2 nd (q_lst a_nil)) (x_cons (x_for PassesOwn.never rfl (i_rng1 (by rfl) m_range (q_callB c_len (by rfl) m_len PySem.boot_len (a_cons (q_ix (q_var 1) q_int (fun _ _ => rfl)) a_nil))) (g_name 3 nd) (x_one (x_for PassesOwn.never rfl (i_rng1 (by rfl) m_range (q_callB c_len (by rfl) m_len PySem.boot_len (a_cons (q_ix (q_var 1) q_int (fun _ _ => rfl)) a_nil))) (g_name 4 nd) (x_cons (x_set 5 nd (q_call C_law_padded hr (by decide) (by rfl) (a_cons (q_call C_law_cell hr (by decide) (by rfl) (a_cons (q_var 0) (a_cons (q_bin o_add q_int (q_var 3)) a_nil))) (a_cons (q_bin o_add q_int (q_var 3)) a_nil)))) (x_cons (x_set 6 nd (q_bin o_sub (q_ix (q_ix (q_ix (q_var 1) q_int (fun _ _ => rfl)) (q_var 3) (fun _ _ => rfl)) q_int (fun _ _ => rfl)) (q_bin o_mod (q_callTy c_int (by rfl) m_int (by decide +kernel) (a_cons (q_ix (q_var 5) (q_var 4) (fun _ _ => rfl)) a_nil)) q_int))) (x_cons (x_set 7 nd (q_bin o_add (q_ix (q_ix (q_ix (q_var 1) q_int (fun _ _ => rfl)) (q_var 3) (fun _ _ => rfl)) q_int (fun _ _ => rfl)) (q_bin o_mod (q_callTy c_int (by rfl) m_int (by decide +kernel) (a_cons (q_ix (q_var 5) (q_bin o_add q_int (q_var 4)) (fun _ _ => rfl)) a_nil)) q_int))) (x_one (x_expr (q_m ty_list PySem.F.plainAttrs_list PySem.F.slot_list_append PySem.F.type_list_append m_append (q_var 2) (a_cons (q_tup (a_cons (q_var 3) (a_cons (q_var 4) (a_cons (q_var 6) (a_cons (q_var 7) (a_cons (q_callB (c_max2 rfl) (by rfl) m_max (by decide +kernel) (a_cons (q_bin o_add (q_var 6) q_int) (a_cons (q_bin o_add (q_bin o_sub (q_var 7) q_int) (q_bin o_mod (q_callTy c_int (by rfl) m_int (by decide +kernel) (a_cons (q_ix (q_var 5) (q_bin o_add q_int (q_var 4)) (fun _ _ => rfl)) a_nil)) q_int)) a_nil))) a_nil)))))) a_nil)))))))))) (x_one (x_ret (q_var 2)))))
theorem ok_law_club {f : Addr} {fd : FuncData} (F : Fun K "_law_club" "_law_club" s_law_club f fd) (C_law_cell : Cal P w K mg base "_law_cell" 2 1 f_law_cell) (C_law_padded : Cal P w K mg base "_law_padded" 2 2 f_law_padded) (m_range : mg "range" = none) (m_int : mg "int" = none) (m_len : mg "len" = none) (m_tuple : mg "tuple" = none) : FnOk P w K mg base CX0 3 f fd ["script"] (SpQ K 1 f_law_club) :=
  okQ F sc_law_club b_law_club fun cdv A outer s H E hr => by
    have nd := sc_law_club.nd
    exact (x_cons (x_set 1 nd (q_call C_law_padded hr (by decide) (by rfl) (a_cons (q_call C_law_cell hr (by decide) (by rfl) (a_cons (q_var 0) (a_cons q_int a_nil))) (a_cons q_int a_nil)))) (x_cons (x_set 2 nd (q_lst a_nil)) (x_cons (x_for PassesOwn.never rfl (i_rng1 (by rfl) m_range (q_bin o_add q_int (q_bin o_mod (q_callTy c_int (by rfl) m_int (by decide +kernel) (a_cons (q_ix (q_var 1) q_int (fun _ _ => rfl)) a_nil)) q_int))) (g_name 3 nd) (x_one (x_expr (q_m ty_list PySem.F.plainAttrs_list PySem.F.slot_list_append PySem.F.type_list_append m_append (q_var 2) (a_cons (q_tup (a_cons (q_ix (q_strc [97, 98, 99]) (q_var 3) (fun _ _ => rfl)) (a_cons (q_bin o_mod (q_callTy c_int (by rfl) m_int (by decide +kernel) (a_cons (q_ix (q_var 1) (q_bin o_add q_int (q_var 3)) (fun _ _ => rfl)) a_nil)) q_int) (a_cons (q_bin o_mod (q_callTy c_int (by rfl) m_int (by decide +kernel) (a_cons (q_ix (q_var 1) (q_bin o_add q_int (q_var 3)) (fun _ _ => rfl)) a_nil)) q_int) a_nil)))) a_nil))))) (x_cons (x_set 4 nd (q_lst a_nil)) (x_cons (x_for PassesOwn.never rfl (i_rng1 (by rfl) m_range (q_bin o_add q_int (q_bin o_mod (q_callTy c_int (by rfl) m_int (by decide +kernel) (a_cons (q_ix (q_var 1) q_int (fun _ _ => rfl)) a_nil)) q_int))) (g_name 3 nd) (x_one (x_expr (q_m ty_list PySem.F.plainAttrs_list PySem.F.slot_list_append PySem.F.type_list_append m_append (q_var 4) (a_cons (q_tup (a_cons (q_bin o_add (q_bin o_add (q_bin o_mulS q_int (q_var 3)) q_int) (q_bin o_mod (q_callTy c_int (by rfl) m_int (by decide +kernel) (a_cons (q_ix (q_var 1) (q_bin o_add q_int (q_var 3)) (fun _ _ => rfl)) a_nil)) q_int)) (a_cons (q_bin o_mod (q_callTy c_int (by rfl) m_int (by decide +kernel) (a_cons (q_bin o_fdiv (q_ix (q_var 1) (q_bin o_add q_int (q_var 3)) (fun _ _ => rfl)) q_int) a_nil)) (q_callB c_len (by rfl) m_len PySem.boot_len (a_cons (q_var 2) a_nil))) (a_cons (q_bin o_add q_int (q_var 3)) a_nil)))) a_nil))))) (x_cons (x_set 5 nd (q_lst a_nil)) (x_cons (x_for PassesOwn.never rfl (i_rng1 (by rfl) m_range (q_bin o_add q_int (q_bin o_mod (q_callTy c_int (by rfl) m_int (by decide +kernel) (a_cons (q_ix (q_var 1) q_int (fun _ _ => rfl)) a_nil)) q_int))) (g_name 3 nd) (x_cons (x_set 6 nd (q_bin o_add q_int (q_bin o_mod (q_callTy c_int (by rfl) m_int (by decide +kernel) (a_cons (q_ix (q_var 1) (q_bin o_add q_int (q_var 3)) (fun _ _ => rfl)) a_nil)) q_int))) (x_cons (x_set 7 nd (q_bin o_add (q_bin o_add (q_var 6) q_int) (q_bin o_mod (q_callTy c_int (by rfl) m_int (by decide +kernel) (a_cons (q_ix (q_var 1) (q_bin o_add q_int (q_var 3)) (fun _ _ => rfl)) a_nil)) (q_ix (q_lst (a_cons q_int (a_cons q_int (a_cons q_int a_nil)))) (q_bin o_mod (q_callTy c_int (by rfl) m_int (by decide +kernel) (a_cons (q_ix (q_var 1) q_int (fun _ _ => rfl)) a_nil)) q_int) (fun _ _ => rfl))))) (x_cons (x_set 8 nd (q_ix (q_lst (a_cons (q_bin o_sub (q_var 6) q_int) (a_cons (q_bin o_add (q_var 6) q_int) (a_cons q_int (a_cons q_int a_nil))))) (q_bin o_mod (q_callTy c_int (by rfl) m_int (by decide +kernel) (a_cons (q_ix (q_var 1) q_int (fun _ _ => rfl)) a_nil)) q_int) (fun _ _ => rfl))) (x_one (x_expr (q_m ty_list PySem.F.plainAttrs_list PySem.F.slot_list_append PySem.F.type_list_append m_append (q_var 5) (a_cons (q_tup (a_cons (q_ix (q_strc [112, 113]) (q_var 3) (fun _ _ => rfl)) (a_cons (q_bin o_add q_int (q_bin o_mod (q_callTy c_int (by rfl) m_int (by decide +kernel) (a_cons (q_ix (q_var 1) (q_bin o_add q_int (q_var 3)) (fun _ _ => rfl)) a_nil)) q_int)) (a_cons (q_bin o_add q_int (q_var 3)) (a_cons (q_var 6) (a_cons (q_var 7) (a_cons (q_var 8) (a_cons (q_bin o_mod (q_bin o_add (q_var 8) (q_bin o_mod (q_callTy c_int (by rfl) m_int (by decide +kernel) (a_cons (q_ix (q_var 1) q_int (fun _ _ => rfl)) a_nil)) q_int)) q_int) a_nil)))))))) a_nil)))))))) (x_one (x_ret (q_tup (a_cons (q_callTy c_tuple (by rfl) m_tuple (by decide +kernel) (a_cons (q_var 2) a_nil)) (a_cons (q_callTy c_tuple (by rfl) m_tuple (by decide +kernel) (a_cons (q_var 4) a_nil)) (a_cons (q_callTy c_tuple (by rfl) m_tuple (by decide +kernel) (a_cons (q_var 5) a_nil)) a_nil)))))))))))))
theorem ok_law_clock_for {f : Addr} {fd : FuncData} (F : Fun K "_law_clock_for" "_law_clock_for" s_law_clock_for f fd) : FnOk P w K mg base CX0 1 f fd ["club", "clocks", "race", "ring"] (SpQ K 4 f_law_clock_for) :=
  okQ F sc_law_clock_for b_law_clock_for fun cdv A outer s H E hr => by
    have nd := sc_law_clock_for.nd
    exact (x_cons (x_set 4 nd (q_ix (q_lc (own := [("bird", 5)]) rfl nd (i_seq (q_ix (q_var 0) q_int (fun _ _ => rfl))) (blkOk_by (own := [("bird", 5)]) (N := ["club", "clocks", "race", "ring", "loft", "bird", "clock"]) (sc := defScope s_law_clock_for) (by decide +kernel)) (fun _ _ _ _ _ => n_name 5 nd (by decide)) (fun _ _ _ _ _ => (ts_one (t_cmp (o_eq hr) (q_ix (q_var 5) q_int (fun _ _ => rfl)) (q_var 3) (nomark _)))) (fun _ _ _ _ _ => (q_ix (q_var 5) q_int (fun _ _ => rfl)))) q_int (fun _ _ => rfl))) (x_one (x_ret (q_ix (q_lc (own := [("clock", 6)]) rfl nd (i_seq (q_var 1)) (blkOk_by (own := [("clock", 6)]) (N := ["club", "clocks", "race", "ring", "loft", "bird", "clock"]) (sc := defScope s_law_clock_for) (by decide +kernel)) (fun _ _ _ _ _ => n_name 6 nd (by decide)) (fun _ _ _ _ _ => (ts_one (t_cmp (o_eq hr) (q_slice (q_var 6) p_none (p_some q_int)) (q_tup (a_cons (q_var 2) (a_cons (q_var 4) a_nil))) (nomark _)))) (fun _ _ _ _ _ => (q_var 6))) (q_un o_neg q_int) (fun _ _ => rfl)))))
theorem ok_law_reading {f : Addr} {fd : FuncData} (F : Fun K "_law_reading" "_law_reading" s_law_reading f fd) (m_int : mg "int" = none) : FnOk P w K mg base CX0 1 f fd ["clock", "digit"] (SpQ K 2 f_law_reading) :=
  okQ F sc_law_reading b_law_reading fun cdv A outer s H E hr => by
    have nd := sc_law_reading.nd
    exact (x_one (x_ret (q_bin o_add (q_ix (q_var 0) q_int (fun _ _ => rfl)) (q_bin o_mod (q_callTy c_int (by rfl) m_int (by decide +kernel) (a_cons (q_bin o_mulS (q_var 1) q_int) a_nil)) (q_bin o_add (q_bin o_sub (q_ix (q_var 0) q_int (fun _ _ => rfl)) (q_ix (q_var 0) q_int (fun _ _ => rfl))) q_int)))))
theorem ok_law_slips {f : Addr} {fd : FuncData} (F : Fun K "_law_slips" "_law_slips" s_law_slips f fd) (C_law_cell : Cal P w K mg base "_law_cell" 2 1 f_law_cell) (C_law_padded : Cal P w K mg base "_law_padded" 2 2 f_law_padded) (C_law_clock_for : Cal P w K mg base "_law_clock_for" 4 1 f_law_clock_for) (C_law_reading : Cal P w K mg base "_law_reading" 2 1 f_law_reading) (m_range : mg "range" = none) (m_int : mg "int" = none) (m_len : mg "len" = none) : FnOk P w K mg base CX0 3 f fd ["script", "club", "clocks"] (SpQ K 3 f_law_slips) :=
  okQ F sc_law_slips b_law_slips fun cdv A outer s H E hr => by
    have nd := sc_law_slips.nd
    exact (x_cons (x_set 3 nd (q_lst a_nil)) (x_cons (x_for PassesOwn.never rfl (i_rng2 (by rfl) m_range q_int (q_bin o_add q_int (q_bin o_mod (q_callTy c_int (by rfl) m_int (by decide +kernel) (a_cons (q_call C_law_cell hr (by decide) (by rfl) (a_cons (q_var 0) (a_cons q_int a_nil))) a_nil)) q_int))) (g_name 4 nd) (x_cons (x_set 5 nd (q_call C_law_padded hr (by decide) (by rfl) (a_cons (q_call C_law_cell hr (by decide) (by rfl) (a_cons (q_var 0) (a_cons (q_var 4) a_nil))) (a_cons (q_var 4) a_nil)))) (x_cons (x_set 6 nd (q_bin o_mod (q_callTy c_int (by rfl) m_int (by decide +kernel) (a_cons (q_ix (q_var 5) q_int (fun _ _ => rfl)) a_nil)) (q_callB c_len (by rfl) m_len PySem.boot_len (a_cons (q_ix (q_var 1) q_int (fun _ _ => rfl)) a_nil)))) (x_cons (x_set 7 nd (q_ix (q_ix (q_ix (q_var 1) q_int (fun _ _ => rfl)) (q_bin o_mod (q_callTy c_int (by rfl) m_int (by decide +kernel) (a_cons (q_ix (q_var 5) q_int (fun _ _ => rfl)) a_nil)) (q_callB c_len (by rfl) m_len PySem.boot_len (a_cons (q_ix (q_var 1) q_int (fun _ _ => rfl)) a_nil))) (fun _ _ => rfl)) q_int (fun _ _ => rfl))) (x_cons (x_set 8 nd q_non) (x_cons (x_if (t_cmp o_gt (q_bin o_mod (q_callTy c_int (by rfl) m_int (by decide +kernel) (a_cons (q_ix (q_var 5) q_int (fun _ _ => rfl)) a_nil)) q_int) q_int (nomark _)) (x_one (x_set 8 nd (q_call C_law_reading hr (by decide) (by rfl) (a_cons (q_call C_law_clock_for hr (by decide) (by rfl) (a_cons (q_var 1) (a_cons (q_var 2) (a_cons (q_var 6) (a_cons (q_var 7) a_nil))))) (a_cons (q_bin o_mod (q_callTy c_int (by rfl) m_int (by decide +kernel) (a_cons (q_ix (q_var 5) q_int (fun _ _ => rfl)) a_nil)) (q_ix (q_lst (a_cons q_int (a_cons q_int a_nil))) (q_bin o_mod (q_callTy c_int (by rfl) m_int (by decide +kernel) (a_cons (q_ix (q_var 5) q_int (fun _ _ => rfl)) a_nil)) q_int) (fun _ _ => rfl))) a_nil))))) x_nil) (x_one (x_expr (q_m ty_list PySem.F.plainAttrs_list PySem.F.slot_list_append PySem.F.type_list_append m_append (q_var 3) (a_cons (q_tup (a_cons (q_var 6) (a_cons (q_var 7) (a_cons (q_var 8) a_nil)))) a_nil)))))))))) (x_one (x_ret (q_var 3)))))
theorem ok_law_given {f : Addr} {fd : FuncData} (F : Fun K "_law_given" "_law_given" s_law_given f fd) (C_law_club : Cal P w K mg base "_law_club" 1 3 f_law_club) (C_law_clocks : Cal P w K mg base "_law_clocks" 2 3 f_law_clocks) (C_law_slips : Cal P w K mg base "_law_slips" 3 3 f_law_slips) : FnOk P w K mg base CX0 4 f fd ["script"] (SpQ K 1 f_law_given) :=
  okQ F sc_law_given b_law_given fun cdv A outer s H E hr => by
    have nd := sc_law_given.nd
    exact (x_cons (x_set 1 nd (q_call C_law_club hr (by decide) (by rfl) (a_cons (q_var 0) a_nil))) (x_cons (x_set 2 nd (q_call C_law_clocks hr (by decide) (by rfl) (a_cons (q_var 0) (a_cons (q_var 1) a_nil)))) (x_one (x_ret (q_tup (a_cons (q_var 1) (a_cons (q_var 2) (a_cons (q_call C_law_slips hr (by decide) (by rfl) (a_cons (q_var 0) (a_cons (q_var 1) (a_cons (q_var 2) a_nil)))) a_nil))))))))
theorem ok_law_less {f : Addr} {fd : FuncData} (F : Fun K "_law_less" "_law_less" s_law_less f fd) : FnOk P w K mg base CX0 1 f fd ["one", "other"] (SpQ K 2 f_law_less) :=
  okQ F sc_law_less b_law_less fun cdv A outer s H E hr => by
    have nd := sc_law_less.nd
    exact (x_one (x_ret (q_cmp o_lt (q_bin o_mulS (q_ix (q_var 0) q_int (fun _ _ => rfl)) (q_ix (q_var 1) q_int (fun _ _ => rfl))) (q_bin o_mulS (q_ix (q_var 1) q_int (fun _ _ => rfl)) (q_ix (q_var 0) q_int (fun _ _ => rfl))) (nomark _))))
theorem ok_law_now {f : Addr} {fd : FuncData} (F : Fun K "_law_now" "_law_now" s_law_now f fd) (m_int : mg "int" = none) : FnOk P w K mg base CX0 1 f fd ["club", "race", "cell"] (SpQ K 3 f_law_now) :=
  okQ F sc_law_now b_law_now fun cdv A outer s H E hr => by
    have nd := sc_law_now.nd
    exact (x_cons (x_set 3 nd (q_ix (q_ix (q_ix (q_var 0) q_int (fun _ _ => rfl)) (q_var 1) (fun _ _ => rfl)) q_int (fun _ _ => rfl))) (x_cons (x_set 4 nd (q_ix (q_ix (q_ix (q_var 0) q_int (fun _ _ => rfl)) (q_var 1) (fun _ _ => rfl)) q_int (fun _ _ => rfl))) (x_one (x_ret (q_bin o_add (q_var 3) (q_bin o_mod (q_callTy c_int (by rfl) m_int (by decide +kernel) (a_cons (q_var 2) a_nil)) (q_bin o_add (q_bin o_sub (q_var 4) (q_var 3)) q_int)))))))
theorem ok_dark_of_day {f : Addr} {fd : FuncData} (F : Fun K "dark_of_day" "dark_of_day" s_dark_of_day f fd) (m_min : mg "min" = none) (m_max : mg "max" = none) : FnOk P w K mg base CX0 1 f fd ["dusk", "dawn", "end"] (SpQ K 3 f_dark_of_day) :=
  okQ F sc_dark_of_day b_dark_of_day fun cdv A outer s H E hr => by
    have nd := sc_dark_of_day.nd
    exact (x_cons (x_if (t_cmp o_le (q_var 0) (q_var 1) (nomark _)) (x_one (x_ret (q_callB (c_max2 rfl) (by rfl) m_max (by decide +kernel) (a_cons q_int (a_cons (q_bin o_sub (q_callB (c_min2 rfl) (by rfl) m_min (by decide +kernel) (a_cons (q_var 2) (a_cons (q_var 1) a_nil))) (q_var 0)) a_nil))))) x_nil) (x_one (x_ret (q_bin o_add (q_callB (c_min2 rfl) (by rfl) m_min (by decide +kernel) (a_cons (q_var 2) (a_cons (q_var 1) a_nil))) (q_callB (c_max2 rfl) (by rfl) m_max (by decide +kernel) (a_cons q_int (a_cons (q_bin o_sub (q_var 2) (q_var 0)) a_nil)))))))
theorem ok_lowest {f : Addr} {fd : FuncData} (F : Fun K "lowest" "lowest" s_lowest f fd) (m_gcd : mg "gcd" = some (.builtin "math.gcd")) : FnOk P w K mg base CX0 1 f fd ["p", "q"] (SpQ K 2 f_lowest) :=
  okQ F sc_lowest b_lowest fun cdv A outer s H E hr => by
    have nd := sc_lowest.nd
    exact (x_cons (x_set 2 nd (q_callF c_gcd (by rfl) m_gcd (a_cons (q_var 0) (a_cons (q_var 1) a_nil)))) (x_cons (x_if (t_cmp o_lt (q_var 1) q_int (nomark _)) (x_one (x_set 2 nd (q_un o_neg (q_var 2)))) x_nil) (x_one (x_ret (q_tup (a_cons (q_bin o_fdiv (q_var 0) (q_var 2)) (a_cons (q_bin o_fdiv (q_var 1) (q_var 2)) a_nil)))))))
theorem ok_dark_until {f : Addr} {fd : FuncData} (F : Fun K "dark_until" "dark_until" s_dark_until f fd) (C_dark_of_day : Cal P w K mg base "dark_of_day" 3 1 f_dark_of_day) (C_lowest : Cal P w K mg base "lowest" 2 1 f_lowest) {t_DAY : Tok} (m_DAY : mg "DAY" = some (.int 1440 t_DAY)) : FnOk P w K mg base CX0 2 f fd ["race", "time"] (SpQ K 2 f_dark_until) :=
  okQ F sc_dark_until b_dark_until fun cdv A outer s H E hr => by
    have nd := sc_dark_until.nd
    exact (x_cons (x_par 2 3 rfl nd (q_ix (q_var 0) q_int (fun _ _ => rfl)) (q_ix (q_var 0) q_int (fun _ _ => rfl))) (x_cons (x_asg (q_var 1) (g_tup (n := 2) rfl (gs_cons (g_name 4 nd) (gs_cons (g_name 5 nd) gs_nil)))) (x_cons (x_set 6 nd (q_bin o_fdiv (q_var 4) (q_bin o_mulS (q_globI (by rfl) m_DAY) (q_var 5)))) (x_cons (x_set 7 nd (q_bin o_mulS (q_bin o_mulS (q_var 6) (q_bin o_mod (q_bin o_sub (q_var 3) (q_var 2)) (q_globI (by rfl) m_DAY))) (q_var 5))) (x_one (x_ret (q_call C_lowest hr (by decide) (by rfl) (a_cons (q_bin o_add (q_var 7) (q_call C_dark_of_day hr (by decide) (by rfl) (a_cons (q_bin o_mulS (q_var 2) (q_var 5)) (a_cons (q_bin o_mulS (q_var 3) (q_var 5)) (a_cons (q_bin o_sub (q_var 4) (q_bin o_mulS (q_bin o_mulS (q_var 6) (q_globI (by rfl) m_DAY)) (q_var 5))) a_nil))))) (a_cons (q_var 5) a_nil)))))))))
theorem ok_minus {f : Addr} {fd : FuncData} (F : Fun K "minus" "minus" s_minus f fd) (C_lowest : Cal P w K mg base "lowest" 2 1 f_lowest) : FnOk P w K mg base CX0 2 f fd ["one", "other"] (SpQ K 2 f_minus) :=
  okQ F sc_minus b_minus fun cdv A outer s H E hr => by
    have nd := sc_minus.nd
    exact (x_cons (x_asg (q_var 0) (g_tup (n := 2) rfl (gs_cons (g_name 2 nd) (gs_cons (g_name 3 nd) gs_nil)))) (x_cons (x_asg (q_var 1) (g_tup (n := 2) rfl (gs_cons (g_name 4 nd) (gs_cons (g_name 5 nd) gs_nil)))) (x_one (x_ret (q_call C_lowest hr (by decide) (by rfl) (a_cons (q_bin o_sub (q_bin o_mulS (q_var 2) (q_var 5)) (q_bin o_mulS (q_var 4) (q_var 3))) (a_cons (q_bin o_mulS (q_var 3) (q_var 5)) a_nil)))))))
theorem ok_dark_part {f : Addr} {fd : FuncData} (F : Fun K "dark_part" "dark_part" s_dark_part f fd) (C_dark_until : Cal P w K mg base "dark_until" 2 2 f_dark_until) (C_minus : Cal P w K mg base "minus" 2 2 f_minus) : FnOk P w K mg base CX0 3 f fd ["race", "first", "last"] (SpQ K 3 f_dark_part) :=
  okQ F sc_dark_part b_dark_part fun cdv A outer s H E hr => by
    have nd := sc_dark_part.nd
    exact (x_one (x_ret (q_call C_minus hr (by decide) (by rfl) (a_cons (q_call C_dark_until hr (by decide) (by rfl) (a_cons (q_var 0) (a_cons (q_var 2) a_nil))) (a_cons (q_call C_dark_until hr (by decide) (by rfl) (a_cons (q_var 0) (a_cons (q_var 1) a_nil))) a_nil)))))
theorem ok_flight {f : Addr} {fd : FuncData} (F : Fun K "flight" "flight" s_flight f fd) (C_minus : Cal P w K mg base "minus" 2 2 f_minus) (C_dark_part : Cal P w K mg base "dark_part" 3 3 f_dark_part) : FnOk P w K mg base CX0 4 f fd ["race", "time"] (SpQ K 2 f_flight) :=
  okQ F sc_flight b_flight fun cdv A outer s H E hr => by
    have nd := sc_flight.nd
    exact (x_cons (x_set 2 nd (q_tup (a_cons (q_ix (q_var 0) q_int (fun _ _ => rfl)) (a_cons q_int a_nil)))) (x_one (x_ret (q_call C_minus hr (by decide) (by rfl) (a_cons (q_call C_minus hr (by decide) (by rfl) (a_cons (q_var 1) (a_cons (q_var 2) a_nil))) (a_cons (q_call C_dark_part hr (by decide) (by rfl) (a_cons (q_var 0) (a_cons (q_var 2) (a_cons (q_var 1) a_nil)))) a_nil))))))
theorem ok_square_distance {f : Addr} {fd : FuncData} (F : Fun K "square_distance" "square_distance" s_square_distance f fd) : FnOk P w K mg base CX0 1 f fd ["club", "race", "loft"] (SpQ K 3 f_square_distance) :=
  okQ F sc_square_distance b_square_distance fun cdv A outer s H E hr => by
    have nd := sc_square_distance.nd
    exact (x_cons (x_asg (q_var 0) (g_tup (n := 3) rfl (gs_cons (g_name 3 nd) (gs_cons (g_name 4 nd) (gs_cons (g_name 5 nd) gs_nil))))) (x_cons (x_set 6 nd (q_bin o_sub (q_ix (q_ix (q_var 5) (q_var 1) (fun _ _ => rfl)) q_int (fun _ _ => rfl)) (q_ix (q_ix (q_var 3) (q_var 2) (fun _ _ => rfl)) q_int (fun _ _ => rfl)))) (x_cons (x_set 7 nd (q_bin o_sub (q_ix (q_ix (q_var 5) (q_var 1) (fun _ _ => rfl)) q_int (fun _ _ => rfl)) (q_ix (q_ix (q_var 3) (q_var 2) (fun _ _ => rfl)) q_int (fun _ _ => rfl)))) (x_one (x_ret (q_bin o_add (q_bin o_mulS (q_var 6) (q_var 6)) (q_bin o_mulS (q_var 7) (q_var 7))))))))
theorem ok_law_speed {f : Addr} {fd : FuncData} (F : Fun K "_law_speed" "_law_speed" s_law_speed f fd) (C_law_less : Cal P w K mg base "_law_less" 2 1 f_law_less) (C_flight : Cal P w K mg base "flight" 2 4 f_flight) (C_square_distance : Cal P w K mg base "square_distance" 3 1 f_square_distance) : FnOk P w K mg base CX0 5 f fd ["club", "race", "ring", "time"] (SpQ K 4 f_law_speed) :=
  okQ F sc_law_speed b_law_speed fun cdv A outer s H E hr => by
    have nd := sc_law_speed.nd
    exact (x_cons (x_if (t_val (q_call C_law_less hr (by decide) (by rfl) (a_cons (q_tup (a_cons (q_ix (q_ix (q_ix (q_var 0) q_int (fun _ _ => rfl)) (q_var 1) (fun _ _ => rfl)) q_int (fun _ _ => rfl)) (a_cons q_int a_nil))) (a_cons (q_var 3) a_nil)))) (x_one (x_ret q_non)) x_nil) (x_cons (x_set 4 nd (q_call C_flight hr (by decide) (by rfl) (a_cons (q_ix (q_ix (q_var 0) q_int (fun _ _ => rfl)) (q_var 1) (fun _ _ => rfl)) (a_cons (q_var 3) a_nil)))) (x_cons (x_if (t_cmp o_le (q_ix (q_var 4) q_int (fun _ _ => rfl)) q_int (nomark _)) (x_one (x_ret q_non)) x_nil) (x_cons (x_set 5 nd (q_ix (q_lc (own := [("bird", 6)]) rfl nd (i_seq (q_ix (q_var 0) q_int (fun _ _ => rfl))) (blkOk_by (own := [("bird", 6)]) (N := ["club", "race", "ring", "time", "flown", "loft", "bird"]) (sc := defScope s_law_speed) (by decide +kernel)) (fun _ _ _ _ _ => n_name 6 nd (by decide)) (fun _ _ _ _ _ => (ts_one (t_cmp (o_eq hr) (q_ix (q_var 6) q_int (fun _ _ => rfl)) (q_var 2) (nomark _)))) (fun _ _ _ _ _ => (q_ix (q_var 6) q_int (fun _ _ => rfl)))) q_int (fun _ _ => rfl))) (x_one (x_ret (q_tup (a_cons (q_bin o_mulS (q_bin o_mulS (q_call C_square_distance hr (by decide) (by rfl) (a_cons (q_var 0) (a_cons (q_var 1) (a_cons (q_var 5) a_nil)))) (q_ix (q_var 4) q_int (fun _ _ => rfl))) (q_ix (q_var 4) q_int (fun _ _ => rfl))) (a_cons (q_bin o_mulS (q_ix (q_var 4) q_int (fun _ _ => rfl)) (q_ix (q_var 4) q_int (fun _ _ => rfl))) a_nil)))))))))
theorem ok_law_times {f : Addr} {fd : FuncData} (F : Fun K "_law_times" "_law_times" s_law_times f fd) (C_flight : Cal P w K mg base "flight" 2 4 f_flight) : FnOk P w K mg base CX0 5 f fd ["club", "race", "now"] (SpQ K 3 f_law_times) :=
  okQ F sc_law_times b_law_times fun cdv A outer s H E hr => by
    have nd := sc_law_times.nd
    exact (x_cons (x_set 3 nd (q_lst a_nil)) (x_cons (x_set 4 nd (q_ix (q_ix (q_ix (q_var 0) q_int (fun _ _ => rfl)) (q_var 1) (fun _ _ => rfl)) q_int (fun _ _ => rfl))) (x_cons (x_for PassesOwn.never rfl (i_seq (q_lst (a_cons (q_var 2) (a_cons (q_bin o_add (q_var 2) q_int) (a_cons (q_bin o_add (q_var 2) q_int) (a_cons (q_bin o_add (q_var 2) q_int) (a_cons (q_var 4) a_nil))))))) (g_name 5 nd) (x_one (x_if (t_cmp o_le (q_var 5) (q_var 4) (nomark _)) (x_one (x_expr (q_m ty_list PySem.F.plainAttrs_list PySem.F.slot_list_append PySem.F.type_list_append m_append (q_var 3) (a_cons (q_tup (a_cons (q_var 5) (a_cons q_int a_nil))) a_nil)))) x_nil))) (x_cons (x_set 5 nd (q_var 2)) (x_cons (x_while PassesOwn.never (t_w (w_and (t_cmp o_lt (q_var 5) (q_var 4) (nomark _)) (w_and1 (t_cmp (o_eq hr) (q_ix (q_call C_flight hr (by decide) (by rfl) (a_cons (q_ix (q_ix (q_var 0) q_int (fun _ _ => rfl)) (q_var 1) (fun _ _ => rfl)) (a_cons (q_tup (a_cons (q_bin o_add (q_var 5) q_int) (a_cons q_int a_nil))) a_nil))) q_int (fun _ _ => rfl)) q_int (nomark _))))) (x_one (x_set 5 nd (q_bin o_add (q_var 5) q_int)))) (x_cons (x_if (t_w (w_and (t_cmp (o_eq hr) (q_ix (q_call C_flight hr (by decide) (by rfl) (a_cons (q_ix (q_ix (q_var 0) q_int (fun _ _ => rfl)) (q_var 1) (fun _ _ => rfl)) (a_cons (q_tup (a_cons (q_var 2) (a_cons q_int a_nil))) a_nil))) q_int (fun _ _ => rfl)) q_int (nomark _)) (w_and1 (t_cmp o_lt (q_var 5) (q_var 4) (nomark _))))) (x_one (x_for PassesOwn.never rfl (i_seq (q_lst (a_cons q_int (a_cons q_int (a_cons q_int (a_cons (q_bin o_pow q_int q_int) a_nil)))))) (g_name 6 nd) (x_one (x_expr (q_m ty_list PySem.F.plainAttrs_list PySem.F.slot_list_append PySem.F.type_list_append m_append (q_var 3) (a_cons (q_tup (a_cons (q_bin o_add (q_bin o_mulS (q_var 5) (q_var 6)) q_int) (a_cons (q_var 6) a_nil))) a_nil)))))) x_nil) (x_one (x_ret (q_var 3)))))))))
theorem ok_is_less {f : Addr} {fd : FuncData} (F : Fun K "is_less" "is_less" s_is_less f fd) : FnOk P w K mg base CX0 1 f fd ["one", "other"] (SpQ K 2 f_is_less) :=
  okQ F sc_is_less b_is_less fun cdv A outer s H E hr => by
    have nd := sc_is_less.nd
    exact (x_cons (x_asg (q_var 0) (g_tup (n := 2) rfl (gs_cons (g_name 2 nd) (gs_cons (g_name 3 nd) gs_nil)))) (x_cons (x_asg (q_var 1) (g_tup (n := 2) rfl (gs_cons (g_name 4 nd) (gs_cons (g_name 5 nd) gs_nil)))) (x_one (x_ret (q_cmp o_lt (q_bin o_mulS (q_var 2) (q_var 5)) (q_bin o_mulS (q_var 4) (q_var 3)) (nomark _))))))
theorem ok_can_count {f : Addr} {fd : FuncData} (F : Fun K "can_count" "can_count" s_can_count f fd) (C_flight : Cal P w K mg base "flight" 2 4 f_flight) (C_is_less : Cal P w K mg base "is_less" 2 1 f_is_less) {a_NOUGHT_outlook : Addr} (m_NOUGHT_outlook : mg "NOUGHT_outlook" = some (.ref a_NOUGHT_outlook)) (y_NOUGHT_outlook : TupK K a_NOUGHT_outlook [0, 1]) : FnOk P w K mg base CX0 5 f fd ["club", "race"] (SpQ K 2 f_can_count) :=
  okQ F sc_can_count b_can_count fun cdv A outer s H E hr => by
    have nd := sc_can_count.nd
    exact (x_cons (x_set 2 nd (q_ix (q_ix (q_var 0) q_int (fun _ _ => rfl)) (q_var 1) (fun _ _ => rfl))) (x_one (x_ret (q_call C_is_less hr (by decide) (by rfl) (a_cons (q_globT (ns := [0, 1]) (by rfl) m_NOUGHT_outlook y_NOUGHT_outlook) (a_cons (q_call C_flight hr (by decide) (by rfl) (a_cons (q_var 2) (a_cons (q_tup (a_cons (q_ix (q_var 2) q_int (fun _ _ => rfl)) (a_cons q_int a_nil))) a_nil))) a_nil))))))
theorem ok_number_of {f : Addr} {fd : FuncData} (F : Fun K "number_of" "number_of" s_number_of f fd) (m_enumerate : mg "enumerate" = none) : FnOk P w K mg base CX0 1 f fd ["rows", "first"] (SpQ K 2 f_number_of) :=
  okQ F sc_number_of b_number_of fun cdv A outer s H E hr => by
    have nd := sc_number_of.nd
    exact (x_cons (x_forE PassesOwn.never rfl (by rfl) m_enumerate (q_var 0) (g_tup (n := 2) rfl (gs_cons (g_name 2 nd) (gs_cons (g_name 3 nd) gs_nil))) (x_one (x_if (t_cmp (o_eq hr) (q_ix (q_var 3) q_int (fun _ _ => rfl)) (q_var 1) (nomark _)) (x_one (x_ret (q_var 2))) x_nil))) (x_one (x_ret q_non)))
theorem ok_bird_of {f : Addr} {fd : FuncData} (F : Fun K "bird_of" "bird_of" s_bird_of f fd) (C_number_of : Cal P w K mg base "number_of" 2 1 f_number_of) {t_BIRD : Tok} (m_BIRD : mg "BIRD" = some (.int 1 t_BIRD)) : FnOk P w K mg base CX0 2 f fd ["club", "ring"] (SpQ K 2 f_bird_of) :=
  okQ F sc_bird_of b_bird_of fun cdv A outer s H E hr => by
    have nd := sc_bird_of.nd
    exact (x_cons (x_set 2 nd (q_call C_number_of hr (by decide) (by rfl) (a_cons (q_ix (q_var 0) (q_globI (by rfl) m_BIRD) (fun _ _ => rfl)) (a_cons (q_var 1) a_nil)))) (x_cons (x_if (t_cmp o_is (q_var 2) q_non (nomark _)) (x_one x_bad) x_nil) (x_one (x_ret (q_var 2)))))
theorem ok_over {f : Addr} {fd : FuncData} (F : Fun K "over" "over" s_over f fd) (C_lowest : Cal P w K mg base "lowest" 2 1 f_lowest) : FnOk P w K mg base CX0 2 f fd ["one", "other"] (SpQ K 2 f_over) :=
  okQ F sc_over b_over fun cdv A outer s H E hr => by
    have nd := sc_over.nd
    exact (x_cons (x_asg (q_var 0) (g_tup (n := 2) rfl (gs_cons (g_name 2 nd) (gs_cons (g_name 3 nd) gs_nil)))) (x_cons (x_asg (q_var 1) (g_tup (n := 2) rfl (gs_cons (g_name 4 nd) (gs_cons (g_name 5 nd) gs_nil)))) (x_one (x_ret (q_call C_lowest hr (by decide) (by rfl) (a_cons (q_bin o_mulS (q_var 2) (q_var 5)) (a_cons (q_bin o_mulS (q_var 3) (q_var 4)) a_nil)))))))
theorem ok_times {f : Addr} {fd : FuncData} (F : Fun K "times" "times" s_times f fd) (C_lowest : Cal P w K mg base "lowest" 2 1 f_lowest) : FnOk P w K mg base CX0 2 f fd ["one", "other"] (SpQ K 2 f_times) :=
  okQ F sc_times b_times fun cdv A outer s H E hr => by
    have nd := sc_times.nd
    exact (x_cons (x_asg (q_var 0) (g_tup (n := 2) rfl (gs_cons (g_name 2 nd) (gs_cons (g_name 3 nd) gs_nil)))) (x_cons (x_asg (q_var 1) (g_tup (n := 2) rfl (gs_cons (g_name 4 nd) (gs_cons (g_name 5 nd) gs_nil)))) (x_one (x_ret (q_call C_lowest hr (by decide) (by rfl) (a_cons (q_bin o_mulS (q_var 2) (q_var 4)) (a_cons (q_bin o_mulS (q_var 3) (q_var 5)) a_nil)))))))
theorem ok_speed_at {f : Addr} {fd : FuncData} (F : Fun K "speed_at" "speed_at" s_speed_at f fd) (C_is_less : Cal P w K mg base "is_less" 2 1 f_is_less) (C_flight : Cal P w K mg base "flight" 2 4 f_flight) (C_square_distance : Cal P w K mg base "square_distance" 3 1 f_square_distance) (C_times : Cal P w K mg base "times" 2 2 f_times) (C_over : Cal P w K mg base "over" 2 2 f_over) {a_NOUGHT_flights : Addr} (m_NOUGHT_flights : mg "NOUGHT_flights" = some (.ref a_NOUGHT_flights)) (y_NOUGHT_flights : TupK K a_NOUGHT_flights [0, 1]) : FnOk P w K mg base CX0 5 f fd ["club", "race", "loft", "time"] (SpQ K 4 f_speed_at) :=
  okQ F sc_speed_at b_speed_at fun cdv A outer s H E hr => by
    have nd := sc_speed_at.nd
    exact (x_cons (x_set 4 nd (q_ix (q_ix (q_var 0) q_int (fun _ _ => rfl)) (q_var 1) (fun _ _ => rfl))) (x_cons (x_if (t_w (w_or (t_val (q_call C_is_less hr (by decide) (by rfl) (a_cons (q_var 3) (a_cons (q_tup (a_cons (q_ix (q_var 4) q_int (fun _ _ => rfl)) (a_cons q_int a_nil))) a_nil)))) (w_or1 (t_val (q_call C_is_less hr (by decide) (by rfl) (a_cons (q_tup (a_cons (q_ix (q_var 4) q_int (fun _ _ => rfl)) (a_cons q_int a_nil))) (a_cons (q_var 3) a_nil))))))) (x_one (x_ret q_non)) x_nil) (x_cons (x_set 5 nd (q_call C_flight hr (by decide) (by rfl) (a_cons (q_var 4) (a_cons (q_var 3) a_nil)))) (x_cons (x_if (t_not (t_val (q_call C_is_less hr (by decide) (by rfl) (a_cons (q_globT (ns := [0, 1]) (by rfl) m_NOUGHT_flights y_NOUGHT_flights) (a_cons (q_var 5) a_nil))))) (x_one (x_ret q_non)) x_nil) (x_one (x_ret (q_call C_over hr (by decide) (by rfl) (a_cons (q_tup (a_cons (q_call C_square_distance hr (by decide) (by rfl) (a_cons (q_var 0) (a_cons (q_var 1) (a_cons (q_var 2) a_nil)))) (a_cons q_int a_nil))) (a_cons (q_call C_times hr (by decide) (by rfl) (a_cons (q_var 5) (a_cons (q_var 5) a_nil))) a_nil)))))))))
theorem ok_speed_home {f : Addr} {fd : FuncData} (F : Fun K "speed_home" "speed_home" s_speed_home f fd) (C_bird_of : Cal P w K mg base "bird_of" 2 2 f_bird_of) (C_speed_at : Cal P w K mg base "speed_at" 4 5 f_speed_at) : FnOk P w K mg base CX0 6 f fd ["club", "race", "ring", "time"] (SpQ K 4 f_speed_home) :=
  okQ F sc_speed_home b_speed_home fun cdv A outer s H E hr => by
    have nd := sc_speed_home.nd
    exact (x_one (x_ret (q_call C_speed_at hr (by decide) (by rfl) (a_cons (q_var 0) (a_cons (q_var 1) (a_cons (q_ix (q_ix (q_ix (q_var 0) q_int (fun _ _ => rfl)) (q_call C_bird_of hr (by decide) (by rfl) (a_cons (q_var 0) (a_cons (q_var 2) a_nil))) (fun _ _ => rfl)) q_int (fun _ _ => rfl)) (a_cons (q_var 3) a_nil)))))))
theorem ok_can_be_ahead {f : Addr} {fd : FuncData} (F : Fun K "can_be_ahead" "can_be_ahead" s_can_be_ahead f fd) (C_speed_home : Cal P w K mg base "speed_home" 4 6 f_speed_home) (C_can_count : Cal P w K mg base "can_count" 2 5 f_can_count) (C_is_less : Cal P w K mg base "is_less" 2 1 f_is_less) : FnOk P w K mg base CX0 7 f fd ["club", "race", "ring", "now", "speed"] (SpQ K 5 f_can_be_ahead) :=
  okQ F sc_can_be_ahead b_can_be_ahead fun cdv A outer s H E hr => by
    have nd := sc_can_be_ahead.nd
    exact (x_cons (x_set 5 nd (q_call C_speed_home hr (by decide) (by rfl) (a_cons (q_var 0) (a_cons (q_var 1) (a_cons (q_var 2) (a_cons (q_tup (a_cons (q_var 3) (a_cons q_int a_nil))) a_nil)))))) (x_cons (x_if (t_cmp o_is (q_var 5) q_non (nomark _)) (x_one (x_ret (q_call C_can_count hr (by decide) (by rfl) (a_cons (q_var 0) (a_cons (q_var 1) a_nil))))) x_nil) (x_one (x_ret (q_call C_is_less hr (by decide) (by rfl) (a_cons (q_var 4) (a_cons (q_var 5) a_nil)))))))
theorem ok_counting {f : Addr} {fd : FuncData} (F : Fun K "counting" "counting" s_counting f fd) (m_sorted : mg "sorted" = none) : FnOk P w K mg base CX0 1 f fd ["rows"] (SpQ K 1 f_counting) :=
  okQ F sc_counting b_counting fun cdv A outer s H E hr => by
    have nd := sc_counting.nd
    exact (x_cons (x_set 1 nd q_dnewT) (x_cons (x_for PassesOwn.never rfl (i_seq (q_var 0)) (g_name 2 nd) (x_one (x_dputT hr (q_var 2) (q_var 1) (a_cons (q_ix (q_var 2) q_int (fun _ _ => rfl)) (a_cons (q_ix (q_var 2) q_int (fun _ _ => rfl)) a_nil))))) (x_one (x_ret (q_lc (own := [("key", 3)]) rfl nd (i_seq (q_callB (c_sortedT rfl hr) (by rfl) m_sorted (by decide +kernel) (a_cons (q_var 1) a_nil))) (blkOk_by (own := [("key", 3)]) (N := ["rows", "last", "row", "key"]) (sc := defScope s_counting) (by decide +kernel)) (fun _ _ _ _ _ => n_name 3 nd (by decide)) (fun _ _ _ _ _ => ts_nil) (fun _ _ _ _ _ => (q_dget hr (q_var 1) (q_var 3) (fun _ _ => rfl))))))))
theorem ok_ranked {f : Addr} {fd : FuncData} (F : Fun K "ranked" "ranked" s_ranked f fd) (C_is_less : Cal P w K mg base "is_less" 2 1 f_is_less) (m_len : mg "len" = none) (m_sorted : mg "sorted" = none) : FnOk P w K mg base CX0 2 f fd ["pairs"] (SpQ K 1 f_ranked) :=
  okQ F sc_ranked b_ranked fun cdv A outer s H E hr => by
    have nd := sc_ranked.nd
    exact (x_cons (x_set 1 nd (q_lst a_nil)) (x_cons (x_for PassesOwn.never rfl (i_seq (q_var 0)) (g_tup (n := 2) rfl (gs_cons (g_name 2 nd) (gs_cons (g_name 3 nd) gs_nil))) (x_cons (x_setLc 4 (own := [("_", 5), ("other", 6)]) rfl nd (by rfl) (by rfl) (by rfl) (i_seq (q_var 0)) (blkOk_by (own := [("_", 5), ("other", 6)]) (N := ["pairs", "rows", "number", "told", "ahead", "_", "other"]) (sc := defScope s_ranked) (by decide +kernel)) (fun _ _ _ _ _ => n_tup (n := 2) rfl (ns_cons (n_name 5 nd (by decide)) (ns_cons (n_name 6 nd (by decide)) ns_nil))) (fun _ _ _ _ _ => (ts_one (t_val (q_call C_is_less hr (by decide) (by rfl) (a_cons (q_var 3) (a_cons (q_var 6) a_nil)))))) (fun _ _ _ _ _ => (q_var 6))) (x_one (x_expr (q_m ty_list PySem.F.plainAttrs_list PySem.F.slot_list_append PySem.F.type_list_append m_append (q_var 1) (a_cons (q_tup (a_cons (q_bin o_add (q_callB c_len (by rfl) m_len PySem.boot_len (a_cons (q_var 4) a_nil)) q_int) (a_cons (q_var 2) (a_cons (q_var 3) a_nil)))) a_nil)))))) (x_one (x_ret (q_callB (c_sortedD hr) (by rfl) m_sorted (by decide +kernel) (a_cons (q_var 1) a_nil))))))
theorem ok_clock_of {f : Addr} {fd : FuncData} (F : Fun K "clock_of" "clock_of" s_clock_of f fd) : FnOk P w K mg base CX0 1 f fd ["clocks", "race", "loft"] (SpQ K 3 f_clock_of) :=
  okQ F sc_clock_of b_clock_of fun cdv A outer s H E hr => by
    have nd := sc_clock_of.nd
    exact (x_cons (x_set 3 nd q_non) (x_cons (x_for PassesOwn.never rfl (i_seq (q_var 0)) (g_name 4 nd) (x_one (x_if (t_cmp (o_eq hr) (q_tup (a_cons (q_ix (q_var 4) q_int (fun _ _ => rfl)) (a_cons (q_ix (q_var 4) q_int (fun _ _ => rfl)) a_nil))) (q_tup (a_cons (q_var 1) (a_cons (q_var 2) a_nil))) (nomark _)) (x_one (x_set 3 nd (q_var 4))) x_nil))) (x_one (x_ret (q_var 3)))))
theorem ok_plus {f : Addr} {fd : FuncData} (F : Fun K "plus" "plus" s_plus f fd) (C_lowest : Cal P w K mg base "lowest" 2 1 f_lowest) : FnOk P w K mg base CX0 2 f fd ["one", "other"] (SpQ K 2 f_plus) :=
  okQ F sc_plus b_plus fun cdv A outer s H E hr => by
    have nd := sc_plus.nd
    exact (x_cons (x_asg (q_var 0) (g_tup (n := 2) rfl (gs_cons (g_name 2 nd) (gs_cons (g_name 3 nd) gs_nil)))) (x_cons (x_asg (q_var 1) (g_tup (n := 2) rfl (gs_cons (g_name 4 nd) (gs_cons (g_name 5 nd) gs_nil)))) (x_one (x_ret (q_call C_lowest hr (by decide) (by rfl) (a_cons (q_bin o_add (q_bin o_mulS (q_var 2) (q_var 5)) (q_bin o_mulS (q_var 4) (q_var 3))) (a_cons (q_bin o_mulS (q_var 3) (q_var 5)) a_nil)))))))
theorem ok_true_time {f : Addr} {fd : FuncData} (F : Fun K "true_time" "true_time" s_true_time f fd) (C_lowest : Cal P w K mg base "lowest" 2 1 f_lowest) (C_plus : Cal P w K mg base "plus" 2 2 f_plus) : FnOk P w K mg base CX0 3 f fd ["clock", "reading"] (SpQ K 2 f_true_time) :=
  okQ F sc_true_time b_true_time fun cdv A outer s H E hr => by
    have nd := sc_true_time.nd
    exact (x_cons (x_asg (q_var 0) (g_tup (n := 5) rfl (gs_cons (g_name 2 nd) (gs_cons (g_name 2 nd) (gs_cons (g_name 3 nd) (gs_cons (g_name 4 nd) (gs_cons (g_name 5 nd) gs_nil))))))) (x_cons (x_if (t_not (t_chain o_le o_le (q_var 3) (q_var 1) (q_var 5))) (x_one (x_ret q_non)) x_nil) (x_one (x_ret (q_call C_plus hr (by decide) (by rfl) (a_cons (q_tup (a_cons (q_var 3) (a_cons q_int a_nil))) (a_cons (q_call C_lowest hr (by decide) (by rfl) (a_cons (q_bin o_mulS (q_bin o_sub (q_var 1) (q_var 3)) (q_bin o_sub (q_var 4) (q_var 3))) (a_cons (q_bin o_sub (q_var 5) (q_var 3)) a_nil))) a_nil)))))))
theorem ok_speed {f : Addr} {fd : FuncData} (F : Fun K "speed" "speed" s_speed f fd) (C_true_time : Cal P w K mg base "true_time" 2 3 f_true_time) (C_speed_at : Cal P w K mg base "speed_at" 4 5 f_speed_at) : FnOk P w K mg base CX0 6 f fd ["club", "clock", "reading"] (SpQ K 3 f_speed) :=
  okQ F sc_speed b_speed fun cdv A outer s H E hr => by
    have nd := sc_speed.nd
    exact (x_cons (x_set 3 nd (q_call C_true_time hr (by decide) (by rfl) (a_cons (q_var 1) (a_cons (q_var 2) a_nil)))) (x_cons (x_if (t_cmp o_is (q_var 3) q_non (nomark _)) (x_one (x_ret q_non)) x_nil) (x_one (x_ret (q_call C_speed_at hr (by decide) (by rfl) (a_cons (q_var 0) (a_cons (q_ix (q_var 1) q_int (fun _ _ => rfl)) (a_cons (q_ix (q_var 1) q_int (fun _ _ => rfl)) (a_cons (q_var 3) a_nil)))))))))
theorem ok_speed_of {f : Addr} {fd : FuncData} (F : Fun K "speed_of" "speed_of" s_speed_of f fd) (C_bird_of : Cal P w K mg base "bird_of" 2 2 f_bird_of) (C_clock_of : Cal P w K mg base "clock_of" 3 1 f_clock_of) (C_speed : Cal P w K mg base "speed" 3 6 f_speed) : FnOk P w K mg base CX0 7 f fd ["club", "clocks", "slip"] (SpQ K 3 f_speed_of) :=
  okQ F sc_speed_of b_speed_of fun cdv A outer s H E hr => by
    have nd := sc_speed_of.nd
    exact (x_cons (x_asg (q_var 2) (g_tup (n := 3) rfl (gs_cons (g_name 3 nd) (gs_cons (g_name 4 nd) (gs_cons (g_name 5 nd) gs_nil))))) (x_cons (x_set 6 nd (q_call C_clock_of hr (by decide) (by rfl) (a_cons (q_var 1) (a_cons (q_var 3) (a_cons (q_ix (q_ix (q_ix (q_var 0) q_int (fun _ _ => rfl)) (q_call C_bird_of hr (by decide) (by rfl) (a_cons (q_var 0) (a_cons (q_var 4) a_nil))) (fun _ _ => rfl)) q_int (fun _ _ => rfl)) a_nil))))) (x_cons (x_if (t_w (w_or (t_cmp o_is (q_var 5) q_non (nomark _)) (w_or1 (t_cmp o_is (q_var 6) q_non (nomark _))))) (x_one (x_ret q_non)) x_nil) (x_one (x_ret (q_call C_speed hr (by decide) (by rfl) (a_cons (q_var 0) (a_cons (q_var 6) (a_cons (q_var 5) a_nil)))))))))
theorem ok_race_list {f : Addr} {fd : FuncData} (F : Fun K "race_list" "race_list" s_race_list f fd) (C_counting : Cal P w K mg base "counting" 1 1 f_counting) (C_speed_of : Cal P w K mg base "speed_of" 3 7 f_speed_of) (C_ranked : Cal P w K mg base "ranked" 1 2 f_ranked) : FnOk P w K mg base CX0 8 f fd ["club", "clocks", "slips", "race"] (SpQ K 4 f_race_list) :=
  okQ F sc_race_list b_race_list fun cdv A outer s H E hr => by
    have nd := sc_race_list.nd
    exact (x_cons (x_set 4 nd (q_lst a_nil)) (x_cons (x_for PassesOwn.never rfl (i_seq (q_call C_counting hr (by decide) (by rfl) (a_cons (q_var 2) a_nil))) (g_name 5 nd) (x_one (x_if (t_cmp (o_eq hr) (q_ix (q_var 5) q_int (fun _ _ => rfl)) (q_var 3) (nomark _)) (x_cons (x_set 6 nd (q_call C_speed_of hr (by decide) (by rfl) (a_cons (q_var 0) (a_cons (q_var 1) (a_cons (q_var 5) a_nil))))) (x_one (x_if (t_cmp o_isnot (q_var 6) q_non (nomark _)) (x_one (x_expr (q_m ty_list PySem.F.plainAttrs_list PySem.F.slot_list_append PySem.F.type_list_append m_append (q_var 4) (a_cons (q_tup (a_cons (q_ix (q_var 5) q_int (fun _ _ => rfl)) (a_cons (q_var 6) a_nil))) a_nil)))) x_nil))) x_nil))) (x_one (x_ret (q_call C_ranked hr (by decide) (by rfl) (a_cons (q_var 4) a_nil))))))
theorem ok_law {f : Addr} {fd : FuncData} (F : Fun K "law" "law" s_law f fd) (C_law_given : Cal P w K mg base "_law_given" 1 4 f_law_given) (C_law_cell : Cal P w K mg base "_law_cell" 2 1 f_law_cell) (C_law_now : Cal P w K mg base "_law_now" 3 1 f_law_now) (C_race_list : Cal P w K mg base "race_list" 4 8 f_race_list) (C_law_fraction : Cal P w K mg base "_law_fraction" 2 1 f_law_fraction) (C_law_times : Cal P w K mg base "_law_times" 3 5 f_law_times) (C_law_speed : Cal P w K mg base "_law_speed" 4 5 f_law_speed) (C_law_less : Cal P w K mg base "_law_less" 2 1 f_law_less) (C_can_be_ahead : Cal P w K mg base "can_be_ahead" 5 7 f_can_be_ahead) (m_int : mg "int" = none) (m_len : mg "len" = none) : FnOk P w K mg base CX0 9 f fd ["script"] (SpQ K 1 f_law) :=
  okQ F sc_law b_law fun cdv A outer s H E hr => by
    have nd := sc_law.nd
    exact (x_cons (x_asg (q_call C_law_given hr (by decide) (by rfl) (a_cons (q_var 0) a_nil)) (g_tup (n := 3) rfl (gs_cons (g_name 1 nd) (gs_cons (g_name 2 nd) (gs_cons (g_name 3 nd) gs_nil))))) (x_cons (x_set 4 nd (q_bin o_mod (q_callTy c_int (by rfl) m_int (by decide +kernel) (a_cons (q_call C_law_cell hr (by decide) (by rfl) (a_cons (q_var 0) (a_cons q_int a_nil))) a_nil)) (q_callB c_len (by rfl) m_len PySem.boot_len (a_cons (q_ix (q_var 1) q_int (fun _ _ => rfl)) a_nil)))) (x_cons (x_set 5 nd (q_call C_law_now hr (by decide) (by rfl) (a_cons (q_var 1) (a_cons (q_var 4) (a_cons (q_call C_law_cell hr (by decide) (by rfl) (a_cons (q_var 0) (a_cons q_int a_nil))) a_nil))))) (x_cons (x_set 6 nd (q_call C_race_list hr (by decide) (by rfl) (a_cons (q_var 1) (a_cons (q_var 2) (a_cons (q_var 3) (a_cons (q_var 4) a_nil)))))) (x_cons (x_set 7 nd (q_bin o_add (q_lc (own := [("row", 8)]) rfl nd (i_seq (q_var 6)) (blkOk_by (own := [("row", 8)]) (N := ["script", "club", "clocks", "slips", "race", "now", "rows", "speeds", "row", "times_v", "bird", "own", "time", "speed_v", "due", "one"]) (sc := defScope s_law) (by decide +kernel)) (fun _ _ _ _ _ => n_name 8 nd (by decide)) (fun _ _ _ _ _ => ts_nil) (fun _ _ _ _ _ => (q_ix (q_var 8) q_int (fun _ _ => rfl)))) (q_lst (a_cons (q_call C_law_fraction hr (by decide) (by rfl) (a_cons (q_bin o_add q_int (q_bin o_mod (q_callTy c_int (by rfl) m_int (by decide +kernel) (a_cons (q_call C_law_cell hr (by decide) (by rfl) (a_cons (q_var 0) (a_cons q_int a_nil))) a_nil)) q_int)) (a_cons (q_bin o_add q_int (q_bin o_mod (q_callTy c_int (by rfl) m_int (by decide +kernel) (a_cons (q_call C_law_cell hr (by decide) (by rfl) (a_cons (q_var 0) (a_cons q_int a_nil))) a_nil)) q_int)) a_nil))) a_nil)))) (x_cons (x_set 9 nd (q_call C_law_times hr (by decide) (by rfl) (a_cons (q_var 1) (a_cons (q_var 4) (a_cons (q_var 5) a_nil))))) (x_cons (x_for PassesOwn.never rfl (i_seq (q_ix (q_var 1) q_int (fun _ _ => rfl))) (g_name 10 nd) (x_cons (x_setLc 11 (own := [("time", 12)]) rfl nd (by rfl) (by rfl) (by rfl) (i_seq (q_var 9)) (blkOk_by (own := [("time", 12)]) (N := ["script", "club", "clocks", "slips", "race", "now", "rows", "speeds", "row", "times_v", "bird", "own", "time", "speed_v", "due", "one"]) (sc := defScope s_law) (by decide +kernel)) (fun _ _ _ _ _ => n_name 12 nd (by decide)) (fun _ _ _ _ _ => ts_nil) (fun _ _ _ _ _ => (q_call C_law_speed hr (by decide) (by rfl) (a_cons (q_var 1) (a_cons (q_var 4) (a_cons (q_ix (q_var 10) q_int (fun _ _ => rfl)) (a_cons (q_var 12) a_nil))))))) (x_one (x_for PassesOwn.never rfl (i_seq (q_var 7)) (g_name 13 nd) (x_cons (x_set 14 nd (q_cmp o_gt (q_callB c_len (by rfl) m_len PySem.boot_len (a_cons (q_lc (own := [("one", 15)]) rfl nd (i_seq (q_var 11)) (blkOk_by (own := [("one", 15)]) (N := ["script", "club", "clocks", "slips", "race", "now", "rows", "speeds", "row", "times_v", "bird", "own", "time", "speed_v", "due", "one"]) (sc := defScope s_law) (by decide +kernel)) (fun _ _ _ _ _ => n_name 15 nd (by decide)) (fun _ _ _ _ _ => (ts_one (t_w (w_and (t_cmp o_isnot (q_var 15) q_non (nomark _)) (w_and1 (t_val (q_call C_law_less hr (by decide) (by rfl) (a_cons (q_var 13) (a_cons (q_var 15) a_nil))))))))) (fun _ _ _ _ _ => (q_var 15))) a_nil)) q_int (nomark _))) (x_one (x_if (t_cmp (o_ne hr) (q_call C_can_be_ahead hr (by decide) (by rfl) (a_cons (q_var 1) (a_cons (q_var 4) (a_cons (q_ix (q_var 10) q_int (fun _ _ => rfl)) (a_cons (q_var 5) (a_cons (q_var 13) a_nil)))))) (q_var 14) (nomark _)) (x_one (x_ret q_bl)) x_nil))))))) (x_one (x_ret q_bl)))))))))
end
theorem all_mk {l : PySem.W.OpenLaw} {w : World} {K : PySem.W.Frag} {h : Heap} {mg : Str → Option Value} {fa : Addr} (X : K.In h) (G : h.Ns mainGlobals mg) (hfa : mg "law" = some (.ref fa))
    {f0 : Addr} {od0 an0 : Option Addr} {sl0 : Array (Option Value)} {oc0 kV0 dc0 pm0 cd0 ct0 : Value}
    (a0 : PySem.W.nsIn K mainGlobals "_law_cell" = some (some (.ref f0))) (l0 : K.lookup f0 = some ⟨oc0, od0, .func (PySem.W.fnOf "_law_cell" "_law_cell" (defArgs s_law_cell) (defBody s_law_cell) (defScope s_law_cell) .none kV0 dc0 pm0 an0 cd0 ct0), sl0⟩) (c0 : PySem.W.codeIn K cd0 "_law_cell" = true) (k0 : PySem.W.keepIn K (.ref f0) = true)
    {f1 : Addr} {od1 an1 : Option Addr} {sl1 : Array (Option Value)} {oc1 kV1 dc1 pm1 cd1 ct1 : Value}
    (a1 : PySem.W.nsIn K mainGlobals "_law_fraction" = some (some (.ref f1))) (l1 : K.lookup f1 = some ⟨oc1, od1, .func (PySem.W.fnOf "_law_fraction" "_law_fraction" (defArgs s_law_fraction) (defBody s_law_fraction) (defScope s_law_fraction) .none kV1 dc1 pm1 an1 cd1 ct1), sl1⟩) (c1 : PySem.W.codeIn K cd1 "_law_fraction" = true) (k1 : PySem.W.keepIn K (.ref f1) = true)
    {f2 : Addr} {od2 an2 : Option Addr} {sl2 : Array (Option Value)} {oc2 kV2 dc2 pm2 cd2 ct2 : Value}
    (a2 : PySem.W.nsIn K mainGlobals "_law_digits" = some (some (.ref f2))) (l2 : K.lookup f2 = some ⟨oc2, od2, .func (PySem.W.fnOf "_law_digits" "_law_digits" (defArgs s_law_digits) (defBody s_law_digits) (defScope s_law_digits) .none kV2 dc2 pm2 an2 cd2 ct2), sl2⟩) (c2 : PySem.W.codeIn K cd2 "_law_digits" = true) (k2 : PySem.W.keepIn K (.ref f2) = true)
    {f3 : Addr} {od3 an3 : Option Addr} {sl3 : Array (Option Value)} {oc3 kV3 dc3 pm3 cd3 ct3 : Value}
    (a3 : PySem.W.nsIn K mainGlobals "_law_padded" = some (some (.ref f3))) (l3 : K.lookup f3 = some ⟨oc3, od3, .func (PySem.W.fnOf "_law_padded" "_law_padded" (defArgs s_law_padded) (defBody s_law_padded) (defScope s_law_padded) .none kV3 dc3 pm3 an3 cd3 ct3), sl3⟩) (c3 : PySem.W.codeIn K cd3 "_law_padded" = true) (k3 : PySem.W.keepIn K (.ref f3) = true)
    {f4 : Addr} {od4 an4 : Option Addr} {sl4 : Array (Option Value)} {oc4 kV4 dc4 pm4 cd4 ct4 : Value}
    (a4 : PySem.W.nsIn K mainGlobals "_law_clocks" = some (some (.ref f4))) (l4 : K.lookup f4 = some ⟨oc4, od4, .func (PySem.W.fnOf "_law_clocks" "_law_clocks" (defArgs s_law_clocks) (defBody s_law_clocks) (defScope s_law_clocks) .none kV4 dc4 pm4 an4 cd4 ct4), sl4⟩) (c4 : PySem.W.codeIn K cd4 "_law_clocks" = true) (k4 : PySem.W.keepIn K (.ref f4) = true)
    {f5 : Addr} {od5 an5 : Option Addr} {sl5 : Array (Option Value)} {oc5 kV5 dc5 pm5 cd5 ct5 : Value}
    (a5 : PySem.W.nsIn K mainGlobals "_law_club" = some (some (.ref f5))) (l5 : K.lookup f5 = some ⟨oc5, od5, .func (PySem.W.fnOf "_law_club" "_law_club" (defArgs s_law_club) (defBody s_law_club) (defScope s_law_club) .none kV5 dc5 pm5 an5 cd5 ct5), sl5⟩) (c5 : PySem.W.codeIn K cd5 "_law_club" = true) (k5 : PySem.W.keepIn K (.ref f5) = true)
    {f6 : Addr} {od6 an6 : Option Addr} {sl6 : Array (Option Value)} {oc6 kV6 dc6 pm6 cd6 ct6 : Value}
    (a6 : PySem.W.nsIn K mainGlobals "_law_clock_for" = some (some (.ref f6))) (l6 : K.lookup f6 = some ⟨oc6, od6, .func (PySem.W.fnOf "_law_clock_for" "_law_clock_for" (defArgs s_law_clock_for) (defBody s_law_clock_for) (defScope s_law_clock_for) .none kV6 dc6 pm6 an6 cd6 ct6), sl6⟩) (c6 : PySem.W.codeIn K cd6 "_law_clock_for" = true) (k6 : PySem.W.keepIn K (.ref f6) = true)
    {f7 : Addr} {od7 an7 : Option Addr} {sl7 : Array (Option Value)} {oc7 kV7 dc7 pm7 cd7 ct7 : Value}
    (a7 : PySem.W.nsIn K mainGlobals "_law_reading" = some (some (.ref f7))) (l7 : K.lookup f7 = some ⟨oc7, od7, .func (PySem.W.fnOf "_law_reading" "_law_reading" (defArgs s_law_reading) (defBody s_law_reading) (defScope s_law_reading) .none kV7 dc7 pm7 an7 cd7 ct7), sl7⟩) (c7 : PySem.W.codeIn K cd7 "_law_reading" = true) (k7 : PySem.W.keepIn K (.ref f7) = true)
    {f8 : Addr} {od8 an8 : Option Addr} {sl8 : Array (Option Value)} {oc8 kV8 dc8 pm8 cd8 ct8 : Value}
    (a8 : PySem.W.nsIn K mainGlobals "_law_slips" = some (some (.ref f8))) (l8 : K.lookup f8 = some ⟨oc8, od8, .func (PySem.W.fnOf "_law_slips" "_law_slips" (defArgs s_law_slips) (defBody s_law_slips) (defScope s_law_slips) .none kV8 dc8 pm8 an8 cd8 ct8), sl8⟩) (c8 : PySem.W.codeIn K cd8 "_law_slips" = true) (k8 : PySem.W.keepIn K (.ref f8) = true)
    {f9 : Addr} {od9 an9 : Option Addr} {sl9 : Array (Option Value)} {oc9 kV9 dc9 pm9 cd9 ct9 : Value}
    (a9 : PySem.W.nsIn K mainGlobals "_law_given" = some (some (.ref f9))) (l9 : K.lookup f9 = some ⟨oc9, od9, .func (PySem.W.fnOf "_law_given" "_law_given" (defArgs s_law_given) (defBody s_law_given) (defScope s_law_given) .none kV9 dc9 pm9 an9 cd9 ct9), sl9⟩) (c9 : PySem.W.codeIn K cd9 "_law_given" = true) (k9 : PySem.W.keepIn K (.ref f9) = true)
    {f10 : Addr} {od10 an10 : Option Addr} {sl10 : Array (Option Value)} {oc10 kV10 dc10 pm10 cd10 ct10 : Value}
    (a10 : PySem.W.nsIn K mainGlobals "_law_less" = some (some (.ref f10))) (l10 : K.lookup f10 = some ⟨oc10, od10, .func (PySem.W.fnOf "_law_less" "_law_less" (defArgs s_law_less) (defBody s_law_less) (defScope s_law_less) .none kV10 dc10 pm10 an10 cd10 ct10), sl10⟩) (c10 : PySem.W.codeIn K cd10 "_law_less" = true) (k10 : PySem.W.keepIn K (.ref f10) = true)
    {f11 : Addr} {od11 an11 : Option Addr} {sl11 : Array (Option Value)} {oc11 kV11 dc11 pm11 cd11 ct11 : Value}
    (a11 : PySem.W.nsIn K mainGlobals "_law_now" = some (some (.ref f11))) (l11 : K.lookup f11 = some ⟨oc11, od11, .func (PySem.W.fnOf "_law_now" "_law_now" (defArgs s_law_now) (defBody s_law_now) (defScope s_law_now) .none kV11 dc11 pm11 an11 cd11 ct11), sl11⟩) (c11 : PySem.W.codeIn K cd11 "_law_now" = true) (k11 : PySem.W.keepIn K (.ref f11) = true)
    {f12 : Addr} {od12 an12 : Option Addr} {sl12 : Array (Option Value)} {oc12 kV12 dc12 pm12 cd12 ct12 : Value}
    (a12 : PySem.W.nsIn K mainGlobals "dark_of_day" = some (some (.ref f12))) (l12 : K.lookup f12 = some ⟨oc12, od12, .func (PySem.W.fnOf "dark_of_day" "dark_of_day" (defArgs s_dark_of_day) (defBody s_dark_of_day) (defScope s_dark_of_day) .none kV12 dc12 pm12 an12 cd12 ct12), sl12⟩) (c12 : PySem.W.codeIn K cd12 "dark_of_day" = true) (k12 : PySem.W.keepIn K (.ref f12) = true)
    {f13 : Addr} {od13 an13 : Option Addr} {sl13 : Array (Option Value)} {oc13 kV13 dc13 pm13 cd13 ct13 : Value}
    (a13 : PySem.W.nsIn K mainGlobals "lowest" = some (some (.ref f13))) (l13 : K.lookup f13 = some ⟨oc13, od13, .func (PySem.W.fnOf "lowest" "lowest" (defArgs s_lowest) (defBody s_lowest) (defScope s_lowest) .none kV13 dc13 pm13 an13 cd13 ct13), sl13⟩) (c13 : PySem.W.codeIn K cd13 "lowest" = true) (k13 : PySem.W.keepIn K (.ref f13) = true)
    {f14 : Addr} {od14 an14 : Option Addr} {sl14 : Array (Option Value)} {oc14 kV14 dc14 pm14 cd14 ct14 : Value}
    (a14 : PySem.W.nsIn K mainGlobals "dark_until" = some (some (.ref f14))) (l14 : K.lookup f14 = some ⟨oc14, od14, .func (PySem.W.fnOf "dark_until" "dark_until" (defArgs s_dark_until) (defBody s_dark_until) (defScope s_dark_until) .none kV14 dc14 pm14 an14 cd14 ct14), sl14⟩) (c14 : PySem.W.codeIn K cd14 "dark_until" = true) (k14 : PySem.W.keepIn K (.ref f14) = true)
    {f15 : Addr} {od15 an15 : Option Addr} {sl15 : Array (Option Value)} {oc15 kV15 dc15 pm15 cd15 ct15 : Value}
    (a15 : PySem.W.nsIn K mainGlobals "minus" = some (some (.ref f15))) (l15 : K.lookup f15 = some ⟨oc15, od15, .func (PySem.W.fnOf "minus" "minus" (defArgs s_minus) (defBody s_minus) (defScope s_minus) .none kV15 dc15 pm15 an15 cd15 ct15), sl15⟩) (c15 : PySem.W.codeIn K cd15 "minus" = true) (k15 : PySem.W.keepIn K (.ref f15) = true)
    {f16 : Addr} {od16 an16 : Option Addr} {sl16 : Array (Option Value)} {oc16 kV16 dc16 pm16 cd16 ct16 : Value}
    (a16 : PySem.W.nsIn K mainGlobals "dark_part" = some (some (.ref f16))) (l16 : K.lookup f16 = some ⟨oc16, od16, .func (PySem.W.fnOf "dark_part" "dark_part" (defArgs s_dark_part) (defBody s_dark_part) (defScope s_dark_part) .none kV16 dc16 pm16 an16 cd16 ct16), sl16⟩) (c16 : PySem.W.codeIn K cd16 "dark_part" = true) (k16 : PySem.W.keepIn K (.ref f16) = true)
    {f17 : Addr} {od17 an17 : Option Addr} {sl17 : Array (Option Value)} {oc17 kV17 dc17 pm17 cd17 ct17 : Value}
    (a17 : PySem.W.nsIn K mainGlobals "flight" = some (some (.ref f17))) (l17 : K.lookup f17 = some ⟨oc17, od17, .func (PySem.W.fnOf "flight" "flight" (defArgs s_flight) (defBody s_flight) (defScope s_flight) .none kV17 dc17 pm17 an17 cd17 ct17), sl17⟩) (c17 : PySem.W.codeIn K cd17 "flight" = true) (k17 : PySem.W.keepIn K (.ref f17) = true)
    {f18 : Addr} {od18 an18 : Option Addr} {sl18 : Array (Option Value)} {oc18 kV18 dc18 pm18 cd18 ct18 : Value}
    (a18 : PySem.W.nsIn K mainGlobals "square_distance" = some (some (.ref f18))) (l18 : K.lookup f18 = some ⟨oc18, od18, .func (PySem.W.fnOf "square_distance" "square_distance" (defArgs s_square_distance) (defBody s_square_distance) (defScope s_square_distance) .none kV18 dc18 pm18 an18 cd18 ct18), sl18⟩) (c18 : PySem.W.codeIn K cd18 "square_distance" = true) (k18 : PySem.W.keepIn K (.ref f18) = true)
    {f19 : Addr} {od19 an19 : Option Addr} {sl19 : Array (Option Value)} {oc19 kV19 dc19 pm19 cd19 ct19 : Value}
    (a19 : PySem.W.nsIn K mainGlobals "_law_speed" = some (some (.ref f19))) (l19 : K.lookup f19 = some ⟨oc19, od19, .func (PySem.W.fnOf "_law_speed" "_law_speed" (defArgs s_law_speed) (defBody s_law_speed) (defScope s_law_speed) .none kV19 dc19 pm19 an19 cd19 ct19), sl19⟩) (c19 : PySem.W.codeIn K cd19 "_law_speed" = true) (k19 : PySem.W.keepIn K (.ref f19) = true)
    {f20 : Addr} {od20 an20 : Option Addr} {sl20 : Array (Option Value)} {oc20 kV20 dc20 pm20 cd20 ct20 : Value}
    (a20 : PySem.W.nsIn K mainGlobals "_law_times" = some (some (.ref f20))) (l20 : K.lookup f20 = some ⟨oc20, od20, .func (PySem.W.fnOf "_law_times" "_law_times" (defArgs s_law_times) (defBody s_law_times) (defScope s_law_times) .none kV20 dc20 pm20 an20 cd20 ct20), sl20⟩) (c20 : PySem.W.codeIn K cd20 "_law_times" = true) (k20 : PySem.W.keepIn K (.ref f20) = true)
    {f21 : Addr} {od21 an21 : Option Addr} {sl21 : Array (Option Value)} {oc21 kV21 dc21 pm21 cd21 ct21 : Value}
    (a21 : PySem.W.nsIn K mainGlobals "is_less" = some (some (.ref f21))) (l21 : K.lookup f21 = some ⟨oc21, od21, .func (PySem.W.fnOf "is_less" "is_less" (defArgs s_is_less) (defBody s_is_less) (defScope s_is_less) .none kV21 dc21 pm21 an21 cd21 ct21), sl21⟩) (c21 : PySem.W.codeIn K cd21 "is_less" = true) (k21 : PySem.W.keepIn K (.ref f21) = true)
    {f22 : Addr} {od22 an22 : Option Addr} {sl22 : Array (Option Value)} {oc22 kV22 dc22 pm22 cd22 ct22 : Value}
    (a22 : PySem.W.nsIn K mainGlobals "can_count" = some (some (.ref f22))) (l22 : K.lookup f22 = some ⟨oc22, od22, .func (PySem.W.fnOf "can_count" "can_count" (defArgs s_can_count) (defBody s_can_count) (defScope s_can_count) .none kV22 dc22 pm22 an22 cd22 ct22), sl22⟩) (c22 : PySem.W.codeIn K cd22 "can_count" = true) (k22 : PySem.W.keepIn K (.ref f22) = true)
    {f23 : Addr} {od23 an23 : Option Addr} {sl23 : Array (Option Value)} {oc23 kV23 dc23 pm23 cd23 ct23 : Value}
    (a23 : PySem.W.nsIn K mainGlobals "number_of" = some (some (.ref f23))) (l23 : K.lookup f23 = some ⟨oc23, od23, .func (PySem.W.fnOf "number_of" "number_of" (defArgs s_number_of) (defBody s_number_of) (defScope s_number_of) .none kV23 dc23 pm23 an23 cd23 ct23), sl23⟩) (c23 : PySem.W.codeIn K cd23 "number_of" = true) (k23 : PySem.W.keepIn K (.ref f23) = true)
    {f24 : Addr} {od24 an24 : Option Addr} {sl24 : Array (Option Value)} {oc24 kV24 dc24 pm24 cd24 ct24 : Value}
    (a24 : PySem.W.nsIn K mainGlobals "bird_of" = some (some (.ref f24))) (l24 : K.lookup f24 = some ⟨oc24, od24, .func (PySem.W.fnOf "bird_of" "bird_of" (defArgs s_bird_of) (defBody s_bird_of) (defScope s_bird_of) .none kV24 dc24 pm24 an24 cd24 ct24), sl24⟩) (c24 : PySem.W.codeIn K cd24 "bird_of" = true) (k24 : PySem.W.keepIn K (.ref f24) = true)
    {f25 : Addr} {od25 an25 : Option Addr} {sl25 : Array (Option Value)} {oc25 kV25 dc25 pm25 cd25 ct25 : Value}
    (a25 : PySem.W.nsIn K mainGlobals "over" = some (some (.ref f25))) (l25 : K.lookup f25 = some ⟨oc25, od25, .func (PySem.W.fnOf "over" "over" (defArgs s_over) (defBody s_over) (defScope s_over) .none kV25 dc25 pm25 an25 cd25 ct25), sl25⟩) (c25 : PySem.W.codeIn K cd25 "over" = true) (k25 : PySem.W.keepIn K (.ref f25) = true)
    {f26 : Addr} {od26 an26 : Option Addr} {sl26 : Array (Option Value)} {oc26 kV26 dc26 pm26 cd26 ct26 : Value}
    (a26 : PySem.W.nsIn K mainGlobals "times" = some (some (.ref f26))) (l26 : K.lookup f26 = some ⟨oc26, od26, .func (PySem.W.fnOf "times" "times" (defArgs s_times) (defBody s_times) (defScope s_times) .none kV26 dc26 pm26 an26 cd26 ct26), sl26⟩) (c26 : PySem.W.codeIn K cd26 "times" = true) (k26 : PySem.W.keepIn K (.ref f26) = true)
    {f27 : Addr} {od27 an27 : Option Addr} {sl27 : Array (Option Value)} {oc27 kV27 dc27 pm27 cd27 ct27 : Value}
    (a27 : PySem.W.nsIn K mainGlobals "speed_at" = some (some (.ref f27))) (l27 : K.lookup f27 = some ⟨oc27, od27, .func (PySem.W.fnOf "speed_at" "speed_at" (defArgs s_speed_at) (defBody s_speed_at) (defScope s_speed_at) .none kV27 dc27 pm27 an27 cd27 ct27), sl27⟩) (c27 : PySem.W.codeIn K cd27 "speed_at" = true) (k27 : PySem.W.keepIn K (.ref f27) = true)
    {f28 : Addr} {od28 an28 : Option Addr} {sl28 : Array (Option Value)} {oc28 kV28 dc28 pm28 cd28 ct28 : Value}
    (a28 : PySem.W.nsIn K mainGlobals "speed_home" = some (some (.ref f28))) (l28 : K.lookup f28 = some ⟨oc28, od28, .func (PySem.W.fnOf "speed_home" "speed_home" (defArgs s_speed_home) (defBody s_speed_home) (defScope s_speed_home) .none kV28 dc28 pm28 an28 cd28 ct28), sl28⟩) (c28 : PySem.W.codeIn K cd28 "speed_home" = true) (k28 : PySem.W.keepIn K (.ref f28) = true)
    {f29 : Addr} {od29 an29 : Option Addr} {sl29 : Array (Option Value)} {oc29 kV29 dc29 pm29 cd29 ct29 : Value}
    (a29 : PySem.W.nsIn K mainGlobals "can_be_ahead" = some (some (.ref f29))) (l29 : K.lookup f29 = some ⟨oc29, od29, .func (PySem.W.fnOf "can_be_ahead" "can_be_ahead" (defArgs s_can_be_ahead) (defBody s_can_be_ahead) (defScope s_can_be_ahead) .none kV29 dc29 pm29 an29 cd29 ct29), sl29⟩) (c29 : PySem.W.codeIn K cd29 "can_be_ahead" = true) (k29 : PySem.W.keepIn K (.ref f29) = true)
    {f30 : Addr} {od30 an30 : Option Addr} {sl30 : Array (Option Value)} {oc30 kV30 dc30 pm30 cd30 ct30 : Value}
    (a30 : PySem.W.nsIn K mainGlobals "counting" = some (some (.ref f30))) (l30 : K.lookup f30 = some ⟨oc30, od30, .func (PySem.W.fnOf "counting" "counting" (defArgs s_counting) (defBody s_counting) (defScope s_counting) .none kV30 dc30 pm30 an30 cd30 ct30), sl30⟩) (c30 : PySem.W.codeIn K cd30 "counting" = true) (k30 : PySem.W.keepIn K (.ref f30) = true)
    {f31 : Addr} {od31 an31 : Option Addr} {sl31 : Array (Option Value)} {oc31 kV31 dc31 pm31 cd31 ct31 : Value}
    (a31 : PySem.W.nsIn K mainGlobals "ranked" = some (some (.ref f31))) (l31 : K.lookup f31 = some ⟨oc31, od31, .func (PySem.W.fnOf "ranked" "ranked" (defArgs s_ranked) (defBody s_ranked) (defScope s_ranked) .none kV31 dc31 pm31 an31 cd31 ct31), sl31⟩) (c31 : PySem.W.codeIn K cd31 "ranked" = true) (k31 : PySem.W.keepIn K (.ref f31) = true)
    {f32 : Addr} {od32 an32 : Option Addr} {sl32 : Array (Option Value)} {oc32 kV32 dc32 pm32 cd32 ct32 : Value}
    (a32 : PySem.W.nsIn K mainGlobals "clock_of" = some (some (.ref f32))) (l32 : K.lookup f32 = some ⟨oc32, od32, .func (PySem.W.fnOf "clock_of" "clock_of" (defArgs s_clock_of) (defBody s_clock_of) (defScope s_clock_of) .none kV32 dc32 pm32 an32 cd32 ct32), sl32⟩) (c32 : PySem.W.codeIn K cd32 "clock_of" = true) (k32 : PySem.W.keepIn K (.ref f32) = true)
    {f33 : Addr} {od33 an33 : Option Addr} {sl33 : Array (Option Value)} {oc33 kV33 dc33 pm33 cd33 ct33 : Value}
    (a33 : PySem.W.nsIn K mainGlobals "plus" = some (some (.ref f33))) (l33 : K.lookup f33 = some ⟨oc33, od33, .func (PySem.W.fnOf "plus" "plus" (defArgs s_plus) (defBody s_plus) (defScope s_plus) .none kV33 dc33 pm33 an33 cd33 ct33), sl33⟩) (c33 : PySem.W.codeIn K cd33 "plus" = true) (k33 : PySem.W.keepIn K (.ref f33) = true)
    {f34 : Addr} {od34 an34 : Option Addr} {sl34 : Array (Option Value)} {oc34 kV34 dc34 pm34 cd34 ct34 : Value}
    (a34 : PySem.W.nsIn K mainGlobals "true_time" = some (some (.ref f34))) (l34 : K.lookup f34 = some ⟨oc34, od34, .func (PySem.W.fnOf "true_time" "true_time" (defArgs s_true_time) (defBody s_true_time) (defScope s_true_time) .none kV34 dc34 pm34 an34 cd34 ct34), sl34⟩) (c34 : PySem.W.codeIn K cd34 "true_time" = true) (k34 : PySem.W.keepIn K (.ref f34) = true)
    {f35 : Addr} {od35 an35 : Option Addr} {sl35 : Array (Option Value)} {oc35 kV35 dc35 pm35 cd35 ct35 : Value}
    (a35 : PySem.W.nsIn K mainGlobals "speed" = some (some (.ref f35))) (l35 : K.lookup f35 = some ⟨oc35, od35, .func (PySem.W.fnOf "speed" "speed" (defArgs s_speed) (defBody s_speed) (defScope s_speed) .none kV35 dc35 pm35 an35 cd35 ct35), sl35⟩) (c35 : PySem.W.codeIn K cd35 "speed" = true) (k35 : PySem.W.keepIn K (.ref f35) = true)
    {f36 : Addr} {od36 an36 : Option Addr} {sl36 : Array (Option Value)} {oc36 kV36 dc36 pm36 cd36 ct36 : Value}
    (a36 : PySem.W.nsIn K mainGlobals "speed_of" = some (some (.ref f36))) (l36 : K.lookup f36 = some ⟨oc36, od36, .func (PySem.W.fnOf "speed_of" "speed_of" (defArgs s_speed_of) (defBody s_speed_of) (defScope s_speed_of) .none kV36 dc36 pm36 an36 cd36 ct36), sl36⟩) (c36 : PySem.W.codeIn K cd36 "speed_of" = true) (k36 : PySem.W.keepIn K (.ref f36) = true)
    {f37 : Addr} {od37 an37 : Option Addr} {sl37 : Array (Option Value)} {oc37 kV37 dc37 pm37 cd37 ct37 : Value}
    (a37 : PySem.W.nsIn K mainGlobals "race_list" = some (some (.ref f37))) (l37 : K.lookup f37 = some ⟨oc37, od37, .func (PySem.W.fnOf "race_list" "race_list" (defArgs s_race_list) (defBody s_race_list) (defScope s_race_list) .none kV37 dc37 pm37 an37 cd37 ct37), sl37⟩) (c37 : PySem.W.codeIn K cd37 "race_list" = true) (k37 : PySem.W.keepIn K (.ref f37) = true)
    {f38 : Addr} {od38 an38 : Option Addr} {sl38 : Array (Option Value)} {oc38 kV38 dc38 pm38 cd38 ct38 : Value}
    (a38 : PySem.W.nsIn K mainGlobals "law" = some (some (.ref f38))) (l38 : K.lookup f38 = some ⟨oc38, od38, .func (PySem.W.fnOf "law" "law" (defArgs s_law) (defBody s_law) (defScope s_law) .none kV38 dc38 pm38 an38 cd38 ct38), sl38⟩) (c38 : PySem.W.codeIn K cd38 "law" = true) (k38 : PySem.W.keepIn K (.ref f38) = true)
    (z_len : PySem.W.nsIn K mainGlobals "len" = some none)
    (z_range : PySem.W.nsIn K mainGlobals "range" = some none)
    (z_abs : PySem.W.nsIn K mainGlobals "abs" = some none)
    (z_min : PySem.W.nsIn K mainGlobals "min" = some none)
    (z_max : PySem.W.nsIn K mainGlobals "max" = some none)
    (z_int : PySem.W.nsIn K mainGlobals "int" = some none)
    (z_tuple : PySem.W.nsIn K mainGlobals "tuple" = some none)
    (z_enumerate : PySem.W.nsIn K mainGlobals "enumerate" = some none)
    (z_sorted : PySem.W.nsIn K mainGlobals "sorted" = some none)
    (z_gcd : PySem.W.nsIn K mainGlobals "gcd" = some (some (.builtin "math.gcd")))
    {t_DAY : Tok} (z_DAY : PySem.W.nsIn K mainGlobals "DAY" = some (some (.int 1440 t_DAY)))
    {t_BIRD : Tok} (z_BIRD : PySem.W.nsIn K mainGlobals "BIRD" = some (some (.int 1 t_BIRD)))
    {a_NOUGHT_outlook : Addr} {od_NOUGHT_outlook : Option Addr} {n_NOUGHT_outlook : Nat} {sl_NOUGHT_outlook : Array (Option Value)} {ta_NOUGHT_outlook tb_NOUGHT_outlook : Tok} (z_NOUGHT_outlook : PySem.W.nsIn K mainGlobals "NOUGHT_outlook" = some (some (.ref a_NOUGHT_outlook))) (yy_NOUGHT_outlook : K.lookup a_NOUGHT_outlook = some ⟨.type "tuple", od_NOUGHT_outlook, .seq #[.int 0 ta_NOUGHT_outlook, .int 1 tb_NOUGHT_outlook] n_NOUGHT_outlook, sl_NOUGHT_outlook⟩)
    {a_NOUGHT_flights : Addr} {od_NOUGHT_flights : Option Addr} {n_NOUGHT_flights : Nat} {sl_NOUGHT_flights : Array (Option Value)} {ta_NOUGHT_flights tb_NOUGHT_flights : Tok} (z_NOUGHT_flights : PySem.W.nsIn K mainGlobals "NOUGHT_flights" = some (some (.ref a_NOUGHT_flights))) (yy_NOUGHT_flights : K.lookup a_NOUGHT_flights = some ⟨.type "tuple", od_NOUGHT_flights, .seq #[.int 0 ta_NOUGHT_flights, .int 1 tb_NOUGHT_flights] n_NOUGHT_flights, sl_NOUGHT_flights⟩)
    : ∃ fd : FuncData, (∀ (s : Shared) (v : Value), BindsTo s fd ⟨[v], []⟩ [("script", v)]) ∧ ∀ base : Heap, K.In base → base.Ns mainGlobals mg → FnOk l.prog w K mg base CX0 9 fa fd ["script"] (SpQ K 1 f_law) := by
  have e := hfa.symm.trans (PySem.W.mg_of X G a38)
  cases e
  have m_len := PySem.W.mg_none_of X G z_len
  have m_range := PySem.W.mg_none_of X G z_range
  have m_abs := PySem.W.mg_none_of X G z_abs
  have m_min := PySem.W.mg_none_of X G z_min
  have m_max := PySem.W.mg_none_of X G z_max
  have m_int := PySem.W.mg_none_of X G z_int
  have m_tuple := PySem.W.mg_none_of X G z_tuple
  have m_enumerate := PySem.W.mg_none_of X G z_enumerate
  have m_sorted := PySem.W.mg_none_of X G z_sorted
  have m_gcd := PySem.W.mg_of X G z_gcd
  have m_DAY := PySem.W.mg_of X G z_DAY
  have m_BIRD := PySem.W.mg_of X G z_BIRD
  have m_NOUGHT_outlook := PySem.W.mg_of X G z_NOUGHT_outlook
  have m_NOUGHT_flights := PySem.W.mg_of X G z_NOUGHT_flights
  have y_NOUGHT_outlook := tupK2 yy_NOUGHT_outlook
  have y_NOUGHT_flights := tupK2 yy_NOUGHT_flights
  have F0 := fun_mk (st := s_law_cell) l0 c0 k0
  have g0 := PySem.W.mg_of X G a0
  have b0 := F0.binds (ps := ["script", "k"]) fun _ _ _ _ _ _ us hl => match us, hl with | [_, _], _ => rfl
  have F1 := fun_mk (st := s_law_fraction) l1 c1 k1
  have g1 := PySem.W.mg_of X G a1
  have b1 := F1.binds (ps := ["p", "q"]) fun _ _ _ _ _ _ us hl => match us, hl with | [_, _], _ => rfl
  have F2 := fun_mk (st := s_law_digits) l2 c2 k2
  have g2 := PySem.W.mg_of X G a2
  have b2 := F2.binds (ps := ["cell", "k", "most"]) fun _ _ _ _ _ _ us hl => match us, hl with | [_, _, _], _ => rfl
  have F3 := fun_mk (st := s_law_padded) l3 c3 k3
  have g3 := PySem.W.mg_of X G a3
  have b3 := F3.binds (ps := ["cell", "k"]) fun _ _ _ _ _ _ us hl => match us, hl with | [_, _], _ => rfl
  have F4 := fun_mk (st := s_law_clocks) l4 c4 k4
  have g4 := PySem.W.mg_of X G a4
  have b4 := F4.binds (ps := ["script", "club"]) fun _ _ _ _ _ _ us hl => match us, hl with | [_, _], _ => rfl
  have F5 := fun_mk (st := s_law_club) l5 c5 k5
  have g5 := PySem.W.mg_of X G a5
  have b5 := F5.binds (ps := ["script"]) fun _ _ _ _ _ _ us hl => match us, hl with | [_], _ => rfl
  have F6 := fun_mk (st := s_law_clock_for) l6 c6 k6
  have g6 := PySem.W.mg_of X G a6
  have b6 := F6.binds (ps := ["club", "clocks", "race", "ring"]) fun _ _ _ _ _ _ us hl => match us, hl with | [_, _, _, _], _ => rfl
  have F7 := fun_mk (st := s_law_reading) l7 c7 k7
  have g7 := PySem.W.mg_of X G a7
  have b7 := F7.binds (ps := ["clock", "digit"]) fun _ _ _ _ _ _ us hl => match us, hl with | [_, _], _ => rfl
  have F8 := fun_mk (st := s_law_slips) l8 c8 k8
  have g8 := PySem.W.mg_of X G a8
  have b8 := F8.binds (ps := ["script", "club", "clocks"]) fun _ _ _ _ _ _ us hl => match us, hl with | [_, _, _], _ => rfl
  have F9 := fun_mk (st := s_law_given) l9 c9 k9
  have g9 := PySem.W.mg_of X G a9
  have b9 := F9.binds (ps := ["script"]) fun _ _ _ _ _ _ us hl => match us, hl with | [_], _ => rfl
  have F10 := fun_mk (st := s_law_less) l10 c10 k10
  have g10 := PySem.W.mg_of X G a10
  have b10 := F10.binds (ps := ["one", "other"]) fun _ _ _ _ _ _ us hl => match us, hl with | [_, _], _ => rfl
  have F11 := fun_mk (st := s_law_now) l11 c11 k11
  have g11 := PySem.W.mg_of X G a11
  have b11 := F11.binds (ps := ["club", "race", "cell"]) fun _ _ _ _ _ _ us hl => match us, hl with | [_, _, _], _ => rfl
  have F12 := fun_mk (st := s_dark_of_day) l12 c12 k12
  have g12 := PySem.W.mg_of X G a12
  have b12 := F12.binds (ps := ["dusk", "dawn", "end"]) fun _ _ _ _ _ _ us hl => match us, hl with | [_, _, _], _ => rfl
  have F13 := fun_mk (st := s_lowest) l13 c13 k13
  have g13 := PySem.W.mg_of X G a13
  have b13 := F13.binds (ps := ["p", "q"]) fun _ _ _ _ _ _ us hl => match us, hl with | [_, _], _ => rfl
  have F14 := fun_mk (st := s_dark_until) l14 c14 k14
  have g14 := PySem.W.mg_of X G a14
  have b14 := F14.binds (ps := ["race", "time"]) fun _ _ _ _ _ _ us hl => match us, hl with | [_, _], _ => rfl
  have F15 := fun_mk (st := s_minus) l15 c15 k15
  have g15 := PySem.W.mg_of X G a15
  have b15 := F15.binds (ps := ["one", "other"]) fun _ _ _ _ _ _ us hl => match us, hl with | [_, _], _ => rfl
  have F16 := fun_mk (st := s_dark_part) l16 c16 k16
  have g16 := PySem.W.mg_of X G a16
  have b16 := F16.binds (ps := ["race", "first", "last"]) fun _ _ _ _ _ _ us hl => match us, hl with | [_, _, _], _ => rfl
  have F17 := fun_mk (st := s_flight) l17 c17 k17
  have g17 := PySem.W.mg_of X G a17
  have b17 := F17.binds (ps := ["race", "time"]) fun _ _ _ _ _ _ us hl => match us, hl with | [_, _], _ => rfl
  have F18 := fun_mk (st := s_square_distance) l18 c18 k18
  have g18 := PySem.W.mg_of X G a18
  have b18 := F18.binds (ps := ["club", "race", "loft"]) fun _ _ _ _ _ _ us hl => match us, hl with | [_, _, _], _ => rfl
  have F19 := fun_mk (st := s_law_speed) l19 c19 k19
  have g19 := PySem.W.mg_of X G a19
  have b19 := F19.binds (ps := ["club", "race", "ring", "time"]) fun _ _ _ _ _ _ us hl => match us, hl with | [_, _, _, _], _ => rfl
  have F20 := fun_mk (st := s_law_times) l20 c20 k20
  have g20 := PySem.W.mg_of X G a20
  have b20 := F20.binds (ps := ["club", "race", "now"]) fun _ _ _ _ _ _ us hl => match us, hl with | [_, _, _], _ => rfl
  have F21 := fun_mk (st := s_is_less) l21 c21 k21
  have g21 := PySem.W.mg_of X G a21
  have b21 := F21.binds (ps := ["one", "other"]) fun _ _ _ _ _ _ us hl => match us, hl with | [_, _], _ => rfl
  have F22 := fun_mk (st := s_can_count) l22 c22 k22
  have g22 := PySem.W.mg_of X G a22
  have b22 := F22.binds (ps := ["club", "race"]) fun _ _ _ _ _ _ us hl => match us, hl with | [_, _], _ => rfl
  have F23 := fun_mk (st := s_number_of) l23 c23 k23
  have g23 := PySem.W.mg_of X G a23
  have b23 := F23.binds (ps := ["rows", "first"]) fun _ _ _ _ _ _ us hl => match us, hl with | [_, _], _ => rfl
  have F24 := fun_mk (st := s_bird_of) l24 c24 k24
  have g24 := PySem.W.mg_of X G a24
  have b24 := F24.binds (ps := ["club", "ring"]) fun _ _ _ _ _ _ us hl => match us, hl with | [_, _], _ => rfl
  have F25 := fun_mk (st := s_over) l25 c25 k25
  have g25 := PySem.W.mg_of X G a25
  have b25 := F25.binds (ps := ["one", "other"]) fun _ _ _ _ _ _ us hl => match us, hl with | [_, _], _ => rfl
  have F26 := fun_mk (st := s_times) l26 c26 k26
  have g26 := PySem.W.mg_of X G a26
  have b26 := F26.binds (ps := ["one", "other"]) fun _ _ _ _ _ _ us hl => match us, hl with | [_, _], _ => rfl
  have F27 := fun_mk (st := s_speed_at) l27 c27 k27
  have g27 := PySem.W.mg_of X G a27
  have b27 := F27.binds (ps := ["club", "race", "loft", "time"]) fun _ _ _ _ _ _ us hl => match us, hl with | [_, _, _, _], _ => rfl
  have F28 := fun_mk (st := s_speed_home) l28 c28 k28
  have g28 := PySem.W.mg_of X G a28
  have b28 := F28.binds (ps := ["club", "race", "ring", "time"]) fun _ _ _ _ _ _ us hl => match us, hl with | [_, _, _, _], _ => rfl
  have F29 := fun_mk (st := s_can_be_ahead) l29 c29 k29
  have g29 := PySem.W.mg_of X G a29
  have b29 := F29.binds (ps := ["club", "race", "ring", "now", "speed"]) fun _ _ _ _ _ _ us hl => match us, hl with | [_, _, _, _, _], _ => rfl
  have F30 := fun_mk (st := s_counting) l30 c30 k30
  have g30 := PySem.W.mg_of X G a30
  have b30 := F30.binds (ps := ["rows"]) fun _ _ _ _ _ _ us hl => match us, hl with | [_], _ => rfl
  have F31 := fun_mk (st := s_ranked) l31 c31 k31
  have g31 := PySem.W.mg_of X G a31
  have b31 := F31.binds (ps := ["pairs"]) fun _ _ _ _ _ _ us hl => match us, hl with | [_], _ => rfl
  have F32 := fun_mk (st := s_clock_of) l32 c32 k32
  have g32 := PySem.W.mg_of X G a32
  have b32 := F32.binds (ps := ["clocks", "race", "loft"]) fun _ _ _ _ _ _ us hl => match us, hl with | [_, _, _], _ => rfl
  have F33 := fun_mk (st := s_plus) l33 c33 k33
  have g33 := PySem.W.mg_of X G a33
  have b33 := F33.binds (ps := ["one", "other"]) fun _ _ _ _ _ _ us hl => match us, hl with | [_, _], _ => rfl
  have F34 := fun_mk (st := s_true_time) l34 c34 k34
  have g34 := PySem.W.mg_of X G a34
  have b34 := F34.binds (ps := ["clock", "reading"]) fun _ _ _ _ _ _ us hl => match us, hl with | [_, _], _ => rfl
  have F35 := fun_mk (st := s_speed) l35 c35 k35
  have g35 := PySem.W.mg_of X G a35
  have b35 := F35.binds (ps := ["club", "clock", "reading"]) fun _ _ _ _ _ _ us hl => match us, hl with | [_, _, _], _ => rfl
  have F36 := fun_mk (st := s_speed_of) l36 c36 k36
  have g36 := PySem.W.mg_of X G a36
  have b36 := F36.binds (ps := ["club", "clocks", "slip"]) fun _ _ _ _ _ _ us hl => match us, hl with | [_, _, _], _ => rfl
  have F37 := fun_mk (st := s_race_list) l37 c37 k37
  have g37 := PySem.W.mg_of X G a37
  have b37 := F37.binds (ps := ["club", "clocks", "slips", "race"]) fun _ _ _ _ _ _ us hl => match us, hl with | [_, _, _, _], _ => rfl
  have F38 := fun_mk (st := s_law) l38 c38 k38
  have g38 := PySem.W.mg_of X G a38
  have b38 := F38.binds (ps := ["script"]) fun _ _ _ _ _ _ us hl => match us, hl with | [_], _ => rfl
  refine ⟨PySem.W.fnOf "law" "law" (defArgs s_law) (defBody s_law) (defScope s_law) .none kV38 dc38 pm38 an38 cd38 ct38, fun s v => .of_eq rfl, fun base _ _ => ?_⟩
  have C_law_cell : Cal l.prog w K mg base "_law_cell" 2 1 f_law_cell := cal_mk rfl (ok_law_cell F0 m_len) F0 g0 b0
  have C_law_fraction : Cal l.prog w K mg base "_law_fraction" 2 1 f_law_fraction := cal_mk rfl (ok_law_fraction F1 m_range m_abs m_min m_max m_int) F1 g1 b1
  have C_law_digits : Cal l.prog w K mg base "_law_digits" 3 1 f_law_digits := cal_mk rfl (ok_law_digits F2 m_range m_len m_int) F2 g2 b2
  have C_law_padded : Cal l.prog w K mg base "_law_padded" 2 2 f_law_padded := cal_mk rfl (ok_law_padded F3 C_law_digits m_range) F3 g3 b3
  have C_law_clocks : Cal l.prog w K mg base "_law_clocks" 2 3 f_law_clocks := cal_mk rfl (ok_law_clocks F4 C_law_cell C_law_padded m_range m_len m_int m_max) F4 g4 b4
  have C_law_club : Cal l.prog w K mg base "_law_club" 1 3 f_law_club := cal_mk rfl (ok_law_club F5 C_law_cell C_law_padded m_range m_int m_len m_tuple) F5 g5 b5
  have C_law_clock_for : Cal l.prog w K mg base "_law_clock_for" 4 1 f_law_clock_for := cal_mk rfl (ok_law_clock_for F6 ) F6 g6 b6
  have C_law_reading : Cal l.prog w K mg base "_law_reading" 2 1 f_law_reading := cal_mk rfl (ok_law_reading F7 m_int) F7 g7 b7
  have C_law_slips : Cal l.prog w K mg base "_law_slips" 3 3 f_law_slips := cal_mk rfl (ok_law_slips F8 C_law_cell C_law_padded C_law_clock_for C_law_reading m_range m_int m_len) F8 g8 b8
  have C_law_given : Cal l.prog w K mg base "_law_given" 1 4 f_law_given := cal_mk rfl (ok_law_given F9 C_law_club C_law_clocks C_law_slips) F9 g9 b9
  have C_law_less : Cal l.prog w K mg base "_law_less" 2 1 f_law_less := cal_mk rfl (ok_law_less F10 ) F10 g10 b10
  have C_law_now : Cal l.prog w K mg base "_law_now" 3 1 f_law_now := cal_mk rfl (ok_law_now F11 m_int) F11 g11 b11
  have C_dark_of_day : Cal l.prog w K mg base "dark_of_day" 3 1 f_dark_of_day := cal_mk rfl (ok_dark_of_day F12 m_min m_max) F12 g12 b12
  have C_lowest : Cal l.prog w K mg base "lowest" 2 1 f_lowest := cal_mk rfl (ok_lowest F13 m_gcd) F13 g13 b13
  have C_dark_until : Cal l.prog w K mg base "dark_until" 2 2 f_dark_until := cal_mk rfl (ok_dark_until F14 C_dark_of_day C_lowest m_DAY) F14 g14 b14
  have C_minus : Cal l.prog w K mg base "minus" 2 2 f_minus := cal_mk rfl (ok_minus F15 C_lowest) F15 g15 b15
  have C_dark_part : Cal l.prog w K mg base "dark_part" 3 3 f_dark_part := cal_mk rfl (ok_dark_part F16 C_dark_until C_minus) F16 g16 b16
  have C_flight : Cal l.prog w K mg base "flight" 2 4 f_flight := cal_mk rfl (ok_flight F17 C_minus C_dark_part) F17 g17 b17
  have C_square_distance : Cal l.prog w K mg base "square_distance" 3 1 f_square_distance := cal_mk rfl (ok_square_distance F18 ) F18 g18 b18
  have C_law_speed : Cal l.prog w K mg base "_law_speed" 4 5 f_law_speed := cal_mk rfl (ok_law_speed F19 C_law_less C_flight C_square_distance) F19 g19 b19
  have C_law_times : Cal l.prog w K mg base "_law_times" 3 5 f_law_times := cal_mk rfl (ok_law_times F20 C_flight) F20 g20 b20
  have C_is_less : Cal l.prog w K mg base "is_less" 2 1 f_is_less := cal_mk rfl (ok_is_less F21 ) F21 g21 b21
  have C_can_count : Cal l.prog w K mg base "can_count" 2 5 f_can_count := cal_mk rfl (ok_can_count F22 C_flight C_is_less m_NOUGHT_outlook y_NOUGHT_outlook) F22 g22 b22
  have C_number_of : Cal l.prog w K mg base "number_of" 2 1 f_number_of := cal_mk rfl (ok_number_of F23 m_enumerate) F23 g23 b23
  have C_bird_of : Cal l.prog w K mg base "bird_of" 2 2 f_bird_of := cal_mk rfl (ok_bird_of F24 C_number_of m_BIRD) F24 g24 b24
  have C_over : Cal l.prog w K mg base "over" 2 2 f_over := cal_mk rfl (ok_over F25 C_lowest) F25 g25 b25
  have C_times : Cal l.prog w K mg base "times" 2 2 f_times := cal_mk rfl (ok_times F26 C_lowest) F26 g26 b26
  have C_speed_at : Cal l.prog w K mg base "speed_at" 4 5 f_speed_at := cal_mk rfl (ok_speed_at F27 C_is_less C_flight C_square_distance C_times C_over m_NOUGHT_flights y_NOUGHT_flights) F27 g27 b27
  have C_speed_home : Cal l.prog w K mg base "speed_home" 4 6 f_speed_home := cal_mk rfl (ok_speed_home F28 C_bird_of C_speed_at) F28 g28 b28
  have C_can_be_ahead : Cal l.prog w K mg base "can_be_ahead" 5 7 f_can_be_ahead := cal_mk rfl (ok_can_be_ahead F29 C_speed_home C_can_count C_is_less) F29 g29 b29
  have C_counting : Cal l.prog w K mg base "counting" 1 1 f_counting := cal_mk rfl (ok_counting F30 m_sorted) F30 g30 b30
  have C_ranked : Cal l.prog w K mg base "ranked" 1 2 f_ranked := cal_mk rfl (ok_ranked F31 C_is_less m_len m_sorted) F31 g31 b31
  have C_clock_of : Cal l.prog w K mg base "clock_of" 3 1 f_clock_of := cal_mk rfl (ok_clock_of F32 ) F32 g32 b32
  have C_plus : Cal l.prog w K mg base "plus" 2 2 f_plus := cal_mk rfl (ok_plus F33 C_lowest) F33 g33 b33
  have C_true_time : Cal l.prog w K mg base "true_time" 2 3 f_true_time := cal_mk rfl (ok_true_time F34 C_lowest C_plus) F34 g34 b34
  have C_speed : Cal l.prog w K mg base "speed" 3 6 f_speed := cal_mk rfl (ok_speed F35 C_true_time C_speed_at) F35 g35 b35
  have C_speed_of : Cal l.prog w K mg base "speed_of" 3 7 f_speed_of := cal_mk rfl (ok_speed_of F36 C_bird_of C_clock_of C_speed) F36 g36 b36
  have C_race_list : Cal l.prog w K mg base "race_list" 4 8 f_race_list := cal_mk rfl (ok_race_list F37 C_counting C_speed_of C_ranked) F37 g37 b37
  exact ok_law F38 C_law_given C_law_cell C_law_now C_race_list C_law_fraction C_law_times C_law_speed C_law_less C_can_be_ahead m_int m_len
/-- what is left: the law's own reckoning -/
def Goal : Prop := ∀ ns : List Int, ns.length ≤ 63 → ∃ m', f_law [.ref 0] [.frz (ns.map .int)] = .ok (.bl true) m'
end Lw

set_option Elab.async false
set_option linter.all false
set_option maxRecDepth 100000
set_option maxHeartbeats 400000
namespace Lw
open PySem PySem.Spec PyProof.Rows L2 SM
local macro_rules | `(tactic| walk_at "w1") => `(tactic| try simp -dsimp only [wp_fn, s_nil, s_brk, s_cnt, s_expr, s_ret, s_retN, s_if, s_asn, s_par, s_asg, g_nm, g_nil, g_cons, g_tupT, g_subW,
  w_v0, w_vS, w_c, w_op, w_un, w_anil, w_acons, w_tup, w_lst, w_call, w_callU, w_isi, w_meth, w_tru, w_bool, w_notS, w_andS, w_orS, w_ifx, w_andV, w_orV, w_notV, w_chain,
  wp_ok, wp_bad, wp_some, wp_none, wp_liftif, wp_if, asB_b, wp_noex,
  add_ii, sub_ii, mul_ii, fdiv_ii, mod_ii, pow_ii, neg_i, cmp_ii, lt_ii, le_ii, gt_ii, ge_ii, le_cc, muls_ii, muls_si, ins_cs, iadd_ii, isub_ii, w_onone, w_osome, w_sl, sl_s, sl_t, s_aug, eq_ss, len_s, ix_s, add_ss, str_s, tuple_t, list_t, is_n, not_n, non_n, non_i, non_b, non_s, non_t, non_r, abs_i, max_ii, min_ii, int_i, int_b, gcd_ii, len_t, ix_t, eq_v, ne_v, eq_ii, eq_bb, eq_nn, eq_in, eq_ni, iv_n_list, iv_n_tuple, iv_n_bool, iv_n_str, iv_n_int, okt_n, iv_b_list, iv_b_tuple, iv_b_bool, iv_b_str, iv_b_int, okt_b, iv_i_list, iv_i_tuple, iv_i_bool, iv_i_str, iv_i_int, okt_i, iv_s_list, iv_s_tuple, iv_s_bool, iv_s_str, iv_s_int, okt_s, iv_t_list, iv_t_tuple, iv_t_bool, iv_t_str, iv_t_int, okt_t, iv_r_list, iv_r_tuple, iv_r_bool, iv_r_str, iv_r_int, tru_b, tru_i, tru_n, tru_t, Option.map_some, Option.map_none,
  List.map_cons, List.map_nil, List.length_cons, List.length_nil, List.set_cons_zero, List.set_cons_succ, List.cons_append, List.nil_append, List.replicate, Nat.reduceAdd, Nat.reduceSub, Nat.reduceLeDiff, true_and, and_true, decide_eq_true_eq, reduceIte, Bool.false_eq_true, Bool.not_true, Bool.not_false, decide_true, decide_false])
local macro_rules | `(tactic| walk_at "wp") => `(tactic| try simp -dsimp only [s_seq, wp_fn, s_nil, s_brk, s_cnt, s_expr, s_ret, s_retN, s_if, s_asn, s_par, s_asg, g_nm, g_nil, g_cons, g_tupT, g_subW,
  w_v0, w_vS, w_c, w_op, w_un, w_anil, w_acons, w_tup, w_lst, w_call, w_callU, w_isi, w_meth, w_tru, w_bool, w_notS, w_andS, w_orS, w_ifx, w_andV, w_orV, w_notV, w_chain,
  wp_ok, wp_bad, wp_some, wp_none, wp_liftif, wp_if, asB_b, wp_noex,
  add_ii, sub_ii, mul_ii, fdiv_ii, mod_ii, pow_ii, neg_i, cmp_ii, lt_ii, le_ii, gt_ii, ge_ii, le_cc, muls_ii, muls_si, ins_cs, iadd_ii, isub_ii, w_onone, w_osome, w_sl, sl_s, sl_t, s_aug, eq_ss, len_s, ix_s, add_ss, str_s, tuple_t, list_t, is_n, not_n, non_n, non_i, non_b, non_s, non_t, non_r, abs_i, max_ii, min_ii, int_i, int_b, gcd_ii, len_t, ix_t, eq_v, ne_v, eq_ii, eq_bb, eq_nn, eq_in, eq_ni, iv_n_list, iv_n_tuple, iv_n_bool, iv_n_str, iv_n_int, okt_n, iv_b_list, iv_b_tuple, iv_b_bool, iv_b_str, iv_b_int, okt_b, iv_i_list, iv_i_tuple, iv_i_bool, iv_i_str, iv_i_int, okt_i, iv_s_list, iv_s_tuple, iv_s_bool, iv_s_str, iv_s_int, okt_s, iv_t_list, iv_t_tuple, iv_t_bool, iv_t_str, iv_t_int, okt_t, iv_r_list, iv_r_tuple, iv_r_bool, iv_r_str, iv_r_int, tru_b, tru_i, tru_n, tru_t, Option.map_some, Option.map_none,
  List.map_cons, List.map_nil, List.length_cons, List.length_nil, List.set_cons_zero, List.set_cons_succ, List.cons_append, List.nil_append, List.replicate, Nat.reduceAdd, Nat.reduceSub, Nat.reduceLeDiff, true_and, and_true, decide_eq_true_eq, reduceIte, Bool.false_eq_true, Bool.not_true, Bool.not_false, decide_true, decide_false])
local macro_rules | `(tactic| walk_at "sq") => `(tactic| (rw [s_seq]; walk_at "w1"))
set_option exponentiation.threshold 5000 in
theorem big_of {n : Nat} (h : n < 1606938044258990275541962092341162602522202993782792835301376) : n < big := Nat.lt_of_lt_of_le h (by rw [big_eq]; decide)
theorem fmod_pos {a b : Int} (h : 0 < b) : a.fmod b = a % b := Int.fmod_eq_emod_of_nonneg a (by omega)
theorem fdiv_pos {a b : Int} (h : 0 < b) : a.fdiv b = a / b := Int.fdiv_eq_ediv_of_nonneg a (by omega)
/-! the heap of the reckoning -/
theorem seq_of_lst {m : MH} {n : Nat} {xs : List PV} (h : m[n]? = some (.lst xs)) : seq? m n = some xs := by unfold seq?; rw [h]
theorem seq_of_frz {m : MH} {n : Nat} {xs : List PV} (h : m[n]? = some (.frz xs)) : seq? m n = some xs := by unfold seq?; rw [h]
theorem lst_of {m : MH} {n : Nat} {xs : List PV} (h : m[n]? = some (.lst xs)) : lst? m n = some xs := by unfold lst?; rw [h]
theorem get_new {m : MH} {o : MO} : (m ++ [o])[m.length]? = some o := by simp
theorem set_new {m : MH} {o u : MO} : (m ++ [o]).set m.length u = m ++ [u] := by simp [List.set_append]
theorem get_old {m : MH} {o u : MO} {n : Nat} (h : m[n]? = some u) : (m ++ [o])[n]? = some u := by
  rw [List.getElem?_append_left (List.getElem?_eq_some_iff.mp h).1]; exact h
theorem atI_nn {α : Type} {xs : List α} {i : Int} (h : 0 ≤ i) (h2 : i < xs.length) : atI xs i = xs[i.toNat]? := by
  unfold atI ixN
  rw [if_pos h, if_pos h2]
  rfl
theorem cell_ok {m : MH} {r : Nat} {ns : List Int} {k : Int} (h : seq? m r = some (ns.map .int)) (hk : 0 ≤ k) :
    WP (f_law_cell [.ref r, .int k] m) (fun x m' => x = .int (ns.getD k.toNat 0) ∧ m' = m) NoE := by
  unfold f_law_cell b_law_cell
  walk_at "wp"
  rw [len_r h]
  walk_at "wp"
  rw [List.length_map]
  by_cases hl : k < ns.length
  · rw [if_pos hl]
    walk_at "wp"
    rw [ix_r h, atI_nn hk (by rw [List.length_map]; exact hl), List.getElem?_map, List.getElem?_eq_getElem (by omega)]
    walk_at "wp"
    rw [List.getD_eq_getElem?_getD, List.getElem?_eq_getElem (by omega)]
    rfl
  · rw [if_neg hl]
    walk_at "wp"
    rw [List.getD_eq_getElem?_getD, List.getElem?_eq_none (by omega)]
    rfl
/-- a list of drawn digits -/
def Dig (ds : List Int) : Prop := ∀ d ∈ ds, 0 ≤ d ∧ d < 1000
theorem Dig.snoc {ds : List Int} (h : Dig ds) (x : Int) : Dig (ds ++ [x % 1000]) := by
  intro d hd
  rcases List.mem_append.mp hd with q | q
  · exact h d q
  · rw [List.mem_singleton] at q
    subst q
    exact ⟨Int.emod_nonneg _ (by decide), Int.emod_lt_of_pos _ (by decide)⟩
theorem append_new {m : MH} {ds : List Int} {v : Int} (h : ds.length < 16777216) : appendv (.ref m.length) [.int v] (m ++ [.lst (ds.map .int)]) = some (.non, m ++ [.lst ((ds ++ [v]).map .int)]) := by
  unfold appendv
  dsimp only
  rw [lst_of get_new]
  dsimp only
  rw [if_pos (by rw [List.length_map]; exact h), set_new, List.map_append]
  rfl
theorem isLst_new {m : MH} {xs : List PV} : isLst (m ++ [.lst xs]) (.ref m.length) = true := by
  show (seq? (m ++ [.lst xs]) m.length).isSome = true
  rw [seq_of_lst get_new]
  rfl
/-! the fraction in lowest terms -/
def lowv (p q : Int) : PV := let g : Int := (Nat.gcd p.natAbs q.natAbs : Nat); if q < 0 then .tup [.int (-p / g), .int (-q / g)] else .tup [.int (p / g), .int (q / g)]
theorem fdiv_neg_dvd {p g : Int} (hg : 0 < g) (hd : g ∣ p) : p.fdiv (-g) = -p / g := by
  obtain ⟨c, rfl⟩ := hd
  have e1 : g * c = (-g) * (-c) := by rw [Int.neg_mul_neg]
  have e2 : -(g * c) = g * (-c) := by rw [Int.mul_neg]
  rw [e2, Int.mul_ediv_cancel_left _ (by omega), e1, Int.mul_fdiv_cancel_left _ (by omega)]
theorem gcd_pos' {p q : Int} (hq : q ≠ 0) : 0 < ((Nat.gcd p.natAbs q.natAbs : Nat) : Int) := by
  have : 0 < Nat.gcd p.natAbs q.natAbs := Nat.gcd_pos_of_pos_right _ (by omega)
  omega
theorem lowest_ok {p q : Int} {m : MH} (hq : q ≠ 0) (hb : q.natAbs < 2 ^ 200) : WP (f_lowest [.int p, .int q] m) (fun x m' => x = lowv p q ∧ m' = m) NoE := by
  have hg := gcd_pos' (p := p) hq
  have hgle : Nat.gcd p.natAbs q.natAbs ≤ q.natAbs := Nat.gcd_le_right _ (by omega)
  have d1 : ((Nat.gcd p.natAbs q.natAbs : Nat) : Int) ∣ p := Int.ofNat_dvd_left.mpr (Nat.gcd_dvd_left _ _)
  have d2 : ((Nat.gcd p.natAbs q.natAbs : Nat) : Int) ∣ q := Int.ofNat_dvd_left.mpr (Nat.gcd_dvd_right _ _)
  unfold f_lowest b_lowest lowv
  walk_at "wp"
  generalize hG : ((Nat.gcd p.natAbs q.natAbs : Nat) : Int) = g at *
  have hb1 : g.natAbs < big := big_of (by omega)
  have hb2 : (-g).natAbs < big := by rw [Int.natAbs_neg]; exact hb1
  have n1 : g ≠ 0 := by omega
  have n2 : -g ≠ 0 := by omega
  by_cases h : q < 0
  · rw [if_pos h, if_pos h]
    walk_at "wp"
    rw [if_pos ⟨n2, hb2⟩, if_pos ⟨n2, hb2⟩, fdiv_neg_dvd hg d1, fdiv_neg_dvd hg d2]
  · rw [if_neg h, if_neg h]
    walk_at "wp"
    rw [if_pos ⟨n1, hb1⟩, if_pos ⟨n1, hb1⟩, fdiv_pos hg, fdiv_pos hg]
/-! ## fractions -/
def fpv (a b : Int) : PV := .tup [.int a, .int b]
structure Fq (a b : Int) : Prop where
  pos : 0 < b
  red : Nat.gcd a.natAbs b.natAbs = 1
theorem Fq.one (a : Int) : Fq a 1 := ⟨by decide, by simp⟩
theorem lowv_red {p q : Int} (hq : 0 < q) : ∃ a b, lowv p q = fpv a b ∧ Fq a b ∧ a * q = p * b ∧ a.natAbs ≤ p.natAbs ∧ b ≤ q := by
  have hg := gcd_pos' (p := p) (q := q) (by omega)
  obtain ⟨a, ea⟩ : ((Nat.gcd p.natAbs q.natAbs : Nat) : Int) ∣ p := Int.ofNat_dvd_left.mpr (Nat.gcd_dvd_left _ _)
  obtain ⟨b, eb⟩ : ((Nat.gcd p.natAbs q.natAbs : Nat) : Int) ∣ q := Int.ofNat_dvd_left.mpr (Nat.gcd_dvd_right _ _)
  have e1 : p / ((Nat.gcd p.natAbs q.natAbs : Nat) : Int) = a := by
    generalize ((Nat.gcd p.natAbs q.natAbs : Nat) : Int) = g at *
    rw [ea, Int.mul_ediv_cancel_left _ (by omega)]
  have e2 : q / ((Nat.gcd p.natAbs q.natAbs : Nat) : Int) = b := by
    generalize ((Nat.gcd p.natAbs q.natAbs : Nat) : Int) = g at *
    rw [eb, Int.mul_ediv_cancel_left _ (by omega)]
  have hb : 0 < b := by
    rw [← e2]
    exact Int.ediv_pos_of_pos_of_dvd (by omega) (by omega) ⟨b, eb⟩
  refine ⟨a, b, ?_, ⟨hb, ?_⟩, ?_, ?_, ?_⟩
  · unfold lowv fpv
    rw [if_neg (by omega), e1, e2]
  · have h1 : p.natAbs = Nat.gcd p.natAbs q.natAbs * a.natAbs := by
      have := congrArg Int.natAbs ea
      rwa [Int.natAbs_mul, Int.natAbs_natCast] at this
    have h2 : q.natAbs = Nat.gcd p.natAbs q.natAbs * b.natAbs := by
      have := congrArg Int.natAbs eb
      rwa [Int.natAbs_mul, Int.natAbs_natCast] at this
    have h3 : Nat.gcd p.natAbs q.natAbs = Nat.gcd p.natAbs q.natAbs * Nat.gcd a.natAbs b.natAbs := by
      rw [← Nat.gcd_mul_left, ← h1, ← h2]
    have h4 : 0 < Nat.gcd p.natAbs q.natAbs := by omega
    exact (Nat.eq_of_mul_eq_mul_left h4 (by rw [Nat.mul_one]; exact h3)).symm
  · generalize ((Nat.gcd p.natAbs q.natAbs : Nat) : Int) = g at *
    rw [ea, eb]
    grind
  · rw [← e1]
    exact Int.natAbs_ediv_le_natAbs _ _
  · rw [← e2]
    exact Int.ediv_le_self _ (by omega)
theorem Fq.uniq {a b c d : Int} (h : Fq a b) (h2 : Fq c d) (e : a * d = c * b) : a = c ∧ b = d := by
  have hb := h.pos
  have hd := h2.pos
  have en : a.natAbs * d.natAbs = c.natAbs * b.natAbs := by rw [← Int.natAbs_mul, ← Int.natAbs_mul, e]
  have d1 : b.natAbs ∣ d.natAbs := by
    have : Nat.Coprime b.natAbs a.natAbs := by rw [Nat.coprime_comm]; exact h.red
    exact this.dvd_of_dvd_mul_left ⟨c.natAbs, by rw [en, Nat.mul_comm]⟩
  have d2 : d.natAbs ∣ b.natAbs := by
    have : Nat.Coprime d.natAbs c.natAbs := by rw [Nat.coprime_comm]; exact h2.red
    exact this.dvd_of_dvd_mul_left ⟨a.natAbs, by rw [← en, Nat.mul_comm]⟩
  have e2 : b.natAbs = d.natAbs := Nat.dvd_antisymm d1 d2
  have e3 : b = d := by omega
  subst e3
  exact ⟨Int.eq_of_mul_eq_mul_right (by omega) e, rfl⟩
theorem lowv_eq {p q a b : Int} (hq : 0 < q) (h : Fq a b) (e : a * q = p * b) : lowv p q = fpv a b := by
  obtain ⟨a', b', h1, h2, h3, _, _⟩ := lowv_red (p := p) hq
  rw [h1]
  have := h2.uniq h (Int.eq_of_mul_eq_mul_right (a := q) (by omega) (by grind))
  rw [this.1, this.2]
theorem lowv_congr {p q r s : Int} (hq : 0 < q) (hs : 0 < s) (e : p * s = r * q) : lowv p q = lowv r s := by
  obtain ⟨a, b, h1, h2, h3, _, _⟩ := lowv_red (p := r) hs
  rw [h1]
  exact lowv_eq hq h2 (Int.eq_of_mul_eq_mul_right (a := s) (by omega) (by grind))
theorem lt_red {a1 b1 a2 b2 N1 D1 N2 D2 : Int} (hb1 : 0 < b1) (hb2 : 0 < b2) (hD1 : 0 < D1) (hD2 : 0 < D2) (h1 : a1 * D1 = N1 * b1) (h2 : a2 * D2 = N2 * b2) : a1 * b2 < a2 * b1 ↔ N1 * D2 < N2 * D1 := by
  have p1 : 0 < D1 * D2 := Int.mul_pos hD1 hD2
  have p2 : 0 < b1 * b2 := Int.mul_pos hb1 hb2
  have e1 : a1 * b2 * (D1 * D2) = N1 * D2 * (b1 * b2) := by grind
  have e2 : a2 * b1 * (D1 * D2) = N2 * D1 * (b1 * b2) := by grind
  constructor
  · intro h
    have := Int.mul_lt_mul_of_pos_right h p1
    rw [e1, e2] at this
    exact Int.lt_of_mul_lt_mul_right this (by omega)
  · intro h
    have := Int.mul_lt_mul_of_pos_right h p2
    rw [← e1, ← e2] at this
    exact Int.lt_of_mul_lt_mul_right this (by omega)
theorem mulb {a b : Int} (h1 : a.natAbs < 18446744073709551616) (h2 : b.natAbs < 18446744073709551616) : (a * b).natAbs < 2 ^ 200 := by
  rw [Int.natAbs_mul]
  have : a.natAbs * b.natAbs ≤ 18446744073709551616 * 18446744073709551616 := Nat.mul_le_mul (by omega) (by omega)
  omega
theorem mulb2 {a b : Int} (h1 : a.natAbs < 281474976710656) (h2 : b.natAbs < 281474976710656) : (a * b).natAbs < 2 ^ 97 := by
  rw [Int.natAbs_mul]
  have : a.natAbs * b.natAbs ≤ 281474976710656 * 281474976710656 := Nat.mul_le_mul (by omega) (by omega)
  omega
/-! ## the club of the draws -/
structure Loft where
  name : List Nat
  x : Int
  y : Int
structure Bird where
  ring : Int
  loft : Int
  year : Int
structure Race where
  name : List Nat
  x : Int
  y : Int
  start : Int
  close : Int
  dusk : Int
  dawn : Int
def Loft.pv (l : Loft) : PV := .tup [.str l.name, .int l.x, .int l.y]
def Bird.pv (l : Bird) : PV := .tup [.int l.ring, .int l.loft, .int l.year]
def Race.pv (l : Race) : PV := .tup [.str l.name, .int l.x, .int l.y, .int l.start, .int l.close, .int l.dusk, .int l.dawn]
def Loft.At (l : Loft) : Int × Int := (l.x, l.y)
structure LoftOk (l : Loft) : Prop where
  x : -9999 ≤ l.x ∧ l.x ≤ 9999
  y : -9999 ≤ l.y ∧ l.y ≤ 9999
structure BirdOk (n : Nat) (b : Bird) : Prop where
  ring : 1 ≤ b.ring ∧ b.ring ≤ 999
  loft : 0 ≤ b.loft ∧ b.loft < n
  year : 0 ≤ b.year ∧ b.year ≤ 99
structure RaceOk (L : List Loft) (r : Race) : Prop where
  x : -9999 ≤ r.x ∧ r.x ≤ 9999
  y : -9999 ≤ r.y ∧ r.y ≤ 9999
  start : 0 ≤ r.start ∧ r.start ≤ 2997
  close : r.start < r.close ∧ r.close ≤ r.start + 3997
  dusk : 0 ≤ r.dusk ∧ r.dusk ≤ 1439
  dawn : 0 ≤ r.dawn ∧ r.dawn ≤ 1439
  pl : (r.x, r.y) ∉ L.map Loft.At
structure ClubOk (nl nb nr : Int) (L : List Loft) (B : List Bird) (R : List Race) : Prop where
  l1 : 1 ≤ L.length
  l2 : (L.length : Int) ≤ nl
  b2 : (B.length : Int) ≤ nb
  r2 : (R.length : Int) ≤ nr
  lx : ∀ l ∈ L, LoftOk l
  bx : ∀ b ∈ B, BirdOk L.length b
  bn : (B.map Bird.ring).Nodup
  rx : ∀ r ∈ R, RaceOk L r
def clubPV (L : List Loft) (B : List Bird) (R : List Race) : PV := .tup [.tup (L.map Loft.pv), .tup (B.map Bird.pv), .tup (R.map Race.pv)]
theorem at_map {α : Type} {f : α → PV} {xs : List α} {i : Nat} {x : α} (h : xs[i]? = some x) : atI (xs.map f) ((i : Nat) : Int) = some (f x) :=
  atI_nat (by rw [List.getElem?_map, h]; rfl)

theorem atI_in {α : Type} {xs : List α} {i : Int} (h : 0 ≤ i) (h2 : i < xs.length) : ∃ x, atI xs i = some x ∧ x ∈ xs := by
  rw [atI_nn h h2]
  have : i.toNat < xs.length := by omega
  exact ⟨xs[i.toNat], List.getElem?_eq_getElem this, List.getElem_mem this⟩
theorem no_mem1 {α : Type} {p : α → Prop} : ∀ c ∈ ([] : List α), p c := fun _ h => by cases h
theorem minus_ok {p q r s : Int} {m : MH} (hq : 0 < q) (hs : 0 < s) (hq2 : q.natAbs < 18446744073709551616) (hs2 : s.natAbs < 18446744073709551616) :
    WP (f_minus [fpv p q, fpv r s] m) (fun x m' => x = lowv (p * s - r * q) (q * s) ∧ m' = m) NoE := by
  have b1 := mulb hq2 hs2
  have b2 := Int.mul_pos hq hs
  unfold f_minus b_minus fpv
  walk_at "w1"
  walk_at "sq"
  walk_at "sq"
  rw [if_pos (.inl (.inr (by omega))), if_pos (.inl (.inr (by omega))), if_pos (.inl (.inl (by omega)))]
  exact lowest_ok (by omega) (by omega)
/-! ## dark and light -/
def dod (D W m : Int) : Int := if D ≤ W then (if m < D then 0 else if m < W then m - D else W - D) else ((if m < W then m else W) + (if m < D then 0 else m - D))
def dkm (D W m : Int) : Int := if D ≤ W then (if D ≤ m ∧ m < W then 1 else 0) else (if D ≤ m ∨ m < W then 1 else 0)
def dkn (D W n : Int) : Int := dkm D W (n % 1440)
def Cn (D W n : Int) : Int := (n / 1440) * ((W - D) % 1440) + dod D W (n % 1440)
def Gn (D W p q : Int) : Int := Cn D W (p / q) * q + dkn D W (p / q) * (p - p / q * q)
theorem dkm_01 (D W m : Int) : dkm D W m = 0 ∨ dkm D W m = 1 := by
  unfold dkm
  repeat' split
  all_goals simp
theorem dkn_01 (D W n : Int) : dkn D W n = 0 ∨ dkn D W n = 1 := dkm_01 _ _ _
theorem Cn_succ {D W : Int} (hD : 0 ≤ D ∧ D ≤ 1439) (hW : 0 ≤ W ∧ W ≤ 1439) (n : Int) : Cn D W (n + 1) = Cn D W n + dkn D W n := by
  have h1 := Int.emod_nonneg n (b := 1440) (by decide)
  have h2 := Int.emod_lt_of_pos n (b := 1440) (by decide)
  have h3 := Int.mul_ediv_add_emod n 1440
  unfold Cn dkn
  by_cases h : n % 1440 = 1439
  · rw [show (n + 1) / 1440 = n / 1440 + 1 by omega, show (n + 1) % 1440 = 0 by omega, h, Int.add_mul]
    generalize n / 1440 * ((W - D) % 1440) = z
    unfold dod dkm
    repeat' split
    all_goals omega
  · rw [show (n + 1) / 1440 = n / 1440 by omega, show (n + 1) % 1440 = n % 1440 + 1 by omega]
    generalize n / 1440 * ((W - D) % 1440) = z
    generalize n % 1440 = m at *
    unfold dod dkm
    repeat' split
    all_goals omega
/-- the program's dark of a day, in q-ths of a minute -/
def dayv (Dq Wq e : Int) : Int := if Dq ≤ Wq then (if (if Wq < e then Wq else e) - Dq > 0 then (if Wq < e then Wq else e) - Dq else 0) else ((if Wq < e then Wq else e) + (if e - Dq > 0 then e - Dq else 0))
theorem le_q {a b q : Int} (hq : 0 < q) : a * q ≤ b * q ↔ a ≤ b := by
  constructor
  · exact fun h => Int.le_of_mul_le_mul_right h hq
  · exact fun h => Int.mul_le_mul_of_nonneg_right h (by omega)
theorem lt_q {a b q r : Int} (hq : 0 < q) (hr : r < q) : a < b → a * q + r < b * q := by
  intro h
  have := (le_q (a := a + 1) (b := b) hq).mpr (by omega)
  rw [Int.add_mul] at this
  omega
theorem day_q {D W m q r : Int} (hq : 0 < q) (h0 : 0 ≤ r) (hr : r < q) : dayv (D * q) (W * q) (m * q + r) = dod D W m * q + dkm D W m * r := by
  have d1 := lt_q (a := m) (b := D) hq hr
  have d2 := (le_q (a := D) (b := m) hq).mpr
  have w1 := lt_q (a := m) (b := W) hq hr
  have w2 := (le_q (a := W) (b := m) hq).mpr
  have dw := le_q (a := D) (b := W) hq
  have s1 := Int.sub_mul m D q
  have s2 := Int.sub_mul W D q
  unfold dayv dod dkm
  by_cases c1 : D ≤ W
  · simp only [if_pos (dw.mpr c1), if_pos c1]
    by_cases c2 : m < D
    · have := d1 c2
      simp only [if_pos c2, if_neg (show ¬ (D ≤ m ∧ m < W) by omega)]
      repeat' split
      all_goals omega
    · have := d2 (by omega)
      simp only [if_neg c2]
      by_cases c3 : m < W
      · have := w1 c3
        simp only [if_pos c3, if_pos (show D ≤ m ∧ m < W by omega)]
        repeat' split
        all_goals omega
      · have := w2 (by omega)
        have := dw.mpr c1
        simp only [if_neg c3, if_neg (show ¬ (D ≤ m ∧ m < W) by omega)]
        repeat' split
        all_goals omega
  · simp only [if_neg (fun h => c1 (dw.mp h)), if_neg c1, Int.add_mul]
    by_cases c2 : m < D
    · have := d1 c2
      simp only [if_pos c2]
      by_cases c3 : m < W
      · have := w1 c3
        simp only [if_pos c3, if_pos (show D ≤ m ∨ m < W by omega)]
        repeat' split
        all_goals omega
      · have := w2 (by omega)
        simp only [if_neg c3, if_neg (show ¬ (D ≤ m ∨ m < W) by omega)]
        repeat' split
        all_goals omega
    · have := d2 (by omega)
      simp only [if_neg c2]
      by_cases c3 : m < W
      · exact absurd c3 (by omega)
      · have := w2 (by omega)
        simp only [if_neg c3, if_pos (show D ≤ m ∨ m < W by omega)]
        repeat' split
        all_goals omega
theorem div_rem {p q : Int} (hq : 0 < q) : p = p / q * q + p % q ∧ 0 ≤ p % q ∧ p % q < q := by
  refine ⟨?_, Int.emod_nonneg _ (by omega), Int.emod_lt_of_pos _ hq⟩
  have := Int.mul_ediv_add_emod p q
  rw [Int.mul_comm] at this
  omega
theorem Gn_prog {D W p q : Int} (hq : 0 < q) : p / (1440 * q) * ((W - D) % 1440) * q + dayv (D * q) (W * q) (p - p / (1440 * q) * 1440 * q) = Gn D W p q := by
  obtain ⟨e1, e2, e3⟩ := div_rem (p := p) hq
  have e4 : p / (1440 * q) = p / q / 1440 := by rw [Int.mul_comm, Int.ediv_ediv_of_nonneg (by omega)]
  have e5 := Int.mul_ediv_add_emod (p / q) 1440
  unfold Gn Cn dkn
  rw [e4]
  generalize p / q = n at *
  generalize n / 1440 = k at *
  generalize n % 1440 = m at *
  generalize p % q = r at *
  have e6 : p - k * 1440 * q = m * q + r := by rw [e1]; grind
  have e7 : p - n * q = r := by omega
  rw [e6, e7, day_q hq e2 e3]
  grind
/-- the same time has the same dark -/
theorem ediv_same {a b p q : Int} (hb : 0 < b) (hq : 0 < q) (e : a * q = p * b) : a / b = p / q := by
  rw [← Int.mul_ediv_mul_of_pos_left a b hq, e, Int.mul_comm b q, Int.mul_ediv_mul_of_pos_left p q hb]
theorem Gn_same {D W a b p q : Int} (hb : 0 < b) (hq : 0 < q) (e : a * q = p * b) : Gn D W a b * q = Gn D W p q * b := by
  unfold Gn
  rw [ediv_same hb hq e]
  grind
theorem Gn_in {D W p q n : Int} (hD : 0 ≤ D ∧ D ≤ 1439) (hW : 0 ≤ W ∧ W ≤ 1439) (hq : 0 < q) (h1 : n * q ≤ p) (h2 : p ≤ (n + 1) * q) : Gn D W p q = Cn D W n * q + dkn D W n * (p - n * q) := by
  by_cases h : p = (n + 1) * q
  · have e : p / q = n + 1 := by rw [h, Int.mul_ediv_cancel _ (by omega)]
    unfold Gn
    rw [e, Cn_succ hD hW, h]
    grind
  · have e : p / q = n := by
      refine Int.ediv_eq_iff_of_pos hq |>.mpr ⟨?_, ?_⟩ <;> first | (rw [Int.mul_comm]; omega) | (rw [Int.add_mul] at *; omega) | skip
    unfold Gn
    rw [e]
def dkv (D W p1 q1 p2 q2 : Int) : PV := lowv (Gn D W p2 q2 * q1 - Gn D W p1 q1 * q2) (q1 * q2)
theorem dday_ok {a b e : Int} {m : MH} : WP (f_dark_of_day [.int a, .int b, .int e] m) (fun x m' => x = .int (dayv a b e) ∧ m' = m) NoE := by
  unfold f_dark_of_day b_dark_of_day dayv
  walk_at "wp"
  by_cases h : a ≤ b
  · simp only [if_pos h, and_self]
  · simp only [if_neg h, and_self]
theorem duntil_ok {D W p q : Int} {m : MH} {x1 x2 x3 x4 x5 : PV} (hq : 0 < q) (hq2 : q.natAbs < 4294967296) (hD : 0 ≤ D ∧ D ≤ 1439) (hW : 0 ≤ W ∧ W ≤ 1439) :
    WP (f_dark_until [.tup [x1, x2, x3, x4, x5, .int D, .int W], fpv p q] m) (fun x m' => x = lowv (Gn D W p q) q ∧ m' = m) NoE := by
  unfold f_dark_until b_dark_until fpv
  try simp -dsimp only [at0, at1, at2, at3, at4, at5, at6, wp_fn, s_nil, s_brk, s_cnt, s_expr, s_ret, s_retN, s_if, s_asn, s_par, s_asg, g_nm, g_nil, g_cons, g_tupT, g_subW, w_v0, w_vS, w_c, w_op, w_un, w_anil, w_acons, w_tup, w_lst, w_call, w_callU, w_isi, w_meth, w_tru, w_bool, w_notS, w_andS, w_orS, w_ifx, w_andV, w_orV, w_notV, w_chain, wp_ok, wp_bad, wp_some, wp_none, wp_liftif, wp_if, asB_b, wp_noex, add_ii, sub_ii, mul_ii, fdiv_ii, mod_ii, pow_ii, neg_i, cmp_ii, lt_ii, le_ii, gt_ii, ge_ii, le_cc, muls_ii, muls_si, ins_cs, iadd_ii, isub_ii, w_onone, w_osome, w_sl, sl_s, sl_t, s_aug, eq_ss, len_s, ix_s, add_ss, str_s, tuple_t, list_t, is_n, not_n, non_n, non_i, non_b, non_s, non_t, non_r, abs_i, max_ii, min_ii, int_i, int_b, gcd_ii, len_t, ix_t, eq_v, ne_v, eq_ii, eq_bb, eq_nn, eq_in, eq_ni, iv_n_list, iv_n_tuple, iv_n_bool, iv_n_str, iv_n_int, okt_n, iv_b_list, iv_b_tuple, iv_b_bool, iv_b_str, iv_b_int, okt_b, iv_i_list, iv_i_tuple, iv_i_bool, iv_i_str, iv_i_int, okt_i, iv_s_list, iv_s_tuple, iv_s_bool, iv_s_str, iv_s_int, okt_s, iv_t_list, iv_t_tuple, iv_t_bool, iv_t_str, iv_t_int, okt_t, iv_r_list, iv_r_tuple, iv_r_bool, iv_r_str, iv_r_int, tru_b, tru_i, tru_n, tru_t, Option.map_some, Option.map_none, List.map_cons, List.map_nil, List.length_cons, List.length_nil, List.set_cons_zero, List.set_cons_succ, List.cons_append, List.nil_append, List.replicate, Nat.reduceAdd, Nat.reduceSub, Nat.reduceLeDiff, true_and, and_true, decide_eq_true_eq, reduceIte, Bool.false_eq_true, Bool.not_true, Bool.not_false, decide_true, decide_false]
  rw [s_seq]
  try simp -dsimp only [at0, at1, at2, at3, at4, at5, at6, wp_fn, s_nil, s_brk, s_cnt, s_expr, s_ret, s_retN, s_if, s_asn, s_par, s_asg, g_nm, g_nil, g_cons, g_tupT, g_subW, w_v0, w_vS, w_c, w_op, w_un, w_anil, w_acons, w_tup, w_lst, w_call, w_callU, w_isi, w_meth, w_tru, w_bool, w_notS, w_andS, w_orS, w_ifx, w_andV, w_orV, w_notV, w_chain, wp_ok, wp_bad, wp_some, wp_none, wp_liftif, wp_if, asB_b, wp_noex, add_ii, sub_ii, mul_ii, fdiv_ii, mod_ii, pow_ii, neg_i, cmp_ii, lt_ii, le_ii, gt_ii, ge_ii, le_cc, muls_ii, muls_si, ins_cs, iadd_ii, isub_ii, w_onone, w_osome, w_sl, sl_s, sl_t, s_aug, eq_ss, len_s, ix_s, add_ss, str_s, tuple_t, list_t, is_n, not_n, non_n, non_i, non_b, non_s, non_t, non_r, abs_i, max_ii, min_ii, int_i, int_b, gcd_ii, len_t, ix_t, eq_v, ne_v, eq_ii, eq_bb, eq_nn, eq_in, eq_ni, iv_n_list, iv_n_tuple, iv_n_bool, iv_n_str, iv_n_int, okt_n, iv_b_list, iv_b_tuple, iv_b_bool, iv_b_str, iv_b_int, okt_b, iv_i_list, iv_i_tuple, iv_i_bool, iv_i_str, iv_i_int, okt_i, iv_s_list, iv_s_tuple, iv_s_bool, iv_s_str, iv_s_int, okt_s, iv_t_list, iv_t_tuple, iv_t_bool, iv_t_str, iv_t_int, okt_t, iv_r_list, iv_r_tuple, iv_r_bool, iv_r_str, iv_r_int, tru_b, tru_i, tru_n, tru_t, Option.map_some, Option.map_none, List.map_cons, List.map_nil, List.length_cons, List.length_nil, List.set_cons_zero, List.set_cons_succ, List.cons_append, List.nil_append, List.replicate, Nat.reduceAdd, Nat.reduceSub, Nat.reduceLeDiff, true_and, and_true, decide_eq_true_eq, reduceIte, Bool.false_eq_true, Bool.not_true, Bool.not_false, decide_true, decide_false]
  rw [s_seq]
  try simp -dsimp only [at0, at1, at2, at3, at4, at5, at6, wp_fn, s_nil, s_brk, s_cnt, s_expr, s_ret, s_retN, s_if, s_asn, s_par, s_asg, g_nm, g_nil, g_cons, g_tupT, g_subW, w_v0, w_vS, w_c, w_op, w_un, w_anil, w_acons, w_tup, w_lst, w_call, w_callU, w_isi, w_meth, w_tru, w_bool, w_notS, w_andS, w_orS, w_ifx, w_andV, w_orV, w_notV, w_chain, wp_ok, wp_bad, wp_some, wp_none, wp_liftif, wp_if, asB_b, wp_noex, add_ii, sub_ii, mul_ii, fdiv_ii, mod_ii, pow_ii, neg_i, cmp_ii, lt_ii, le_ii, gt_ii, ge_ii, le_cc, muls_ii, muls_si, ins_cs, iadd_ii, isub_ii, w_onone, w_osome, w_sl, sl_s, sl_t, s_aug, eq_ss, len_s, ix_s, add_ss, str_s, tuple_t, list_t, is_n, not_n, non_n, non_i, non_b, non_s, non_t, non_r, abs_i, max_ii, min_ii, int_i, int_b, gcd_ii, len_t, ix_t, eq_v, ne_v, eq_ii, eq_bb, eq_nn, eq_in, eq_ni, iv_n_list, iv_n_tuple, iv_n_bool, iv_n_str, iv_n_int, okt_n, iv_b_list, iv_b_tuple, iv_b_bool, iv_b_str, iv_b_int, okt_b, iv_i_list, iv_i_tuple, iv_i_bool, iv_i_str, iv_i_int, okt_i, iv_s_list, iv_s_tuple, iv_s_bool, iv_s_str, iv_s_int, okt_s, iv_t_list, iv_t_tuple, iv_t_bool, iv_t_str, iv_t_int, okt_t, iv_r_list, iv_r_tuple, iv_r_bool, iv_r_str, iv_r_int, tru_b, tru_i, tru_n, tru_t, Option.map_some, Option.map_none, List.map_cons, List.map_nil, List.length_cons, List.length_nil, List.set_cons_zero, List.set_cons_succ, List.cons_append, List.nil_append, List.replicate, Nat.reduceAdd, Nat.reduceSub, Nat.reduceLeDiff, true_and, and_true, decide_eq_true_eq, reduceIte, Bool.false_eq_true, Bool.not_true, Bool.not_false, decide_true, decide_false]
  rw [s_seq]
  try simp -dsimp only [at0, at1, at2, at3, at4, at5, at6, wp_fn, s_nil, s_brk, s_cnt, s_expr, s_ret, s_retN, s_if, s_asn, s_par, s_asg, g_nm, g_nil, g_cons, g_tupT, g_subW, w_v0, w_vS, w_c, w_op, w_un, w_anil, w_acons, w_tup, w_lst, w_call, w_callU, w_isi, w_meth, w_tru, w_bool, w_notS, w_andS, w_orS, w_ifx, w_andV, w_orV, w_notV, w_chain, wp_ok, wp_bad, wp_some, wp_none, wp_liftif, wp_if, asB_b, wp_noex, add_ii, sub_ii, mul_ii, fdiv_ii, mod_ii, pow_ii, neg_i, cmp_ii, lt_ii, le_ii, gt_ii, ge_ii, le_cc, muls_ii, muls_si, ins_cs, iadd_ii, isub_ii, w_onone, w_osome, w_sl, sl_s, sl_t, s_aug, eq_ss, len_s, ix_s, add_ss, str_s, tuple_t, list_t, is_n, not_n, non_n, non_i, non_b, non_s, non_t, non_r, abs_i, max_ii, min_ii, int_i, int_b, gcd_ii, len_t, ix_t, eq_v, ne_v, eq_ii, eq_bb, eq_nn, eq_in, eq_ni, iv_n_list, iv_n_tuple, iv_n_bool, iv_n_str, iv_n_int, okt_n, iv_b_list, iv_b_tuple, iv_b_bool, iv_b_str, iv_b_int, okt_b, iv_i_list, iv_i_tuple, iv_i_bool, iv_i_str, iv_i_int, okt_i, iv_s_list, iv_s_tuple, iv_s_bool, iv_s_str, iv_s_int, okt_s, iv_t_list, iv_t_tuple, iv_t_bool, iv_t_str, iv_t_int, okt_t, iv_r_list, iv_r_tuple, iv_r_bool, iv_r_str, iv_r_int, tru_b, tru_i, tru_n, tru_t, Option.map_some, Option.map_none, List.map_cons, List.map_nil, List.length_cons, List.length_nil, List.set_cons_zero, List.set_cons_succ, List.cons_append, List.nil_append, List.replicate, Nat.reduceAdd, Nat.reduceSub, Nat.reduceLeDiff, true_and, and_true, decide_eq_true_eq, reduceIte, Bool.false_eq_true, Bool.not_true, Bool.not_false, decide_true, decide_false]
  rw [if_pos (.inl (.inl (by omega))), if_pos ⟨by omega, big_of (by omega)⟩, fdiv_pos (by omega)]
  try simp -dsimp only [at0, at1, at2, at3, at4, at5, at6, wp_fn, s_nil, s_brk, s_cnt, s_expr, s_ret, s_retN, s_if, s_asn, s_par, s_asg, g_nm, g_nil, g_cons, g_tupT, g_subW, w_v0, w_vS, w_c, w_op, w_un, w_anil, w_acons, w_tup, w_lst, w_call, w_callU, w_isi, w_meth, w_tru, w_bool, w_notS, w_andS, w_orS, w_ifx, w_andV, w_orV, w_notV, w_chain, wp_ok, wp_bad, wp_some, wp_none, wp_liftif, wp_if, asB_b, wp_noex, add_ii, sub_ii, mul_ii, fdiv_ii, mod_ii, pow_ii, neg_i, cmp_ii, lt_ii, le_ii, gt_ii, ge_ii, le_cc, muls_ii, muls_si, ins_cs, iadd_ii, isub_ii, w_onone, w_osome, w_sl, sl_s, sl_t, s_aug, eq_ss, len_s, ix_s, add_ss, str_s, tuple_t, list_t, is_n, not_n, non_n, non_i, non_b, non_s, non_t, non_r, abs_i, max_ii, min_ii, int_i, int_b, gcd_ii, len_t, ix_t, eq_v, ne_v, eq_ii, eq_bb, eq_nn, eq_in, eq_ni, iv_n_list, iv_n_tuple, iv_n_bool, iv_n_str, iv_n_int, okt_n, iv_b_list, iv_b_tuple, iv_b_bool, iv_b_str, iv_b_int, okt_b, iv_i_list, iv_i_tuple, iv_i_bool, iv_i_str, iv_i_int, okt_i, iv_s_list, iv_s_tuple, iv_s_bool, iv_s_str, iv_s_int, okt_s, iv_t_list, iv_t_tuple, iv_t_bool, iv_t_str, iv_t_int, okt_t, iv_r_list, iv_r_tuple, iv_r_bool, iv_r_str, iv_r_int, tru_b, tru_i, tru_n, tru_t, Option.map_some, Option.map_none, List.map_cons, List.map_nil, List.length_cons, List.length_nil, List.set_cons_zero, List.set_cons_succ, List.cons_append, List.nil_append, List.replicate, Nat.reduceAdd, Nat.reduceSub, Nat.reduceLeDiff, true_and, and_true, decide_eq_true_eq, reduceIte, Bool.false_eq_true, Bool.not_true, Bool.not_false, decide_true, decide_false]
  rw [s_seq]
  try simp -dsimp only [at0, at1, at2, at3, at4, at5, at6, wp_fn, s_nil, s_brk, s_cnt, s_expr, s_ret, s_retN, s_if, s_asn, s_par, s_asg, g_nm, g_nil, g_cons, g_tupT, g_subW, w_v0, w_vS, w_c, w_op, w_un, w_anil, w_acons, w_tup, w_lst, w_call, w_callU, w_isi, w_meth, w_tru, w_bool, w_notS, w_andS, w_orS, w_ifx, w_andV, w_orV, w_notV, w_chain, wp_ok, wp_bad, wp_some, wp_none, wp_liftif, wp_if, asB_b, wp_noex, add_ii, sub_ii, mul_ii, fdiv_ii, mod_ii, pow_ii, neg_i, cmp_ii, lt_ii, le_ii, gt_ii, ge_ii, le_cc, muls_ii, muls_si, ins_cs, iadd_ii, isub_ii, w_onone, w_osome, w_sl, sl_s, sl_t, s_aug, eq_ss, len_s, ix_s, add_ss, str_s, tuple_t, list_t, is_n, not_n, non_n, non_i, non_b, non_s, non_t, non_r, abs_i, max_ii, min_ii, int_i, int_b, gcd_ii, len_t, ix_t, eq_v, ne_v, eq_ii, eq_bb, eq_nn, eq_in, eq_ni, iv_n_list, iv_n_tuple, iv_n_bool, iv_n_str, iv_n_int, okt_n, iv_b_list, iv_b_tuple, iv_b_bool, iv_b_str, iv_b_int, okt_b, iv_i_list, iv_i_tuple, iv_i_bool, iv_i_str, iv_i_int, okt_i, iv_s_list, iv_s_tuple, iv_s_bool, iv_s_str, iv_s_int, okt_s, iv_t_list, iv_t_tuple, iv_t_bool, iv_t_str, iv_t_int, okt_t, iv_r_list, iv_r_tuple, iv_r_bool, iv_r_str, iv_r_int, tru_b, tru_i, tru_n, tru_t, Option.map_some, Option.map_none, List.map_cons, List.map_nil, List.length_cons, List.length_nil, List.set_cons_zero, List.set_cons_succ, List.cons_append, List.nil_append, List.replicate, Nat.reduceAdd, Nat.reduceSub, Nat.reduceLeDiff, true_and, and_true, decide_eq_true_eq, reduceIte, Bool.false_eq_true, Bool.not_true, Bool.not_false, decide_true, decide_false]
  have hc := Int.emod_nonneg (W - D) (b := 1440) (by decide)
  have hc2 := Int.emod_lt_of_pos (W - D) (b := 1440) (by decide)
  rw [if_pos (by decide), fmod_pos (by decide), if_pos (.inl (.inr (by omega))), if_pos (.inl (.inr (by omega)))]
  try simp -dsimp only [at0, at1, at2, at3, at4, at5, at6, wp_fn, s_nil, s_brk, s_cnt, s_expr, s_ret, s_retN, s_if, s_asn, s_par, s_asg, g_nm, g_nil, g_cons, g_tupT, g_subW, w_v0, w_vS, w_c, w_op, w_un, w_anil, w_acons, w_tup, w_lst, w_call, w_callU, w_isi, w_meth, w_tru, w_bool, w_notS, w_andS, w_orS, w_ifx, w_andV, w_orV, w_notV, w_chain, wp_ok, wp_bad, wp_some, wp_none, wp_liftif, wp_if, asB_b, wp_noex, add_ii, sub_ii, mul_ii, fdiv_ii, mod_ii, pow_ii, neg_i, cmp_ii, lt_ii, le_ii, gt_ii, ge_ii, le_cc, muls_ii, muls_si, ins_cs, iadd_ii, isub_ii, w_onone, w_osome, w_sl, sl_s, sl_t, s_aug, eq_ss, len_s, ix_s, add_ss, str_s, tuple_t, list_t, is_n, not_n, non_n, non_i, non_b, non_s, non_t, non_r, abs_i, max_ii, min_ii, int_i, int_b, gcd_ii, len_t, ix_t, eq_v, ne_v, eq_ii, eq_bb, eq_nn, eq_in, eq_ni, iv_n_list, iv_n_tuple, iv_n_bool, iv_n_str, iv_n_int, okt_n, iv_b_list, iv_b_tuple, iv_b_bool, iv_b_str, iv_b_int, okt_b, iv_i_list, iv_i_tuple, iv_i_bool, iv_i_str, iv_i_int, okt_i, iv_s_list, iv_s_tuple, iv_s_bool, iv_s_str, iv_s_int, okt_s, iv_t_list, iv_t_tuple, iv_t_bool, iv_t_str, iv_t_int, okt_t, iv_r_list, iv_r_tuple, iv_r_bool, iv_r_str, iv_r_int, tru_b, tru_i, tru_n, tru_t, Option.map_some, Option.map_none, List.map_cons, List.map_nil, List.length_cons, List.length_nil, List.set_cons_zero, List.set_cons_succ, List.cons_append, List.nil_append, List.replicate, Nat.reduceAdd, Nat.reduceSub, Nat.reduceLeDiff, true_and, and_true, decide_eq_true_eq, reduceIte, Bool.false_eq_true, Bool.not_true, Bool.not_false, decide_true, decide_false]
  rw [if_pos (.inl (.inl (by omega))), if_pos (.inl (.inl (by omega))), if_pos (.inl (.inr (by omega))), if_pos (.inl (.inr (by omega)))]
  refine dday_ok.mono ?_
  rintro _ _ ⟨rfl, rfl⟩
  try simp -dsimp only [at0, at1, at2, at3, at4, at5, at6, wp_fn, s_nil, s_brk, s_cnt, s_expr, s_ret, s_retN, s_if, s_asn, s_par, s_asg, g_nm, g_nil, g_cons, g_tupT, g_subW, w_v0, w_vS, w_c, w_op, w_un, w_anil, w_acons, w_tup, w_lst, w_call, w_callU, w_isi, w_meth, w_tru, w_bool, w_notS, w_andS, w_orS, w_ifx, w_andV, w_orV, w_notV, w_chain, wp_ok, wp_bad, wp_some, wp_none, wp_liftif, wp_if, asB_b, wp_noex, add_ii, sub_ii, mul_ii, fdiv_ii, mod_ii, pow_ii, neg_i, cmp_ii, lt_ii, le_ii, gt_ii, ge_ii, le_cc, muls_ii, muls_si, ins_cs, iadd_ii, isub_ii, w_onone, w_osome, w_sl, sl_s, sl_t, s_aug, eq_ss, len_s, ix_s, add_ss, str_s, tuple_t, list_t, is_n, not_n, non_n, non_i, non_b, non_s, non_t, non_r, abs_i, max_ii, min_ii, int_i, int_b, gcd_ii, len_t, ix_t, eq_v, ne_v, eq_ii, eq_bb, eq_nn, eq_in, eq_ni, iv_n_list, iv_n_tuple, iv_n_bool, iv_n_str, iv_n_int, okt_n, iv_b_list, iv_b_tuple, iv_b_bool, iv_b_str, iv_b_int, okt_b, iv_i_list, iv_i_tuple, iv_i_bool, iv_i_str, iv_i_int, okt_i, iv_s_list, iv_s_tuple, iv_s_bool, iv_s_str, iv_s_int, okt_s, iv_t_list, iv_t_tuple, iv_t_bool, iv_t_str, iv_t_int, okt_t, iv_r_list, iv_r_tuple, iv_r_bool, iv_r_str, iv_r_int, tru_b, tru_i, tru_n, tru_t, Option.map_some, Option.map_none, List.map_cons, List.map_nil, List.length_cons, List.length_nil, List.set_cons_zero, List.set_cons_succ, List.cons_append, List.nil_append, List.replicate, Nat.reduceAdd, Nat.reduceSub, Nat.reduceLeDiff, true_and, and_true, decide_eq_true_eq, reduceIte, Bool.false_eq_true, Bool.not_true, Bool.not_false, decide_true, decide_false]
  rw [Gn_prog hq]
  exact lowest_ok (by omega) (by omega)
theorem dpart_ok {D W p1 q1 p2 q2 : Int} {m : MH} {x1 x2 x3 x4 x5 : PV} (h1 : 0 < q1) (h1' : q1.natAbs < 4294967296) (h2 : 0 < q2) (h2' : q2.natAbs < 4294967296) (hD : 0 ≤ D ∧ D ≤ 1439) (hW : 0 ≤ W ∧ W ≤ 1439) :
    WP (f_dark_part [.tup [x1, x2, x3, x4, x5, .int D, .int W], fpv p1 q1, fpv p2 q2] m) (fun x m' => x = dkv D W p1 q1 p2 q2 ∧ m' = m) NoE := by
  have ha := fun (m : MH) => duntil_ok (D := D) (W := W) (p := p1) (m := m) (x1 := x1) (x2 := x2) (x3 := x3) (x4 := x4) (x5 := x5) h1 h1' hD hW
  have hb := fun (m : MH) => duntil_ok (D := D) (W := W) (p := p2) (m := m) (x1 := x1) (x2 := x2) (x3 := x3) (x4 := x4) (x5 := x5) h2 h2' hD hW
  unfold f_dark_part b_dark_part fpv at *
  walk_at "w1"
  refine (hb _).mono ?_
  rintro _ _ ⟨rfl, rfl⟩
  walk_at "w1"
  refine (ha _).mono ?_
  rintro _ _ ⟨rfl, rfl⟩
  obtain ⟨a, b, e1, e2, e3, e4, e5⟩ := lowv_red (p := Gn D W p1 q1) h1
  obtain ⟨a', b', z1, z2, z3, z4, z5⟩ := lowv_red (p := Gn D W p2 q2) h2
  have p1 := e2.pos
  have p2 := z2.pos
  rw [e1, z1]
  walk_at "w1"
  refine (minus_ok p2 p1 (by omega) (by omega)).mono ?_
  rintro _ _ ⟨rfl, rfl⟩
  unfold dkv
  refine ⟨lowv_congr (Int.mul_pos p2 p1) (Int.mul_pos h1 h2) (by grind), rfl⟩
theorem Cn_lip {D W : Int} (hD : 0 ≤ D ∧ D ≤ 1439) (hW : 0 ≤ W ∧ W ≤ 1439) (n : Int) : ∀ k : Nat, 0 ≤ Cn D W (n + k) - Cn D W n ∧ Cn D W (n + k) - Cn D W n ≤ k
  | 0 => by simp
  | k + 1 => by
    have ih := Cn_lip hD hW n k
    have := Cn_succ hD hW (n + k)
    have d := dkn_01 D W (n + k)
    rw [show n + ((k + 1 : Nat) : Int) = n + (k : Nat) + 1 by omega]
    omega
theorem Cn_zero {D W : Int} (hD : 0 ≤ D ∧ D ≤ 1439) (hW : 0 ≤ W ∧ W ≤ 1439) : Cn D W 0 = 0 := by
  unfold Cn dod
  rw [show (0 : Int) / 1440 = 0 by decide, show (0 : Int) % 1440 = 0 by decide, Int.zero_mul]
  repeat' split
  all_goals omega
theorem floor_le {p q p' q' : Int} (hq : 0 < q) (hq' : 0 < q') (h : p * q' ≤ p' * q) : p / q ≤ p' / q' := by
  refine (Int.le_ediv_iff_mul_le hq').mpr ?_
  have z1 : p / q * q ≤ p := Int.ediv_mul_le p (by omega)
  refine Int.le_of_mul_le_mul_right (a := q) ?_ hq
  have z2 := Int.mul_le_mul_of_nonneg_right z1 (Int.le_of_lt hq')
  have z3 : p / q * q * q' = p / q * q' * q := by grind
  omega
theorem G_lip {D W p q p' q' : Int} (hD : 0 ≤ D ∧ D ≤ 1439) (hW : 0 ≤ W ∧ W ≤ 1439) (hq : 0 < q) (hq' : 0 < q') (h : p * q' ≤ p' * q) : 0 ≤ Gn D W p' q' * q - Gn D W p q * q' ∧ Gn D W p' q' * q - Gn D W p q * q' ≤ p' * q - p * q' := by
  have hn := floor_le hq hq' h
  obtain ⟨r1, r2, r3⟩ := div_rem (p := p) hq
  obtain ⟨s1, s2, s3⟩ := div_rem (p := p') hq'
  unfold Gn
  generalize p / q = n at *
  generalize p' / q' = n' at *
  generalize p % q = r at *
  generalize p' % q' = s at *
  by_cases e : n = n'
  · subst e
    rcases dkn_01 D W n with d | d
    · rw [d]
      have : (Cn D W n * q' + 0 * (p' - n * q')) * q - (Cn D W n * q + 0 * (p - n * q)) * q' = 0 := by grind
      omega
    · rw [d]
      have : (Cn D W n * q' + 1 * (p' - n * q')) * q - (Cn D W n * q + 1 * (p - n * q)) * q' = p' * q - p * q' := by grind
      omega
  · obtain ⟨k, hk⟩ := Int.eq_ofNat_of_zero_le (show 0 ≤ n' - (n + 1) by omega)
    have hc := Cn_lip hD hW (n + 1) k
    rw [show n + 1 + (k : Int) = n' by omega, Cn_succ hD hW n] at hc
    have d1 := dkn_01 D W n
    have d2 := dkn_01 D W n'
    generalize Cn D W n = c at *
    generalize Cn D W n' = c' at *
    generalize dkn D W n = d at *
    generalize dkn D W n' = d' at *
    obtain ⟨t, ht⟩ : ∃ t, t = c' - (c + d) := ⟨_, rfl⟩
    have e1 : (c' * q' + d' * (p' - n' * q')) * q - (c * q + d * (p - n * q)) * q' = q * (d' * s) + q' * (d * (q - r)) + q * q' * t := by
      rw [ht, s1, r1]; grind
    have e2 : p' * q - p * q' = q * s + q' * (q - r) + q * q' * k := by
      have : (k : Int) = n' - n - 1 := by omega
      rw [this, s1, r1]; grind
    rw [e1, e2]
    have hqq := Int.mul_pos hq hq'
    have a1 : 0 ≤ q * q' * t := Int.mul_nonneg (by omega) (by omega)
    have a2 : q * q' * t ≤ q * q' * k := Int.mul_le_mul_of_nonneg_left (by omega) (by omega)
    have b1 : 0 ≤ q * s := Int.mul_nonneg (by omega) s2
    have b2 : 0 ≤ q' * (q - r) := Int.mul_nonneg (by omega) (by omega)
    rcases d1 with rfl | rfl <;> rcases d2 with rfl | rfl <;> simp only [Int.zero_mul, Int.one_mul, Int.mul_zero] <;> omega
theorem Gn_pos {D W p q : Int} (hD : 0 ≤ D ∧ D ≤ 1439) (hW : 0 ≤ W ∧ W ≤ 1439) (hq : 0 < q) (h : 0 ≤ p) : 0 ≤ Gn D W p q ∧ Gn D W p q ≤ p := by
  have := G_lip (D := D) (W := W) (p := 0) (q := 1) (p' := p) (q' := q) hD hW (by decide) hq (by omega)
  have z : Gn D W 0 1 = 0 := by
    unfold Gn
    rw [Int.ediv_one, Cn_zero hD hW]
    grind
  rw [z] at this
  omega
theorem Gn_day {D W p q : Int} (hq : 0 < q) : Gn D W (p + 1440 * q) q = Gn D W p q + (W - D) % 1440 * q := by
  have e : (p + 1440 * q) / q = p / q + 1440 := Int.add_mul_ediv_right _ _ (by omega)
  unfold Gn Cn dkn
  rw [e, show (p / q + 1440) / 1440 = p / q / 1440 + 1 by omega, show (p / q + 1440) % 1440 = p / q % 1440 by omega]
  grind
/-! ## flights -/
def Nf (D W s p q : Int) : Int := p - s * q - (Gn D W p q - Gn D W s 1 * q)
def flv (D W s p q : Int) : PV := lowv (Nf D W s p q) q
theorem Nf_pos {D W s p q : Int} (hD : 0 ≤ D ∧ D ≤ 1439) (hW : 0 ≤ W ∧ W ≤ 1439) (hq : 0 < q) (h : s * q ≤ p) : 0 ≤ Nf D W s p q ∧ Nf D W s p q ≤ p - s * q := by
  have := G_lip (D := D) (W := W) (p := s) (q := 1) (p' := p) (q' := q) hD hW (by decide) hq (by omega)
  unfold Nf
  omega
theorem Nf_mono {D W s p q p' q' : Int} (hD : 0 ≤ D ∧ D ≤ 1439) (hW : 0 ≤ W ∧ W ≤ 1439) (hq : 0 < q) (hq' : 0 < q') (h : p * q' ≤ p' * q) : Nf D W s p q * q' ≤ Nf D W s p' q' * q ∧ Nf D W s p' q' * q - Nf D W s p q * q' ≤ p' * q - p * q' := by
  have := G_lip (D := D) (W := W) hD hW hq hq' h
  have e : Nf D W s p' q' * q - Nf D W s p q * q' = (p' * q - p * q') - (Gn D W p' q' * q - Gn D W p q * q') := by unfold Nf; grind
  omega
theorem Nf_same {D W s a b p q : Int} (hb : 0 < b) (hq : 0 < q) (e : a * q = p * b) : Nf D W s a b * q = Nf D W s p q * b := by
  have := Gn_same (D := D) (W := W) hb hq e
  unfold Nf
  grind
theorem flight_ok {D W s p q : Int} {m : MH} {x1 x2 x3 x5 : PV} (hq : 0 < q) (hq2 : q.natAbs < 4294967296) (hD : 0 ≤ D ∧ D ≤ 1439) (hW : 0 ≤ W ∧ W ≤ 1439) :
    WP (f_flight [.tup [x1, x2, x3, .int s, x5, .int D, .int W], fpv p q] m) (fun x m' => x = flv D W s p q ∧ m' = m) NoE := by
  have hd := fun (m : MH) => dpart_ok (D := D) (W := W) (p1 := s) (q1 := 1) (p2 := p) (q2 := q) (m := m) (x1 := x1) (x2 := x2) (x3 := x3) (x4 := .int s) (x5 := x5) (by decide) (by decide) hq hq2 hD hW
  unfold f_flight b_flight fpv at *
  try simp -dsimp only [at0, at1, at2, at3, at4, at5, at6, wp_fn, s_nil, s_brk, s_cnt, s_expr, s_ret, s_retN, s_if, s_asn, s_par, s_asg, g_nm, g_nil, g_cons, g_tupT, g_subW, w_v0, w_vS, w_c, w_op, w_un, w_anil, w_acons, w_tup, w_lst, w_call, w_callU, w_isi, w_meth, w_tru, w_bool, w_notS, w_andS, w_orS, w_ifx, w_andV, w_orV, w_notV, w_chain, wp_ok, wp_bad, wp_some, wp_none, wp_liftif, wp_if, asB_b, wp_noex, add_ii, sub_ii, mul_ii, fdiv_ii, mod_ii, pow_ii, neg_i, cmp_ii, lt_ii, le_ii, gt_ii, ge_ii, le_cc, muls_ii, muls_si, ins_cs, iadd_ii, isub_ii, w_onone, w_osome, w_sl, sl_s, sl_t, s_aug, eq_ss, len_s, ix_s, add_ss, str_s, tuple_t, list_t, is_n, not_n, non_n, non_i, non_b, non_s, non_t, non_r, abs_i, max_ii, min_ii, int_i, int_b, gcd_ii, len_t, ix_t, eq_v, ne_v, eq_ii, eq_bb, eq_nn, eq_in, eq_ni, iv_n_list, iv_n_tuple, iv_n_bool, iv_n_str, iv_n_int, okt_n, iv_b_list, iv_b_tuple, iv_b_bool, iv_b_str, iv_b_int, okt_b, iv_i_list, iv_i_tuple, iv_i_bool, iv_i_str, iv_i_int, okt_i, iv_s_list, iv_s_tuple, iv_s_bool, iv_s_str, iv_s_int, okt_s, iv_t_list, iv_t_tuple, iv_t_bool, iv_t_str, iv_t_int, okt_t, iv_r_list, iv_r_tuple, iv_r_bool, iv_r_str, iv_r_int, tru_b, tru_i, tru_n, tru_t, Option.map_some, Option.map_none, List.map_cons, List.map_nil, List.length_cons, List.length_nil, List.set_cons_zero, List.set_cons_succ, List.cons_append, List.nil_append, List.replicate, Nat.reduceAdd, Nat.reduceSub, Nat.reduceLeDiff, true_and, and_true, decide_eq_true_eq, reduceIte, Bool.false_eq_true, Bool.not_true, Bool.not_false, decide_true, decide_false]
  rw [s_seq]
  try simp -dsimp only [at0, at1, at2, at3, at4, at5, at6, wp_fn, s_nil, s_brk, s_cnt, s_expr, s_ret, s_retN, s_if, s_asn, s_par, s_asg, g_nm, g_nil, g_cons, g_tupT, g_subW, w_v0, w_vS, w_c, w_op, w_un, w_anil, w_acons, w_tup, w_lst, w_call, w_callU, w_isi, w_meth, w_tru, w_bool, w_notS, w_andS, w_orS, w_ifx, w_andV, w_orV, w_notV, w_chain, wp_ok, wp_bad, wp_some, wp_none, wp_liftif, wp_if, asB_b, wp_noex, add_ii, sub_ii, mul_ii, fdiv_ii, mod_ii, pow_ii, neg_i, cmp_ii, lt_ii, le_ii, gt_ii, ge_ii, le_cc, muls_ii, muls_si, ins_cs, iadd_ii, isub_ii, w_onone, w_osome, w_sl, sl_s, sl_t, s_aug, eq_ss, len_s, ix_s, add_ss, str_s, tuple_t, list_t, is_n, not_n, non_n, non_i, non_b, non_s, non_t, non_r, abs_i, max_ii, min_ii, int_i, int_b, gcd_ii, len_t, ix_t, eq_v, ne_v, eq_ii, eq_bb, eq_nn, eq_in, eq_ni, iv_n_list, iv_n_tuple, iv_n_bool, iv_n_str, iv_n_int, okt_n, iv_b_list, iv_b_tuple, iv_b_bool, iv_b_str, iv_b_int, okt_b, iv_i_list, iv_i_tuple, iv_i_bool, iv_i_str, iv_i_int, okt_i, iv_s_list, iv_s_tuple, iv_s_bool, iv_s_str, iv_s_int, okt_s, iv_t_list, iv_t_tuple, iv_t_bool, iv_t_str, iv_t_int, okt_t, iv_r_list, iv_r_tuple, iv_r_bool, iv_r_str, iv_r_int, tru_b, tru_i, tru_n, tru_t, Option.map_some, Option.map_none, List.map_cons, List.map_nil, List.length_cons, List.length_nil, List.set_cons_zero, List.set_cons_succ, List.cons_append, List.nil_append, List.replicate, Nat.reduceAdd, Nat.reduceSub, Nat.reduceLeDiff, true_and, and_true, decide_eq_true_eq, reduceIte, Bool.false_eq_true, Bool.not_true, Bool.not_false, decide_true, decide_false]
  refine (minus_ok (p := p) (q := q) (r := s) (s := 1) hq (by decide) (by omega) (by decide)).mono ?_
  rintro _ m ⟨rfl, rfl⟩
  obtain ⟨a, b, e1, e2, e3, e4, e5⟩ := lowv_red (p := p * 1 - s * q) (q := q * 1) (by omega)
  have ep := e2.pos
  rw [e1]
  try simp -dsimp only [at0, at1, at2, at3, at4, at5, at6, wp_fn, s_nil, s_brk, s_cnt, s_expr, s_ret, s_retN, s_if, s_asn, s_par, s_asg, g_nm, g_nil, g_cons, g_tupT, g_subW, w_v0, w_vS, w_c, w_op, w_un, w_anil, w_acons, w_tup, w_lst, w_call, w_callU, w_isi, w_meth, w_tru, w_bool, w_notS, w_andS, w_orS, w_ifx, w_andV, w_orV, w_notV, w_chain, wp_ok, wp_bad, wp_some, wp_none, wp_liftif, wp_if, asB_b, wp_noex, add_ii, sub_ii, mul_ii, fdiv_ii, mod_ii, pow_ii, neg_i, cmp_ii, lt_ii, le_ii, gt_ii, ge_ii, le_cc, muls_ii, muls_si, ins_cs, iadd_ii, isub_ii, w_onone, w_osome, w_sl, sl_s, sl_t, s_aug, eq_ss, len_s, ix_s, add_ss, str_s, tuple_t, list_t, is_n, not_n, non_n, non_i, non_b, non_s, non_t, non_r, abs_i, max_ii, min_ii, int_i, int_b, gcd_ii, len_t, ix_t, eq_v, ne_v, eq_ii, eq_bb, eq_nn, eq_in, eq_ni, iv_n_list, iv_n_tuple, iv_n_bool, iv_n_str, iv_n_int, okt_n, iv_b_list, iv_b_tuple, iv_b_bool, iv_b_str, iv_b_int, okt_b, iv_i_list, iv_i_tuple, iv_i_bool, iv_i_str, iv_i_int, okt_i, iv_s_list, iv_s_tuple, iv_s_bool, iv_s_str, iv_s_int, okt_s, iv_t_list, iv_t_tuple, iv_t_bool, iv_t_str, iv_t_int, okt_t, iv_r_list, iv_r_tuple, iv_r_bool, iv_r_str, iv_r_int, tru_b, tru_i, tru_n, tru_t, Option.map_some, Option.map_none, List.map_cons, List.map_nil, List.length_cons, List.length_nil, List.set_cons_zero, List.set_cons_succ, List.cons_append, List.nil_append, List.replicate, Nat.reduceAdd, Nat.reduceSub, Nat.reduceLeDiff, true_and, and_true, decide_eq_true_eq, reduceIte, Bool.false_eq_true, Bool.not_true, Bool.not_false, decide_true, decide_false]
  refine (hd _).mono ?_
  rintro _ m ⟨rfl, rfl⟩
  obtain ⟨c, d, z1, z2, z3, z4, z5⟩ := lowv_red (p := Gn D W p q * 1 - Gn D W s 1 * q) (q := 1 * q) (by omega)
  have zp := z2.pos
  unfold dkv
  rw [z1]
  try simp -dsimp only [at0, at1, at2, at3, at4, at5, at6, wp_fn, s_nil, s_brk, s_cnt, s_expr, s_ret, s_retN, s_if, s_asn, s_par, s_asg, g_nm, g_nil, g_cons, g_tupT, g_subW, w_v0, w_vS, w_c, w_op, w_un, w_anil, w_acons, w_tup, w_lst, w_call, w_callU, w_isi, w_meth, w_tru, w_bool, w_notS, w_andS, w_orS, w_ifx, w_andV, w_orV, w_notV, w_chain, wp_ok, wp_bad, wp_some, wp_none, wp_liftif, wp_if, asB_b, wp_noex, add_ii, sub_ii, mul_ii, fdiv_ii, mod_ii, pow_ii, neg_i, cmp_ii, lt_ii, le_ii, gt_ii, ge_ii, le_cc, muls_ii, muls_si, ins_cs, iadd_ii, isub_ii, w_onone, w_osome, w_sl, sl_s, sl_t, s_aug, eq_ss, len_s, ix_s, add_ss, str_s, tuple_t, list_t, is_n, not_n, non_n, non_i, non_b, non_s, non_t, non_r, abs_i, max_ii, min_ii, int_i, int_b, gcd_ii, len_t, ix_t, eq_v, ne_v, eq_ii, eq_bb, eq_nn, eq_in, eq_ni, iv_n_list, iv_n_tuple, iv_n_bool, iv_n_str, iv_n_int, okt_n, iv_b_list, iv_b_tuple, iv_b_bool, iv_b_str, iv_b_int, okt_b, iv_i_list, iv_i_tuple, iv_i_bool, iv_i_str, iv_i_int, okt_i, iv_s_list, iv_s_tuple, iv_s_bool, iv_s_str, iv_s_int, okt_s, iv_t_list, iv_t_tuple, iv_t_bool, iv_t_str, iv_t_int, okt_t, iv_r_list, iv_r_tuple, iv_r_bool, iv_r_str, iv_r_int, tru_b, tru_i, tru_n, tru_t, Option.map_some, Option.map_none, List.map_cons, List.map_nil, List.length_cons, List.length_nil, List.set_cons_zero, List.set_cons_succ, List.cons_append, List.nil_append, List.replicate, Nat.reduceAdd, Nat.reduceSub, Nat.reduceLeDiff, true_and, and_true, decide_eq_true_eq, reduceIte, Bool.false_eq_true, Bool.not_true, Bool.not_false, decide_true, decide_false]
  refine (minus_ok (p := a) (q := b) (r := c) (s := d) ep zp (by omega) (by omega)).mono ?_
  rintro _ m ⟨rfl, rfl⟩
  unfold flv
  refine ⟨lowv_congr (Int.mul_pos ep zp) hq ?_, rfl⟩
  unfold Nf
  rw [Int.mul_one] at e3 z3
  rw [Int.mul_one] at e3
  rw [Int.one_mul] at z3
  have : (a * d - c * b) * q = (a * q) * d - (c * q) * b := by grind
  rw [this, e3, z3]
  grind
theorem plus_ok {p q r s : Int} {m : MH} (hq : 0 < q) (hs : 0 < s) (hq2 : q.natAbs < 18446744073709551616) (hs2 : s.natAbs < 18446744073709551616) :
    WP (f_plus [fpv p q, fpv r s] m) (fun x m' => x = lowv (p * s + r * q) (q * s) ∧ m' = m) NoE := by
  have b1 := mulb hq2 hs2
  have b2 := Int.mul_pos hq hs
  unfold f_plus b_plus fpv
  walk_at "w1"
  walk_at "sq"
  walk_at "sq"
  rw [if_pos (.inl (.inr (by omega))), if_pos (.inl (.inr (by omega))), if_pos (.inl (.inl (by omega)))]
  exact lowest_ok (by omega) (by omega)
theorem isless_ok {p q r s : Int} {m : MH} (hq2 : q.natAbs < 18446744073709551616) (hs2 : s.natAbs < 18446744073709551616) :
    WP (f_is_less [fpv p q, fpv r s] m) (fun x m' => x = .bl (decide (p * s < r * q)) ∧ m' = m) NoE := by
  unfold f_is_less b_is_less fpv
  walk_at "w1"
  walk_at "sq"
  walk_at "sq"
  rw [if_pos (.inl (.inr (by omega))), if_pos (.inl (.inr (by omega)))]
  walk_at "w1"
theorem times_ok {p q r s : Int} {m : MH} (hq : 0 < q) (hs : 0 < s) (hq2 : q.natAbs < 18446744073709551616) (hs2 : s.natAbs < 18446744073709551616) (hp : p.natAbs < 18446744073709551616) :
    WP (f_times [fpv p q, fpv r s] m) (fun x m' => x = lowv (p * r) (q * s) ∧ m' = m) NoE := by
  have b1 := mulb hq2 hs2
  have b2 := Int.mul_pos hq hs
  unfold f_times b_times fpv
  walk_at "w1"
  walk_at "sq"
  walk_at "sq"
  rw [if_pos (.inl (.inl (by omega))), if_pos (.inl (.inl (by omega)))]
  exact lowest_ok (by omega) (by omega)
theorem over_ok {p q r s : Int} {m : MH} (hq : 0 < q) (hr : 0 < r) (hq2 : q.natAbs < 18446744073709551616) (hs2 : s.natAbs < 18446744073709551616) (hr2 : r.natAbs < 18446744073709551616) :
    WP (f_over [fpv p q, fpv r s] m) (fun x m' => x = lowv (p * s) (q * r) ∧ m' = m) NoE := by
  have b1 := mulb hq2 hr2
  have b2 := Int.mul_pos hq hr
  unfold f_over b_over fpv
  walk_at "w1"
  walk_at "sq"
  walk_at "sq"
  rw [if_pos (.inl (.inr (by omega))), if_pos (.inl (.inl (by omega)))]
  exact lowest_ok (by omega) (by omega)
theorem sqd_ok {m : MH} {L : List Loft} {B : List Bird} {R : List Race} {i j : Nat} {r : Race} {l : Loft} (hr : R[i]? = some r) (hl : L[j]? = some l) (ro : RaceOk L r) (lo : LoftOk l) :
    WP (f_square_distance [clubPV L B R, .int (i : Nat), .int (j : Nat)] m) (fun x m' => x = .int ((r.x - l.x) * (r.x - l.x) + (r.y - l.y) * (r.y - l.y)) ∧ m' = m) NoE := by
  have o1 := ro.x; have o2 := ro.y; have o3 := lo.x; have o4 := lo.y
  unfold f_square_distance b_square_distance clubPV
  walk_at "w1"
  walk_at "sq"
  rw [s_seq]
  try simp -dsimp only [at_map hr, at_map hl, Race.pv, Loft.pv, at1, at2, at0, at1, at2, at3, at4, at5, at6, wp_fn, s_nil, s_brk, s_cnt, s_expr, s_ret, s_retN, s_if, s_asn, s_par, s_asg, g_nm, g_nil, g_cons, g_tupT, g_subW, w_v0, w_vS, w_c, w_op, w_un, w_anil, w_acons, w_tup, w_lst, w_call, w_callU, w_isi, w_meth, w_tru, w_bool, w_notS, w_andS, w_orS, w_ifx, w_andV, w_orV, w_notV, w_chain, wp_ok, wp_bad, wp_some, wp_none, wp_liftif, wp_if, asB_b, wp_noex, add_ii, sub_ii, mul_ii, fdiv_ii, mod_ii, pow_ii, neg_i, cmp_ii, lt_ii, le_ii, gt_ii, ge_ii, le_cc, muls_ii, muls_si, ins_cs, iadd_ii, isub_ii, w_onone, w_osome, w_sl, sl_s, sl_t, s_aug, eq_ss, len_s, ix_s, add_ss, str_s, tuple_t, list_t, is_n, not_n, non_n, non_i, non_b, non_s, non_t, non_r, abs_i, max_ii, min_ii, int_i, int_b, gcd_ii, len_t, ix_t, eq_v, ne_v, eq_ii, eq_bb, eq_nn, eq_in, eq_ni, iv_n_list, iv_n_tuple, iv_n_bool, iv_n_str, iv_n_int, okt_n, iv_b_list, iv_b_tuple, iv_b_bool, iv_b_str, iv_b_int, okt_b, iv_i_list, iv_i_tuple, iv_i_bool, iv_i_str, iv_i_int, okt_i, iv_s_list, iv_s_tuple, iv_s_bool, iv_s_str, iv_s_int, okt_s, iv_t_list, iv_t_tuple, iv_t_bool, iv_t_str, iv_t_int, okt_t, iv_r_list, iv_r_tuple, iv_r_bool, iv_r_str, iv_r_int, tru_b, tru_i, tru_n, tru_t, Option.map_some, Option.map_none, List.map_cons, List.map_nil, List.length_cons, List.length_nil, List.set_cons_zero, List.set_cons_succ, List.cons_append, List.nil_append, List.replicate, Nat.reduceAdd, Nat.reduceSub, Nat.reduceLeDiff, true_and, and_true, decide_eq_true_eq, reduceIte, Bool.false_eq_true, Bool.not_true, Bool.not_false, decide_true, decide_false]
  rw [s_seq]
  try simp -dsimp only [at_map hr, at_map hl, Race.pv, Loft.pv, at1, at2, at0, at1, at2, at3, at4, at5, at6, wp_fn, s_nil, s_brk, s_cnt, s_expr, s_ret, s_retN, s_if, s_asn, s_par, s_asg, g_nm, g_nil, g_cons, g_tupT, g_subW, w_v0, w_vS, w_c, w_op, w_un, w_anil, w_acons, w_tup, w_lst, w_call, w_callU, w_isi, w_meth, w_tru, w_bool, w_notS, w_andS, w_orS, w_ifx, w_andV, w_orV, w_notV, w_chain, wp_ok, wp_bad, wp_some, wp_none, wp_liftif, wp_if, asB_b, wp_noex, add_ii, sub_ii, mul_ii, fdiv_ii, mod_ii, pow_ii, neg_i, cmp_ii, lt_ii, le_ii, gt_ii, ge_ii, le_cc, muls_ii, muls_si, ins_cs, iadd_ii, isub_ii, w_onone, w_osome, w_sl, sl_s, sl_t, s_aug, eq_ss, len_s, ix_s, add_ss, str_s, tuple_t, list_t, is_n, not_n, non_n, non_i, non_b, non_s, non_t, non_r, abs_i, max_ii, min_ii, int_i, int_b, gcd_ii, len_t, ix_t, eq_v, ne_v, eq_ii, eq_bb, eq_nn, eq_in, eq_ni, iv_n_list, iv_n_tuple, iv_n_bool, iv_n_str, iv_n_int, okt_n, iv_b_list, iv_b_tuple, iv_b_bool, iv_b_str, iv_b_int, okt_b, iv_i_list, iv_i_tuple, iv_i_bool, iv_i_str, iv_i_int, okt_i, iv_s_list, iv_s_tuple, iv_s_bool, iv_s_str, iv_s_int, okt_s, iv_t_list, iv_t_tuple, iv_t_bool, iv_t_str, iv_t_int, okt_t, iv_r_list, iv_r_tuple, iv_r_bool, iv_r_str, iv_r_int, tru_b, tru_i, tru_n, tru_t, Option.map_some, Option.map_none, List.map_cons, List.map_nil, List.length_cons, List.length_nil, List.set_cons_zero, List.set_cons_succ, List.cons_append, List.nil_append, List.replicate, Nat.reduceAdd, Nat.reduceSub, Nat.reduceLeDiff, true_and, and_true, decide_eq_true_eq, reduceIte, Bool.false_eq_true, Bool.not_true, Bool.not_false, decide_true, decide_false]
  rw [if_pos (.inl (.inl (by omega))), if_pos (.inl (.inl (by omega)))]
  walk_at "w1"
/-- what a clock shows, as a true time -/
def ttv (b e s r : Int) : PV := if b ≤ r ∧ r ≤ s then lowv (b * (s - b) + (r - b) * (e - b)) (s - b) else .non
theorem ttv_in {b e s r : Int} (h1 : b ≤ r) (h2 : r ≤ s) : ttv b e s r = lowv (b * (s - b) + (r - b) * (e - b)) (s - b) := by unfold ttv; rw [if_pos ⟨h1, h2⟩]
theorem ttv_out {b e s r : Int} (h : ¬ (b ≤ r ∧ r ≤ s)) : ttv b e s r = .non := by unfold ttv; rw [if_neg h]
def clkPV (i j b e s : Int) : PV := .tup [.int i, .int j, .int b, .int e, .int s]
theorem tt_ok {m : MH} {i j b e s r : Int} (hb : 0 ≤ b) (he : b < e) (he2 : e ≤ 9999) (hs : b < s) (hs2 : s ≤ 9999) :
    WP (f_true_time [clkPV i j b e s, .int r] m) (fun x m' => x = ttv b e s r ∧ m' = m) NoE := by
  unfold f_true_time b_true_time clkPV
  walk_at "w1"
  walk_at "sq"
  rw [s_seq]
  walk_at "w1"
  by_cases h1 : b ≤ r
  · rw [if_pos h1]
    by_cases h2 : r ≤ s
    · rw [show (!decide (r ≤ s)) = false by simp [h2]]
      rw [if_neg (by decide), if_pos (.inl (.inl (by omega)))]
      walk_at "w1"
      refine (lowest_ok (by omega) (by omega)).mono ?_
      rintro _ _ ⟨rfl, rfl⟩
      obtain ⟨a, d, e1, e2, e3, e4, e5⟩ := lowv_red (p := (r - b) * (e - b)) (q := s - b) (by omega)
      have e6 := e2.pos
      rw [e1]
      walk_at "w1"
      refine (plus_ok (p := b) (q := 1) (by decide) e6 (by decide) (by omega)).mono ?_
      rintro _ _ ⟨rfl, rfl⟩
      rw [ttv_in h1 h2]
      refine ⟨lowv_congr (by omega) (by omega) (by grind), rfl⟩
    · rw [show (!decide (r ≤ s)) = true by simp [h2]]
      rw [if_pos rfl, ttv_out (by omega)]
  · rw [if_neg h1, ttv_out (by omega)]
/-! ## speeds -/
def spv (sq s c D W p q : Int) : PV := if p < s * q ∨ c * q < p then .non else if Nf D W s p q ≤ 0 then .non else lowv (sq * q * q) (Nf D W s p q * Nf D W s p q)
theorem lt_same {a d P Q s : Int} (hd : 0 < d) (hQ : 0 < Q) (e : a * Q = P * d) : (a < s * d ↔ P < s * Q) ∧ (s * d < a ↔ s * Q < P) := by
  have e1 : s * d * Q = s * Q * d := by grind
  constructor
  · constructor
    · intro h
      have := Int.mul_lt_mul_of_pos_right h hQ
      rw [e, e1] at this
      exact Int.lt_of_mul_lt_mul_right this (by omega)
    · intro h
      have := Int.mul_lt_mul_of_pos_right h hd
      rw [← e, ← e1] at this
      exact Int.lt_of_mul_lt_mul_right this (by omega)
  · constructor
    · intro h
      have := Int.mul_lt_mul_of_pos_right h hQ
      rw [e, e1] at this
      exact Int.lt_of_mul_lt_mul_right this (by omega)
    · intro h
      have := Int.mul_lt_mul_of_pos_right h hd
      rw [← e, ← e1] at this
      exact Int.lt_of_mul_lt_mul_right this (by omega)
theorem sgn_same {N n q Q : Int} (hq : 0 < q) (hQ : 0 < Q) (e : n * Q = N * q) : n ≤ 0 ↔ N ≤ 0 := by
  constructor
  · intro h
    refine Int.le_of_mul_le_mul_right (a := q) ?_ hq
    rw [← e, Int.zero_mul]
    exact Int.mul_nonpos_of_nonpos_of_nonneg h (by omega)
  · intro h
    refine Int.le_of_mul_le_mul_right (a := Q) ?_ hQ
    rw [e, Int.zero_mul]
    exact Int.mul_nonpos_of_nonpos_of_nonneg h (by omega)
theorem spv_same {sq s c D W a d P Q : Int} (hd : 0 < d) (hQ : 0 < Q) (e : a * Q = P * d) : spv sq s c D W a d = spv sq s c D W P Q := by
  have h1 := lt_same (s := s) hd hQ e
  have h2 := lt_same (s := c) hd hQ e
  have hn := Nf_same (D := D) (W := W) (s := s) hd hQ e
  have h3 := sgn_same hd hQ hn
  unfold spv
  by_cases c1 : P < s * Q ∨ c * Q < P
  · rw [if_pos c1, if_pos (by rw [h1.1, h2.2]; exact c1)]
  · rw [if_neg c1, if_neg (by rw [h1.1, h2.2]; exact c1)]
    by_cases c2 : Nf D W s P Q ≤ 0
    · rw [if_pos c2, if_pos (h3.mpr c2)]
    · rw [if_neg c2, if_neg (fun z => c2 (h3.mp z))]
      have n1 : 0 < Nf D W s a d := by have := fun z => c2 (h3.mp z); omega
      have n2 : 0 < Nf D W s P Q := by omega
      refine lowv_congr (Int.mul_pos n1 n1) (Int.mul_pos n2 n2) ?_
      generalize Nf D W s a d = n at *
      generalize Nf D W s P Q = N at *
      have e1 : sq * d * d * (N * N) = sq * (N * d) * (N * d) := by grind
      have e2 : sq * Q * Q * (n * n) = sq * (n * Q) * (n * Q) := by grind
      rw [e1, e2, hn]
def sqd (l : Loft) (r : Race) : Int := (r.x - l.x) * (r.x - l.x) + (r.y - l.y) * (r.y - l.y)
def spd (l : Loft) (rc : Race) (b e sh r : Int) : PV := if b ≤ r ∧ r ≤ sh then spv (sqd l rc) rc.start rc.close rc.dusk rc.dawn (b * (sh - b) + (r - b) * (e - b)) (sh - b) else .non
theorem sqd_bd {l : Loft} {L : List Loft} {r : Race} (ro : RaceOk L r) (lo : LoftOk l) : 0 ≤ sqd l r ∧ sqd l r ≤ 799840008 := by
  have o1 := ro.x; have o2 := ro.y; have o3 := lo.x; have o4 := lo.y
  unfold sqd
  have sq1 : ∀ z : Int, -19998 ≤ z → z ≤ 19998 → 0 ≤ z * z ∧ z * z ≤ 19998 * 19998 := by
    intro z h1 h2
    rcases Int.le_total 0 z with h | h
    · exact ⟨Int.mul_nonneg h h, Int.mul_le_mul h2 h2 h (by decide)⟩
    · have e : z * z = (-z) * (-z) := by rw [Int.neg_mul_neg]
      rw [e]
      exact ⟨Int.mul_nonneg (by omega) (by omega), Int.mul_le_mul (by omega) (by omega) (by omega) (by decide)⟩
  have a1 := sq1 (r.x - l.x) (by omega) (by omega)
  have a2 := sq1 (r.y - l.y) (by omega) (by omega)
  omega
/-- f/g = N/q, the flight, and its square -/
theorem sq_fact {f g N q : Int} (h0 : 0 < N) (hq : 0 < q) (hg : 0 < g) (e : f * q = N * g) : 0 < f := by
  have : 0 < f * q := by rw [e]; exact Int.mul_pos h0 hg
  exact Int.pos_of_mul_pos_left this hq
theorem race_ix {L : List Loft} {B : List Bird} {R : List Race} : clubPV L B R = .tup [.tup (L.map Loft.pv), .tup (B.map Bird.pv), .tup (R.map Race.pv)] := rfl
theorem spat_ok {m : MH} {L : List Loft} {B : List Bird} {R : List Race} {i j : Nat} {r : Race} {l : Loft} {p q : Int} (hr : R[i]? = some r) (hl : L[j]? = some l) (ro : RaceOk L r) (lo : LoftOk l) (hq : 0 < q) (hq2 : q ≤ 9999) (hp : 0 ≤ p) (hp2 : p ≤ 9999 * q) :
    WP (f_speed_at [clubPV L B R, .int (i : Nat), .int (j : Nat), fpv p q] m) (fun x m' => x = spv (sqd l r) r.start r.close r.dusk r.dawn p q ∧ m' = m) NoE := by
  have hD : 0 ≤ r.dusk ∧ r.dusk ≤ 1439 := by have := ro.dusk; omega
  have hW : 0 ≤ r.dawn ∧ r.dawn ≤ 1439 := by have := ro.dawn; omega
  have hfl := fun (m : MH) => flight_ok (s := r.start) (p := p) (q := q) (m := m) (x1 := .str r.name) (x2 := .int r.x) (x3 := .int r.y) (x5 := .int r.close) hq (by omega) hD hW
  have hsq := fun m => sqd_ok (m := m) (B := B) hr hl ro lo
  have hsb := sqd_bd ro lo
  have il1 := fun m => isless_ok (p := p) (q := q) (r := r.start) (s := 1) (m := m) (by omega) (by decide)
  have il2 := fun m => isless_ok (p := r.close) (q := 1) (r := p) (s := q) (m := m) (by decide) (by omega)
  unfold f_speed_at b_speed_at
  unfold clubPV fpv at *
  try simp -dsimp only [at0, at1, at2, at3, at4, at5, at6, wp_fn, s_nil, s_brk, s_cnt, s_expr, s_ret, s_retN, s_if, s_asn, s_par, s_asg, g_nm, g_nil, g_cons, g_tupT, g_subW, w_v0, w_vS, w_c, w_op, w_un, w_anil, w_acons, w_tup, w_lst, w_call, w_callU, w_isi, w_meth, w_tru, w_bool, w_notS, w_andS, w_orS, w_ifx, w_andV, w_orV, w_notV, w_chain, wp_ok, wp_bad, wp_some, wp_none, wp_liftif, wp_if, asB_b, wp_noex, add_ii, sub_ii, mul_ii, fdiv_ii, mod_ii, pow_ii, neg_i, cmp_ii, lt_ii, le_ii, gt_ii, ge_ii, le_cc, muls_ii, muls_si, ins_cs, iadd_ii, isub_ii, w_onone, w_osome, w_sl, sl_s, sl_t, s_aug, eq_ss, len_s, ix_s, add_ss, str_s, tuple_t, list_t, is_n, not_n, non_n, non_i, non_b, non_s, non_t, non_r, abs_i, max_ii, min_ii, int_i, int_b, gcd_ii, len_t, ix_t, eq_v, ne_v, eq_ii, eq_bb, eq_nn, eq_in, eq_ni, iv_n_list, iv_n_tuple, iv_n_bool, iv_n_str, iv_n_int, okt_n, iv_b_list, iv_b_tuple, iv_b_bool, iv_b_str, iv_b_int, okt_b, iv_i_list, iv_i_tuple, iv_i_bool, iv_i_str, iv_i_int, okt_i, iv_s_list, iv_s_tuple, iv_s_bool, iv_s_str, iv_s_int, okt_s, iv_t_list, iv_t_tuple, iv_t_bool, iv_t_str, iv_t_int, okt_t, iv_r_list, iv_r_tuple, iv_r_bool, iv_r_str, iv_r_int, tru_b, tru_i, tru_n, tru_t, Option.map_some, Option.map_none, List.map_cons, List.map_nil, List.length_cons, List.length_nil, List.set_cons_zero, List.set_cons_succ, List.cons_append, List.nil_append, List.replicate, Nat.reduceAdd, Nat.reduceSub, Nat.reduceLeDiff, true_and, and_true, decide_eq_true_eq, reduceIte, Bool.false_eq_true, Bool.not_true, Bool.not_false, decide_true, decide_false]
  rw [s_seq]
  try simp -dsimp only [at_map hr, Race.pv, at0, at1, at2, at3, at4, at5, at6, wp_fn, s_nil, s_brk, s_cnt, s_expr, s_ret, s_retN, s_if, s_asn, s_par, s_asg, g_nm, g_nil, g_cons, g_tupT, g_subW, w_v0, w_vS, w_c, w_op, w_un, w_anil, w_acons, w_tup, w_lst, w_call, w_callU, w_isi, w_meth, w_tru, w_bool, w_notS, w_andS, w_orS, w_ifx, w_andV, w_orV, w_notV, w_chain, wp_ok, wp_bad, wp_some, wp_none, wp_liftif, wp_if, asB_b, wp_noex, add_ii, sub_ii, mul_ii, fdiv_ii, mod_ii, pow_ii, neg_i, cmp_ii, lt_ii, le_ii, gt_ii, ge_ii, le_cc, muls_ii, muls_si, ins_cs, iadd_ii, isub_ii, w_onone, w_osome, w_sl, sl_s, sl_t, s_aug, eq_ss, len_s, ix_s, add_ss, str_s, tuple_t, list_t, is_n, not_n, non_n, non_i, non_b, non_s, non_t, non_r, abs_i, max_ii, min_ii, int_i, int_b, gcd_ii, len_t, ix_t, eq_v, ne_v, eq_ii, eq_bb, eq_nn, eq_in, eq_ni, iv_n_list, iv_n_tuple, iv_n_bool, iv_n_str, iv_n_int, okt_n, iv_b_list, iv_b_tuple, iv_b_bool, iv_b_str, iv_b_int, okt_b, iv_i_list, iv_i_tuple, iv_i_bool, iv_i_str, iv_i_int, okt_i, iv_s_list, iv_s_tuple, iv_s_bool, iv_s_str, iv_s_int, okt_s, iv_t_list, iv_t_tuple, iv_t_bool, iv_t_str, iv_t_int, okt_t, iv_r_list, iv_r_tuple, iv_r_bool, iv_r_str, iv_r_int, tru_b, tru_i, tru_n, tru_t, Option.map_some, Option.map_none, List.map_cons, List.map_nil, List.length_cons, List.length_nil, List.set_cons_zero, List.set_cons_succ, List.cons_append, List.nil_append, List.replicate, Nat.reduceAdd, Nat.reduceSub, Nat.reduceLeDiff, true_and, and_true, decide_eq_true_eq, reduceIte, Bool.false_eq_true, Bool.not_true, Bool.not_false, decide_true, decide_false]
  refine s_cut (mid := fun l' m' => l' = [some (.tup [.tup (L.map Loft.pv), .tup (B.map Bird.pv), .tup (R.map Race.pv)]), some (.int (i : Nat)), some (.int (j : Nat)), some (.tup [.int p, .int q]), some (.tup [.str r.name, .int r.x, .int r.y, .int r.start, .int r.close, .int r.dusk, .int r.dawn]), none] ∧ m' = m ∧ ¬ (p < r.start * q ∨ r.close * q < p)) ?_ ?_
  · try simp -dsimp only [at0, at1, at2, at3, at4, at5, at6, wp_fn, s_nil, s_brk, s_cnt, s_expr, s_ret, s_retN, s_if, s_asn, s_par, s_asg, g_nm, g_nil, g_cons, g_tupT, g_subW, w_v0, w_vS, w_c, w_op, w_un, w_anil, w_acons, w_tup, w_lst, w_call, w_callU, w_isi, w_meth, w_tru, w_bool, w_notS, w_andS, w_orS, w_ifx, w_andV, w_orV, w_notV, w_chain, wp_ok, wp_bad, wp_some, wp_none, wp_liftif, wp_if, asB_b, wp_noex, add_ii, sub_ii, mul_ii, fdiv_ii, mod_ii, pow_ii, neg_i, cmp_ii, lt_ii, le_ii, gt_ii, ge_ii, le_cc, muls_ii, muls_si, ins_cs, iadd_ii, isub_ii, w_onone, w_osome, w_sl, sl_s, sl_t, s_aug, eq_ss, len_s, ix_s, add_ss, str_s, tuple_t, list_t, is_n, not_n, non_n, non_i, non_b, non_s, non_t, non_r, abs_i, max_ii, min_ii, int_i, int_b, gcd_ii, len_t, ix_t, eq_v, ne_v, eq_ii, eq_bb, eq_nn, eq_in, eq_ni, iv_n_list, iv_n_tuple, iv_n_bool, iv_n_str, iv_n_int, okt_n, iv_b_list, iv_b_tuple, iv_b_bool, iv_b_str, iv_b_int, okt_b, iv_i_list, iv_i_tuple, iv_i_bool, iv_i_str, iv_i_int, okt_i, iv_s_list, iv_s_tuple, iv_s_bool, iv_s_str, iv_s_int, okt_s, iv_t_list, iv_t_tuple, iv_t_bool, iv_t_str, iv_t_int, okt_t, iv_r_list, iv_r_tuple, iv_r_bool, iv_r_str, iv_r_int, tru_b, tru_i, tru_n, tru_t, Option.map_some, Option.map_none, List.map_cons, List.map_nil, List.length_cons, List.length_nil, List.set_cons_zero, List.set_cons_succ, List.cons_append, List.nil_append, List.replicate, Nat.reduceAdd, Nat.reduceSub, Nat.reduceLeDiff, true_and, and_true, decide_eq_true_eq, reduceIte, Bool.false_eq_true, Bool.not_true, Bool.not_false, decide_true, decide_false]
    refine (il1 _).mono ?_
    rintro _ m ⟨rfl, rfl⟩
    by_cases c1 : p * 1 < r.start * q
    · rw [decide_eq_true c1]
      try simp -dsimp only [at0, at1, at2, at3, at4, at5, at6, wp_fn, s_nil, s_brk, s_cnt, s_expr, s_ret, s_retN, s_if, s_asn, s_par, s_asg, g_nm, g_nil, g_cons, g_tupT, g_subW, w_v0, w_vS, w_c, w_op, w_un, w_anil, w_acons, w_tup, w_lst, w_call, w_callU, w_isi, w_meth, w_tru, w_bool, w_notS, w_andS, w_orS, w_ifx, w_andV, w_orV, w_notV, w_chain, wp_ok, wp_bad, wp_some, wp_none, wp_liftif, wp_if, asB_b, wp_noex, add_ii, sub_ii, mul_ii, fdiv_ii, mod_ii, pow_ii, neg_i, cmp_ii, lt_ii, le_ii, gt_ii, ge_ii, le_cc, muls_ii, muls_si, ins_cs, iadd_ii, isub_ii, w_onone, w_osome, w_sl, sl_s, sl_t, s_aug, eq_ss, len_s, ix_s, add_ss, str_s, tuple_t, list_t, is_n, not_n, non_n, non_i, non_b, non_s, non_t, non_r, abs_i, max_ii, min_ii, int_i, int_b, gcd_ii, len_t, ix_t, eq_v, ne_v, eq_ii, eq_bb, eq_nn, eq_in, eq_ni, iv_n_list, iv_n_tuple, iv_n_bool, iv_n_str, iv_n_int, okt_n, iv_b_list, iv_b_tuple, iv_b_bool, iv_b_str, iv_b_int, okt_b, iv_i_list, iv_i_tuple, iv_i_bool, iv_i_str, iv_i_int, okt_i, iv_s_list, iv_s_tuple, iv_s_bool, iv_s_str, iv_s_int, okt_s, iv_t_list, iv_t_tuple, iv_t_bool, iv_t_str, iv_t_int, okt_t, iv_r_list, iv_r_tuple, iv_r_bool, iv_r_str, iv_r_int, tru_b, tru_i, tru_n, tru_t, Option.map_some, Option.map_none, List.map_cons, List.map_nil, List.length_cons, List.length_nil, List.set_cons_zero, List.set_cons_succ, List.cons_append, List.nil_append, List.replicate, Nat.reduceAdd, Nat.reduceSub, Nat.reduceLeDiff, true_and, and_true, decide_eq_true_eq, reduceIte, Bool.false_eq_true, Bool.not_true, Bool.not_false, decide_true, decide_false]
      unfold spv
      rw [if_pos (.inl (by omega))]
    · rw [decide_eq_false c1]
      try simp -dsimp only [at0, at1, at2, at3, at4, at5, at6, wp_fn, s_nil, s_brk, s_cnt, s_expr, s_ret, s_retN, s_if, s_asn, s_par, s_asg, g_nm, g_nil, g_cons, g_tupT, g_subW, w_v0, w_vS, w_c, w_op, w_un, w_anil, w_acons, w_tup, w_lst, w_call, w_callU, w_isi, w_meth, w_tru, w_bool, w_notS, w_andS, w_orS, w_ifx, w_andV, w_orV, w_notV, w_chain, wp_ok, wp_bad, wp_some, wp_none, wp_liftif, wp_if, asB_b, wp_noex, add_ii, sub_ii, mul_ii, fdiv_ii, mod_ii, pow_ii, neg_i, cmp_ii, lt_ii, le_ii, gt_ii, ge_ii, le_cc, muls_ii, muls_si, ins_cs, iadd_ii, isub_ii, w_onone, w_osome, w_sl, sl_s, sl_t, s_aug, eq_ss, len_s, ix_s, add_ss, str_s, tuple_t, list_t, is_n, not_n, non_n, non_i, non_b, non_s, non_t, non_r, abs_i, max_ii, min_ii, int_i, int_b, gcd_ii, len_t, ix_t, eq_v, ne_v, eq_ii, eq_bb, eq_nn, eq_in, eq_ni, iv_n_list, iv_n_tuple, iv_n_bool, iv_n_str, iv_n_int, okt_n, iv_b_list, iv_b_tuple, iv_b_bool, iv_b_str, iv_b_int, okt_b, iv_i_list, iv_i_tuple, iv_i_bool, iv_i_str, iv_i_int, okt_i, iv_s_list, iv_s_tuple, iv_s_bool, iv_s_str, iv_s_int, okt_s, iv_t_list, iv_t_tuple, iv_t_bool, iv_t_str, iv_t_int, okt_t, iv_r_list, iv_r_tuple, iv_r_bool, iv_r_str, iv_r_int, tru_b, tru_i, tru_n, tru_t, Option.map_some, Option.map_none, List.map_cons, List.map_nil, List.length_cons, List.length_nil, List.set_cons_zero, List.set_cons_succ, List.cons_append, List.nil_append, List.replicate, Nat.reduceAdd, Nat.reduceSub, Nat.reduceLeDiff, true_and, and_true, decide_eq_true_eq, reduceIte, Bool.false_eq_true, Bool.not_true, Bool.not_false, decide_true, decide_false]
      refine (il2 _).mono ?_
      rintro _ m ⟨rfl, rfl⟩
      by_cases c2 : r.close * q < p * 1
      · rw [decide_eq_true c2]
        try simp -dsimp only [at0, at1, at2, at3, at4, at5, at6, wp_fn, s_nil, s_brk, s_cnt, s_expr, s_ret, s_retN, s_if, s_asn, s_par, s_asg, g_nm, g_nil, g_cons, g_tupT, g_subW, w_v0, w_vS, w_c, w_op, w_un, w_anil, w_acons, w_tup, w_lst, w_call, w_callU, w_isi, w_meth, w_tru, w_bool, w_notS, w_andS, w_orS, w_ifx, w_andV, w_orV, w_notV, w_chain, wp_ok, wp_bad, wp_some, wp_none, wp_liftif, wp_if, asB_b, wp_noex, add_ii, sub_ii, mul_ii, fdiv_ii, mod_ii, pow_ii, neg_i, cmp_ii, lt_ii, le_ii, gt_ii, ge_ii, le_cc, muls_ii, muls_si, ins_cs, iadd_ii, isub_ii, w_onone, w_osome, w_sl, sl_s, sl_t, s_aug, eq_ss, len_s, ix_s, add_ss, str_s, tuple_t, list_t, is_n, not_n, non_n, non_i, non_b, non_s, non_t, non_r, abs_i, max_ii, min_ii, int_i, int_b, gcd_ii, len_t, ix_t, eq_v, ne_v, eq_ii, eq_bb, eq_nn, eq_in, eq_ni, iv_n_list, iv_n_tuple, iv_n_bool, iv_n_str, iv_n_int, okt_n, iv_b_list, iv_b_tuple, iv_b_bool, iv_b_str, iv_b_int, okt_b, iv_i_list, iv_i_tuple, iv_i_bool, iv_i_str, iv_i_int, okt_i, iv_s_list, iv_s_tuple, iv_s_bool, iv_s_str, iv_s_int, okt_s, iv_t_list, iv_t_tuple, iv_t_bool, iv_t_str, iv_t_int, okt_t, iv_r_list, iv_r_tuple, iv_r_bool, iv_r_str, iv_r_int, tru_b, tru_i, tru_n, tru_t, Option.map_some, Option.map_none, List.map_cons, List.map_nil, List.length_cons, List.length_nil, List.set_cons_zero, List.set_cons_succ, List.cons_append, List.nil_append, List.replicate, Nat.reduceAdd, Nat.reduceSub, Nat.reduceLeDiff, true_and, and_true, decide_eq_true_eq, reduceIte, Bool.false_eq_true, Bool.not_true, Bool.not_false, decide_true, decide_false]
        unfold spv
        rw [if_pos (.inr (by omega))]
      · rw [decide_eq_false c2]
        try simp -dsimp only [at0, at1, at2, at3, at4, at5, at6, wp_fn, s_nil, s_brk, s_cnt, s_expr, s_ret, s_retN, s_if, s_asn, s_par, s_asg, g_nm, g_nil, g_cons, g_tupT, g_subW, w_v0, w_vS, w_c, w_op, w_un, w_anil, w_acons, w_tup, w_lst, w_call, w_callU, w_isi, w_meth, w_tru, w_bool, w_notS, w_andS, w_orS, w_ifx, w_andV, w_orV, w_notV, w_chain, wp_ok, wp_bad, wp_some, wp_none, wp_liftif, wp_if, asB_b, wp_noex, add_ii, sub_ii, mul_ii, fdiv_ii, mod_ii, pow_ii, neg_i, cmp_ii, lt_ii, le_ii, gt_ii, ge_ii, le_cc, muls_ii, muls_si, ins_cs, iadd_ii, isub_ii, w_onone, w_osome, w_sl, sl_s, sl_t, s_aug, eq_ss, len_s, ix_s, add_ss, str_s, tuple_t, list_t, is_n, not_n, non_n, non_i, non_b, non_s, non_t, non_r, abs_i, max_ii, min_ii, int_i, int_b, gcd_ii, len_t, ix_t, eq_v, ne_v, eq_ii, eq_bb, eq_nn, eq_in, eq_ni, iv_n_list, iv_n_tuple, iv_n_bool, iv_n_str, iv_n_int, okt_n, iv_b_list, iv_b_tuple, iv_b_bool, iv_b_str, iv_b_int, okt_b, iv_i_list, iv_i_tuple, iv_i_bool, iv_i_str, iv_i_int, okt_i, iv_s_list, iv_s_tuple, iv_s_bool, iv_s_str, iv_s_int, okt_s, iv_t_list, iv_t_tuple, iv_t_bool, iv_t_str, iv_t_int, okt_t, iv_r_list, iv_r_tuple, iv_r_bool, iv_r_str, iv_r_int, tru_b, tru_i, tru_n, tru_t, Option.map_some, Option.map_none, List.map_cons, List.map_nil, List.length_cons, List.length_nil, List.set_cons_zero, List.set_cons_succ, List.cons_append, List.nil_append, List.replicate, Nat.reduceAdd, Nat.reduceSub, Nat.reduceLeDiff, true_and, and_true, decide_eq_true_eq, reduceIte, Bool.false_eq_true, Bool.not_true, Bool.not_false, decide_true, decide_false]
        omega
  rintro _ _ ⟨rfl, rfl, hc⟩
  have hv : spv (sqd l r) r.start r.close r.dusk r.dawn p q = if Nf r.dusk r.dawn r.start p q ≤ 0 then .non else lowv (sqd l r * q * q) (Nf r.dusk r.dawn r.start p q * Nf r.dusk r.dawn r.start p q) := by
    unfold spv; rw [if_neg hc]
  have hn := Nf_pos (D := r.dusk) (W := r.dawn) (s := r.start) hD hW hq (p := p) (by omega)
  have os := ro.start
  have hsq0 : 0 ≤ r.start * q := Int.mul_nonneg os.1 (by omega)
  rw [s_seq]
  try simp -dsimp only [at0, at1, at2, at3, at4, at5, at6, wp_fn, s_nil, s_brk, s_cnt, s_expr, s_ret, s_retN, s_if, s_asn, s_par, s_asg, g_nm, g_nil, g_cons, g_tupT, g_subW, w_v0, w_vS, w_c, w_op, w_un, w_anil, w_acons, w_tup, w_lst, w_call, w_callU, w_isi, w_meth, w_tru, w_bool, w_notS, w_andS, w_orS, w_ifx, w_andV, w_orV, w_notV, w_chain, wp_ok, wp_bad, wp_some, wp_none, wp_liftif, wp_if, asB_b, wp_noex, add_ii, sub_ii, mul_ii, fdiv_ii, mod_ii, pow_ii, neg_i, cmp_ii, lt_ii, le_ii, gt_ii, ge_ii, le_cc, muls_ii, muls_si, ins_cs, iadd_ii, isub_ii, w_onone, w_osome, w_sl, sl_s, sl_t, s_aug, eq_ss, len_s, ix_s, add_ss, str_s, tuple_t, list_t, is_n, not_n, non_n, non_i, non_b, non_s, non_t, non_r, abs_i, max_ii, min_ii, int_i, int_b, gcd_ii, len_t, ix_t, eq_v, ne_v, eq_ii, eq_bb, eq_nn, eq_in, eq_ni, iv_n_list, iv_n_tuple, iv_n_bool, iv_n_str, iv_n_int, okt_n, iv_b_list, iv_b_tuple, iv_b_bool, iv_b_str, iv_b_int, okt_b, iv_i_list, iv_i_tuple, iv_i_bool, iv_i_str, iv_i_int, okt_i, iv_s_list, iv_s_tuple, iv_s_bool, iv_s_str, iv_s_int, okt_s, iv_t_list, iv_t_tuple, iv_t_bool, iv_t_str, iv_t_int, okt_t, iv_r_list, iv_r_tuple, iv_r_bool, iv_r_str, iv_r_int, tru_b, tru_i, tru_n, tru_t, Option.map_some, Option.map_none, List.map_cons, List.map_nil, List.length_cons, List.length_nil, List.set_cons_zero, List.set_cons_succ, List.cons_append, List.nil_append, List.replicate, Nat.reduceAdd, Nat.reduceSub, Nat.reduceLeDiff, true_and, and_true, decide_eq_true_eq, reduceIte, Bool.false_eq_true, Bool.not_true, Bool.not_false, decide_true, decide_false]
  refine (hfl _).mono ?_
  rintro _ m ⟨rfl, rfl⟩
  obtain ⟨f, g, e1, e2, e3, e4, e5⟩ := lowv_red (p := Nf r.dusk r.dawn r.start p q) hq
  have gp := e2.pos
  have hN : Nf r.dusk r.dawn r.start p q ≤ 9999 * 9999 := by
    have : 9999 * q ≤ 9999 * 9999 := by omega
    omega
  unfold flv
  rw [e1, hv]
  generalize Nf r.dusk r.dawn r.start p q = N at *
  unfold fpv
  walk_at "w1"
  refine s_cut (mid := fun l' m' => l' = [some (.tup [.tup (L.map Loft.pv), .tup (B.map Bird.pv), .tup (R.map Race.pv)]), some (.int (i : Nat)), some (.int (j : Nat)), some (.tup [.int p, .int q]), some (.tup [.str r.name, .int r.x, .int r.y, .int r.start, .int r.close, .int r.dusk, .int r.dawn]), some (.tup [.int f, .int g])] ∧ m' = m ∧ 0 < N) ?_ ?_
  · try simp -dsimp only [at0, at1, at2, at3, at4, at5, at6, wp_fn, s_nil, s_brk, s_cnt, s_expr, s_ret, s_retN, s_if, s_asn, s_par, s_asg, g_nm, g_nil, g_cons, g_tupT, g_subW, w_v0, w_vS, w_c, w_op, w_un, w_anil, w_acons, w_tup, w_lst, w_call, w_callU, w_isi, w_meth, w_tru, w_bool, w_notS, w_andS, w_orS, w_ifx, w_andV, w_orV, w_notV, w_chain, wp_ok, wp_bad, wp_some, wp_none, wp_liftif, wp_if, asB_b, wp_noex, add_ii, sub_ii, mul_ii, fdiv_ii, mod_ii, pow_ii, neg_i, cmp_ii, lt_ii, le_ii, gt_ii, ge_ii, le_cc, muls_ii, muls_si, ins_cs, iadd_ii, isub_ii, w_onone, w_osome, w_sl, sl_s, sl_t, s_aug, eq_ss, len_s, ix_s, add_ss, str_s, tuple_t, list_t, is_n, not_n, non_n, non_i, non_b, non_s, non_t, non_r, abs_i, max_ii, min_ii, int_i, int_b, gcd_ii, len_t, ix_t, eq_v, ne_v, eq_ii, eq_bb, eq_nn, eq_in, eq_ni, iv_n_list, iv_n_tuple, iv_n_bool, iv_n_str, iv_n_int, okt_n, iv_b_list, iv_b_tuple, iv_b_bool, iv_b_str, iv_b_int, okt_b, iv_i_list, iv_i_tuple, iv_i_bool, iv_i_str, iv_i_int, okt_i, iv_s_list, iv_s_tuple, iv_s_bool, iv_s_str, iv_s_int, okt_s, iv_t_list, iv_t_tuple, iv_t_bool, iv_t_str, iv_t_int, okt_t, iv_r_list, iv_r_tuple, iv_r_bool, iv_r_str, iv_r_int, tru_b, tru_i, tru_n, tru_t, Option.map_some, Option.map_none, List.map_cons, List.map_nil, List.length_cons, List.length_nil, List.set_cons_zero, List.set_cons_succ, List.cons_append, List.nil_append, List.replicate, Nat.reduceAdd, Nat.reduceSub, Nat.reduceLeDiff, true_and, and_true, decide_eq_true_eq, reduceIte, Bool.false_eq_true, Bool.not_true, Bool.not_false, decide_true, decide_false]
    refine (isless_ok (p := 0) (q := 1) (r := f) (s := g) (by decide) (by omega)).mono ?_
    rintro _ m ⟨rfl, rfl⟩
    by_cases c : N ≤ 0
    · have : f = 0 := by
        have : f * q = 0 := by rw [e3, show N = 0 by omega, Int.zero_mul]
        exact (Int.mul_eq_zero.mp this).resolve_right (by omega)
      subst this
      rw [decide_eq_false (by omega), if_pos c]
      try simp -dsimp only [at0, at1, at2, at3, at4, at5, at6, wp_fn, s_nil, s_brk, s_cnt, s_expr, s_ret, s_retN, s_if, s_asn, s_par, s_asg, g_nm, g_nil, g_cons, g_tupT, g_subW, w_v0, w_vS, w_c, w_op, w_un, w_anil, w_acons, w_tup, w_lst, w_call, w_callU, w_isi, w_meth, w_tru, w_bool, w_notS, w_andS, w_orS, w_ifx, w_andV, w_orV, w_notV, w_chain, wp_ok, wp_bad, wp_some, wp_none, wp_liftif, wp_if, asB_b, wp_noex, add_ii, sub_ii, mul_ii, fdiv_ii, mod_ii, pow_ii, neg_i, cmp_ii, lt_ii, le_ii, gt_ii, ge_ii, le_cc, muls_ii, muls_si, ins_cs, iadd_ii, isub_ii, w_onone, w_osome, w_sl, sl_s, sl_t, s_aug, eq_ss, len_s, ix_s, add_ss, str_s, tuple_t, list_t, is_n, not_n, non_n, non_i, non_b, non_s, non_t, non_r, abs_i, max_ii, min_ii, int_i, int_b, gcd_ii, len_t, ix_t, eq_v, ne_v, eq_ii, eq_bb, eq_nn, eq_in, eq_ni, iv_n_list, iv_n_tuple, iv_n_bool, iv_n_str, iv_n_int, okt_n, iv_b_list, iv_b_tuple, iv_b_bool, iv_b_str, iv_b_int, okt_b, iv_i_list, iv_i_tuple, iv_i_bool, iv_i_str, iv_i_int, okt_i, iv_s_list, iv_s_tuple, iv_s_bool, iv_s_str, iv_s_int, okt_s, iv_t_list, iv_t_tuple, iv_t_bool, iv_t_str, iv_t_int, okt_t, iv_r_list, iv_r_tuple, iv_r_bool, iv_r_str, iv_r_int, tru_b, tru_i, tru_n, tru_t, Option.map_some, Option.map_none, List.map_cons, List.map_nil, List.length_cons, List.length_nil, List.set_cons_zero, List.set_cons_succ, List.cons_append, List.nil_append, List.replicate, Nat.reduceAdd, Nat.reduceSub, Nat.reduceLeDiff, true_and, and_true, decide_eq_true_eq, reduceIte, Bool.false_eq_true, Bool.not_true, Bool.not_false, decide_true, decide_false]
    · have := sq_fact (by omega) hq gp e3
      rw [decide_eq_true (by omega), if_neg c]
      try simp -dsimp only [at0, at1, at2, at3, at4, at5, at6, wp_fn, s_nil, s_brk, s_cnt, s_expr, s_ret, s_retN, s_if, s_asn, s_par, s_asg, g_nm, g_nil, g_cons, g_tupT, g_subW, w_v0, w_vS, w_c, w_op, w_un, w_anil, w_acons, w_tup, w_lst, w_call, w_callU, w_isi, w_meth, w_tru, w_bool, w_notS, w_andS, w_orS, w_ifx, w_andV, w_orV, w_notV, w_chain, wp_ok, wp_bad, wp_some, wp_none, wp_liftif, wp_if, asB_b, wp_noex, add_ii, sub_ii, mul_ii, fdiv_ii, mod_ii, pow_ii, neg_i, cmp_ii, lt_ii, le_ii, gt_ii, ge_ii, le_cc, muls_ii, muls_si, ins_cs, iadd_ii, isub_ii, w_onone, w_osome, w_sl, sl_s, sl_t, s_aug, eq_ss, len_s, ix_s, add_ss, str_s, tuple_t, list_t, is_n, not_n, non_n, non_i, non_b, non_s, non_t, non_r, abs_i, max_ii, min_ii, int_i, int_b, gcd_ii, len_t, ix_t, eq_v, ne_v, eq_ii, eq_bb, eq_nn, eq_in, eq_ni, iv_n_list, iv_n_tuple, iv_n_bool, iv_n_str, iv_n_int, okt_n, iv_b_list, iv_b_tuple, iv_b_bool, iv_b_str, iv_b_int, okt_b, iv_i_list, iv_i_tuple, iv_i_bool, iv_i_str, iv_i_int, okt_i, iv_s_list, iv_s_tuple, iv_s_bool, iv_s_str, iv_s_int, okt_s, iv_t_list, iv_t_tuple, iv_t_bool, iv_t_str, iv_t_int, okt_t, iv_r_list, iv_r_tuple, iv_r_bool, iv_r_str, iv_r_int, tru_b, tru_i, tru_n, tru_t, Option.map_some, Option.map_none, List.map_cons, List.map_nil, List.length_cons, List.length_nil, List.set_cons_zero, List.set_cons_succ, List.cons_append, List.nil_append, List.replicate, Nat.reduceAdd, Nat.reduceSub, Nat.reduceLeDiff, true_and, and_true, decide_eq_true_eq, reduceIte, Bool.false_eq_true, Bool.not_true, Bool.not_false, decide_true, decide_false]
      omega
  rintro _ _ ⟨rfl, rfl, hN0⟩
  rw [if_neg (by omega)]
  have fp := sq_fact hN0 hq gp e3
  try simp -dsimp only [at0, at1, at2, at3, at4, at5, at6, wp_fn, s_nil, s_brk, s_cnt, s_expr, s_ret, s_retN, s_if, s_asn, s_par, s_asg, g_nm, g_nil, g_cons, g_tupT, g_subW, w_v0, w_vS, w_c, w_op, w_un, w_anil, w_acons, w_tup, w_lst, w_call, w_callU, w_isi, w_meth, w_tru, w_bool, w_notS, w_andS, w_orS, w_ifx, w_andV, w_orV, w_notV, w_chain, wp_ok, wp_bad, wp_some, wp_none, wp_liftif, wp_if, asB_b, wp_noex, add_ii, sub_ii, mul_ii, fdiv_ii, mod_ii, pow_ii, neg_i, cmp_ii, lt_ii, le_ii, gt_ii, ge_ii, le_cc, muls_ii, muls_si, ins_cs, iadd_ii, isub_ii, w_onone, w_osome, w_sl, sl_s, sl_t, s_aug, eq_ss, len_s, ix_s, add_ss, str_s, tuple_t, list_t, is_n, not_n, non_n, non_i, non_b, non_s, non_t, non_r, abs_i, max_ii, min_ii, int_i, int_b, gcd_ii, len_t, ix_t, eq_v, ne_v, eq_ii, eq_bb, eq_nn, eq_in, eq_ni, iv_n_list, iv_n_tuple, iv_n_bool, iv_n_str, iv_n_int, okt_n, iv_b_list, iv_b_tuple, iv_b_bool, iv_b_str, iv_b_int, okt_b, iv_i_list, iv_i_tuple, iv_i_bool, iv_i_str, iv_i_int, okt_i, iv_s_list, iv_s_tuple, iv_s_bool, iv_s_str, iv_s_int, okt_s, iv_t_list, iv_t_tuple, iv_t_bool, iv_t_str, iv_t_int, okt_t, iv_r_list, iv_r_tuple, iv_r_bool, iv_r_str, iv_r_int, tru_b, tru_i, tru_n, tru_t, Option.map_some, Option.map_none, List.map_cons, List.map_nil, List.length_cons, List.length_nil, List.set_cons_zero, List.set_cons_succ, List.cons_append, List.nil_append, List.replicate, Nat.reduceAdd, Nat.reduceSub, Nat.reduceLeDiff, true_and, and_true, decide_eq_true_eq, reduceIte, Bool.false_eq_true, Bool.not_true, Bool.not_false, decide_true, decide_false]
  refine (hsq _).mono ?_
  rintro _ m ⟨rfl, rfl⟩
  try simp -dsimp only [at0, at1, at2, at3, at4, at5, at6, wp_fn, s_nil, s_brk, s_cnt, s_expr, s_ret, s_retN, s_if, s_asn, s_par, s_asg, g_nm, g_nil, g_cons, g_tupT, g_subW, w_v0, w_vS, w_c, w_op, w_un, w_anil, w_acons, w_tup, w_lst, w_call, w_callU, w_isi, w_meth, w_tru, w_bool, w_notS, w_andS, w_orS, w_ifx, w_andV, w_orV, w_notV, w_chain, wp_ok, wp_bad, wp_some, wp_none, wp_liftif, wp_if, asB_b, wp_noex, add_ii, sub_ii, mul_ii, fdiv_ii, mod_ii, pow_ii, neg_i, cmp_ii, lt_ii, le_ii, gt_ii, ge_ii, le_cc, muls_ii, muls_si, ins_cs, iadd_ii, isub_ii, w_onone, w_osome, w_sl, sl_s, sl_t, s_aug, eq_ss, len_s, ix_s, add_ss, str_s, tuple_t, list_t, is_n, not_n, non_n, non_i, non_b, non_s, non_t, non_r, abs_i, max_ii, min_ii, int_i, int_b, gcd_ii, len_t, ix_t, eq_v, ne_v, eq_ii, eq_bb, eq_nn, eq_in, eq_ni, iv_n_list, iv_n_tuple, iv_n_bool, iv_n_str, iv_n_int, okt_n, iv_b_list, iv_b_tuple, iv_b_bool, iv_b_str, iv_b_int, okt_b, iv_i_list, iv_i_tuple, iv_i_bool, iv_i_str, iv_i_int, okt_i, iv_s_list, iv_s_tuple, iv_s_bool, iv_s_str, iv_s_int, okt_s, iv_t_list, iv_t_tuple, iv_t_bool, iv_t_str, iv_t_int, okt_t, iv_r_list, iv_r_tuple, iv_r_bool, iv_r_str, iv_r_int, tru_b, tru_i, tru_n, tru_t, Option.map_some, Option.map_none, List.map_cons, List.map_nil, List.length_cons, List.length_nil, List.set_cons_zero, List.set_cons_succ, List.cons_append, List.nil_append, List.replicate, Nat.reduceAdd, Nat.reduceSub, Nat.reduceLeDiff, true_and, and_true, decide_eq_true_eq, reduceIte, Bool.false_eq_true, Bool.not_true, Bool.not_false, decide_true, decide_false]
  refine (times_ok (p := f) (q := g) (r := f) (s := g) gp gp (by omega) (by omega) (by omega)).mono ?_
  rintro _ m ⟨rfl, rfl⟩
  obtain ⟨u, v, z1, z2, z3, z4, z5⟩ := lowv_red (p := f * f) (q := g * g) (Int.mul_pos gp gp)
  have vp := z2.pos
  have ff : 0 < f * f := Int.mul_pos fp fp
  have gg : 0 < g * g := Int.mul_pos gp gp
  have gg2 : g * g ≤ 9999 * 9999 := Int.mul_le_mul (by omega) (by omega) (by omega) (by decide)
  have ff2 : f * f ≤ (9999 * 9999) * (9999 * 9999) := Int.mul_le_mul (by omega) (by omega) (by omega) (by decide)
  have up := sq_fact ff gg vp z3
  rw [z1]
  unfold fpv
  try simp -dsimp only [at0, at1, at2, at3, at4, at5, at6, wp_fn, s_nil, s_brk, s_cnt, s_expr, s_ret, s_retN, s_if, s_asn, s_par, s_asg, g_nm, g_nil, g_cons, g_tupT, g_subW, w_v0, w_vS, w_c, w_op, w_un, w_anil, w_acons, w_tup, w_lst, w_call, w_callU, w_isi, w_meth, w_tru, w_bool, w_notS, w_andS, w_orS, w_ifx, w_andV, w_orV, w_notV, w_chain, wp_ok, wp_bad, wp_some, wp_none, wp_liftif, wp_if, asB_b, wp_noex, add_ii, sub_ii, mul_ii, fdiv_ii, mod_ii, pow_ii, neg_i, cmp_ii, lt_ii, le_ii, gt_ii, ge_ii, le_cc, muls_ii, muls_si, ins_cs, iadd_ii, isub_ii, w_onone, w_osome, w_sl, sl_s, sl_t, s_aug, eq_ss, len_s, ix_s, add_ss, str_s, tuple_t, list_t, is_n, not_n, non_n, non_i, non_b, non_s, non_t, non_r, abs_i, max_ii, min_ii, int_i, int_b, gcd_ii, len_t, ix_t, eq_v, ne_v, eq_ii, eq_bb, eq_nn, eq_in, eq_ni, iv_n_list, iv_n_tuple, iv_n_bool, iv_n_str, iv_n_int, okt_n, iv_b_list, iv_b_tuple, iv_b_bool, iv_b_str, iv_b_int, okt_b, iv_i_list, iv_i_tuple, iv_i_bool, iv_i_str, iv_i_int, okt_i, iv_s_list, iv_s_tuple, iv_s_bool, iv_s_str, iv_s_int, okt_s, iv_t_list, iv_t_tuple, iv_t_bool, iv_t_str, iv_t_int, okt_t, iv_r_list, iv_r_tuple, iv_r_bool, iv_r_str, iv_r_int, tru_b, tru_i, tru_n, tru_t, Option.map_some, Option.map_none, List.map_cons, List.map_nil, List.length_cons, List.length_nil, List.set_cons_zero, List.set_cons_succ, List.cons_append, List.nil_append, List.replicate, Nat.reduceAdd, Nat.reduceSub, Nat.reduceLeDiff, true_and, and_true, decide_eq_true_eq, reduceIte, Bool.false_eq_true, Bool.not_true, Bool.not_false, decide_true, decide_false]
  rw [show (r.x - l.x) * (r.x - l.x) + (r.y - l.y) * (r.y - l.y) = sqd l r from rfl]
  refine (over_ok (p := sqd l r) (q := 1) (r := u) (s := v) (by decide) up (by decide) (by omega) (by omega)).mono ?_
  rintro _ m ⟨rfl, rfl⟩
  refine ⟨lowv_congr (by omega) (Int.mul_pos hN0 hN0) ?_, rfl⟩
  refine Int.eq_of_mul_eq_mul_right (a := g * g) (by omega) ?_
  have e6 : sqd l r * q * q * (1 * u) * (g * g) = sqd l r * q * q * (u * (g * g)) := by grind
  rw [e6, z3]
  have e7 : sqd l r * q * q * (f * f * v) = sqd l r * (f * q) * (f * q) * v := by grind
  rw [e7, e3]
  grind
theorem tt_facts {b e sh r : Int} (hb : 0 ≤ b) (he : b < e) (he2 : e ≤ 9999) (hs : b < sh) (hs2 : sh ≤ 9999) (h1 : b ≤ r) (h2 : r ≤ sh) : ∃ a d, ttv b e sh r = fpv a d ∧ Fq a d ∧ a * (sh - b) = (b * (sh - b) + (r - b) * (e - b)) * d ∧ 0 < d ∧ d ≤ 9999 ∧ 0 ≤ a ∧ a ≤ 9999 * d := by
  obtain ⟨a, d, e1, e2, e3, e4, e5⟩ := lowv_red (p := b * (sh - b) + (r - b) * (e - b)) (q := sh - b) (by omega)
  have dp := e2.pos
  have p0 : 0 ≤ b * (sh - b) + (r - b) * (e - b) := Int.add_nonneg (Int.mul_nonneg hb (by omega)) (Int.mul_nonneg (by omega) (by omega))
  have p1 : b * (sh - b) + (r - b) * (e - b) ≤ e * (sh - b) := by
    have : (r - b) * (e - b) ≤ (sh - b) * (e - b) := Int.mul_le_mul_of_nonneg_right (by omega) (by omega)
    have e6 : (sh - b) * (e - b) = e * (sh - b) - b * (sh - b) := by grind
    omega
  refine ⟨a, d, by rw [ttv_in h1 h2, e1], e2, e3, dp, by omega, ?_, ?_⟩
  · refine Int.le_of_mul_le_mul_right (a := sh - b) ?_ (by omega)
    rw [e3, Int.zero_mul]
    exact Int.mul_nonneg p0 (by omega)
  · refine Int.le_of_mul_le_mul_right (a := sh - b) ?_ (by omega)
    rw [e3]
    have h3 : (b * (sh - b) + (r - b) * (e - b)) * d ≤ e * (sh - b) * d := Int.mul_le_mul_of_nonneg_right p1 (by omega)
    have h4 : e * ((sh - b) * d) ≤ 9999 * ((sh - b) * d) := Int.mul_le_mul_of_nonneg_right he2 (Int.mul_nonneg (by omega) (by omega))
    have h5 : e * (sh - b) * d = e * ((sh - b) * d) := by grind
    have h6 : 9999 * d * (sh - b) = 9999 * ((sh - b) * d) := by grind
    omega
section
variable {m : MH} {L : List Loft} {B : List Bird} {R : List Race} {i j : Nat} {rc : Race} {l : Loft} {b e sh r : Int}
theorem speed_ok (hr : R[i]? = some rc) (hl : L[j]? = some l) (ro : RaceOk L rc) (lo : LoftOk l) (hb : 0 ≤ b) (he : b < e) (he2 : e ≤ 9999) (hs : b < sh) (hs2 : sh ≤ 9999) :
    WP (f_speed [clubPV L B R, clkPV (i : Nat) (j : Nat) b e sh, .int r] m) (fun x m' => x = spd l rc b e sh r ∧ m' = m) NoE := by
  have tt := fun m => tt_ok (m := m) (i := (i : Nat)) (j := (j : Nat)) (r := r) hb he he2 hs hs2
  have sp := fun p q m h1 h2 h3 h4 => spat_ok (m := m) (B := B) (p := p) (q := q) hr hl ro lo h1 h2 h3 h4
  unfold f_speed b_speed
  unfold clkPV at *
  try simp -dsimp only [at0, at1, at2, at3, at4, at5, at6, wp_fn, s_nil, s_brk, s_cnt, s_expr, s_ret, s_retN, s_if, s_asn, s_par, s_asg, g_nm, g_nil, g_cons, g_tupT, g_subW, w_v0, w_vS, w_c, w_op, w_un, w_anil, w_acons, w_tup, w_lst, w_call, w_callU, w_isi, w_meth, w_tru, w_bool, w_notS, w_andS, w_orS, w_ifx, w_andV, w_orV, w_notV, w_chain, wp_ok, wp_bad, wp_some, wp_none, wp_liftif, wp_if, asB_b, wp_noex, add_ii, sub_ii, mul_ii, fdiv_ii, mod_ii, pow_ii, neg_i, cmp_ii, lt_ii, le_ii, gt_ii, ge_ii, le_cc, muls_ii, muls_si, ins_cs, iadd_ii, isub_ii, w_onone, w_osome, w_sl, sl_s, sl_t, s_aug, eq_ss, len_s, ix_s, add_ss, str_s, tuple_t, list_t, is_n, not_n, non_n, non_i, non_b, non_s, non_t, non_r, abs_i, max_ii, min_ii, int_i, int_b, gcd_ii, len_t, ix_t, eq_v, ne_v, eq_ii, eq_bb, eq_nn, eq_in, eq_ni, iv_n_list, iv_n_tuple, iv_n_bool, iv_n_str, iv_n_int, okt_n, iv_b_list, iv_b_tuple, iv_b_bool, iv_b_str, iv_b_int, okt_b, iv_i_list, iv_i_tuple, iv_i_bool, iv_i_str, iv_i_int, okt_i, iv_s_list, iv_s_tuple, iv_s_bool, iv_s_str, iv_s_int, okt_s, iv_t_list, iv_t_tuple, iv_t_bool, iv_t_str, iv_t_int, okt_t, iv_r_list, iv_r_tuple, iv_r_bool, iv_r_str, iv_r_int, tru_b, tru_i, tru_n, tru_t, Option.map_some, Option.map_none, List.map_cons, List.map_nil, List.length_cons, List.length_nil, List.set_cons_zero, List.set_cons_succ, List.cons_append, List.nil_append, List.replicate, Nat.reduceAdd, Nat.reduceSub, Nat.reduceLeDiff, true_and, and_true, decide_eq_true_eq, reduceIte, Bool.false_eq_true, Bool.not_true, Bool.not_false, decide_true, decide_false]
  rw [s_seq]
  try simp -dsimp only [at0, at1, at2, at3, at4, at5, at6, wp_fn, s_nil, s_brk, s_cnt, s_expr, s_ret, s_retN, s_if, s_asn, s_par, s_asg, g_nm, g_nil, g_cons, g_tupT, g_subW, w_v0, w_vS, w_c, w_op, w_un, w_anil, w_acons, w_tup, w_lst, w_call, w_callU, w_isi, w_meth, w_tru, w_bool, w_notS, w_andS, w_orS, w_ifx, w_andV, w_orV, w_notV, w_chain, wp_ok, wp_bad, wp_some, wp_none, wp_liftif, wp_if, asB_b, wp_noex, add_ii, sub_ii, mul_ii, fdiv_ii, mod_ii, pow_ii, neg_i, cmp_ii, lt_ii, le_ii, gt_ii, ge_ii, le_cc, muls_ii, muls_si, ins_cs, iadd_ii, isub_ii, w_onone, w_osome, w_sl, sl_s, sl_t, s_aug, eq_ss, len_s, ix_s, add_ss, str_s, tuple_t, list_t, is_n, not_n, non_n, non_i, non_b, non_s, non_t, non_r, abs_i, max_ii, min_ii, int_i, int_b, gcd_ii, len_t, ix_t, eq_v, ne_v, eq_ii, eq_bb, eq_nn, eq_in, eq_ni, iv_n_list, iv_n_tuple, iv_n_bool, iv_n_str, iv_n_int, okt_n, iv_b_list, iv_b_tuple, iv_b_bool, iv_b_str, iv_b_int, okt_b, iv_i_list, iv_i_tuple, iv_i_bool, iv_i_str, iv_i_int, okt_i, iv_s_list, iv_s_tuple, iv_s_bool, iv_s_str, iv_s_int, okt_s, iv_t_list, iv_t_tuple, iv_t_bool, iv_t_str, iv_t_int, okt_t, iv_r_list, iv_r_tuple, iv_r_bool, iv_r_str, iv_r_int, tru_b, tru_i, tru_n, tru_t, Option.map_some, Option.map_none, List.map_cons, List.map_nil, List.length_cons, List.length_nil, List.set_cons_zero, List.set_cons_succ, List.cons_append, List.nil_append, List.replicate, Nat.reduceAdd, Nat.reduceSub, Nat.reduceLeDiff, true_and, and_true, decide_eq_true_eq, reduceIte, Bool.false_eq_true, Bool.not_true, Bool.not_false, decide_true, decide_false]
  refine (tt _).mono ?_
  rintro _ m ⟨rfl, rfl⟩
  unfold spd
  by_cases c : b ≤ r ∧ r ≤ sh
  · rw [if_pos c]
    obtain ⟨a, d, e1, e2, e3, e4, e5, e6, e7⟩ := tt_facts hb he he2 hs hs2 c.1 c.2
    rw [e1]
    unfold fpv at *
    try simp -dsimp only [at0, at1, at2, at3, at4, at5, at6, wp_fn, s_nil, s_brk, s_cnt, s_expr, s_ret, s_retN, s_if, s_asn, s_par, s_asg, g_nm, g_nil, g_cons, g_tupT, g_subW, w_v0, w_vS, w_c, w_op, w_un, w_anil, w_acons, w_tup, w_lst, w_call, w_callU, w_isi, w_meth, w_tru, w_bool, w_notS, w_andS, w_orS, w_ifx, w_andV, w_orV, w_notV, w_chain, wp_ok, wp_bad, wp_some, wp_none, wp_liftif, wp_if, asB_b, wp_noex, add_ii, sub_ii, mul_ii, fdiv_ii, mod_ii, pow_ii, neg_i, cmp_ii, lt_ii, le_ii, gt_ii, ge_ii, le_cc, muls_ii, muls_si, ins_cs, iadd_ii, isub_ii, w_onone, w_osome, w_sl, sl_s, sl_t, s_aug, eq_ss, len_s, ix_s, add_ss, str_s, tuple_t, list_t, is_n, not_n, non_n, non_i, non_b, non_s, non_t, non_r, abs_i, max_ii, min_ii, int_i, int_b, gcd_ii, len_t, ix_t, eq_v, ne_v, eq_ii, eq_bb, eq_nn, eq_in, eq_ni, iv_n_list, iv_n_tuple, iv_n_bool, iv_n_str, iv_n_int, okt_n, iv_b_list, iv_b_tuple, iv_b_bool, iv_b_str, iv_b_int, okt_b, iv_i_list, iv_i_tuple, iv_i_bool, iv_i_str, iv_i_int, okt_i, iv_s_list, iv_s_tuple, iv_s_bool, iv_s_str, iv_s_int, okt_s, iv_t_list, iv_t_tuple, iv_t_bool, iv_t_str, iv_t_int, okt_t, iv_r_list, iv_r_tuple, iv_r_bool, iv_r_str, iv_r_int, tru_b, tru_i, tru_n, tru_t, Option.map_some, Option.map_none, List.map_cons, List.map_nil, List.length_cons, List.length_nil, List.set_cons_zero, List.set_cons_succ, List.cons_append, List.nil_append, List.replicate, Nat.reduceAdd, Nat.reduceSub, Nat.reduceLeDiff, true_and, and_true, decide_eq_true_eq, reduceIte, Bool.false_eq_true, Bool.not_true, Bool.not_false, decide_true, decide_false]
    rw [s_seq]
    try simp -dsimp only [at0, at1, at2, at3, at4, at5, at6, wp_fn, s_nil, s_brk, s_cnt, s_expr, s_ret, s_retN, s_if, s_asn, s_par, s_asg, g_nm, g_nil, g_cons, g_tupT, g_subW, w_v0, w_vS, w_c, w_op, w_un, w_anil, w_acons, w_tup, w_lst, w_call, w_callU, w_isi, w_meth, w_tru, w_bool, w_notS, w_andS, w_orS, w_ifx, w_andV, w_orV, w_notV, w_chain, wp_ok, wp_bad, wp_some, wp_none, wp_liftif, wp_if, asB_b, wp_noex, add_ii, sub_ii, mul_ii, fdiv_ii, mod_ii, pow_ii, neg_i, cmp_ii, lt_ii, le_ii, gt_ii, ge_ii, le_cc, muls_ii, muls_si, ins_cs, iadd_ii, isub_ii, w_onone, w_osome, w_sl, sl_s, sl_t, s_aug, eq_ss, len_s, ix_s, add_ss, str_s, tuple_t, list_t, is_n, not_n, non_n, non_i, non_b, non_s, non_t, non_r, abs_i, max_ii, min_ii, int_i, int_b, gcd_ii, len_t, ix_t, eq_v, ne_v, eq_ii, eq_bb, eq_nn, eq_in, eq_ni, iv_n_list, iv_n_tuple, iv_n_bool, iv_n_str, iv_n_int, okt_n, iv_b_list, iv_b_tuple, iv_b_bool, iv_b_str, iv_b_int, okt_b, iv_i_list, iv_i_tuple, iv_i_bool, iv_i_str, iv_i_int, okt_i, iv_s_list, iv_s_tuple, iv_s_bool, iv_s_str, iv_s_int, okt_s, iv_t_list, iv_t_tuple, iv_t_bool, iv_t_str, iv_t_int, okt_t, iv_r_list, iv_r_tuple, iv_r_bool, iv_r_str, iv_r_int, tru_b, tru_i, tru_n, tru_t, Option.map_some, Option.map_none, List.map_cons, List.map_nil, List.length_cons, List.length_nil, List.set_cons_zero, List.set_cons_succ, List.cons_append, List.nil_append, List.replicate, Nat.reduceAdd, Nat.reduceSub, Nat.reduceLeDiff, true_and, and_true, decide_eq_true_eq, reduceIte, Bool.false_eq_true, Bool.not_true, Bool.not_false, decide_true, decide_false]
    refine (sp a d _ e4 e5 e6 e7).mono ?_
    rintro _ m ⟨rfl, rfl⟩
    exact ⟨spv_same e4 (by omega) e3, rfl⟩
  · rw [if_neg c, ttv_out c]
    try simp -dsimp only [at0, at1, at2, at3, at4, at5, at6, wp_fn, s_nil, s_brk, s_cnt, s_expr, s_ret, s_retN, s_if, s_asn, s_par, s_asg, g_nm, g_nil, g_cons, g_tupT, g_subW, w_v0, w_vS, w_c, w_op, w_un, w_anil, w_acons, w_tup, w_lst, w_call, w_callU, w_isi, w_meth, w_tru, w_bool, w_notS, w_andS, w_orS, w_ifx, w_andV, w_orV, w_notV, w_chain, wp_ok, wp_bad, wp_some, wp_none, wp_liftif, wp_if, asB_b, wp_noex, add_ii, sub_ii, mul_ii, fdiv_ii, mod_ii, pow_ii, neg_i, cmp_ii, lt_ii, le_ii, gt_ii, ge_ii, le_cc, muls_ii, muls_si, ins_cs, iadd_ii, isub_ii, w_onone, w_osome, w_sl, sl_s, sl_t, s_aug, eq_ss, len_s, ix_s, add_ss, str_s, tuple_t, list_t, is_n, not_n, non_n, non_i, non_b, non_s, non_t, non_r, abs_i, max_ii, min_ii, int_i, int_b, gcd_ii, len_t, ix_t, eq_v, ne_v, eq_ii, eq_bb, eq_nn, eq_in, eq_ni, iv_n_list, iv_n_tuple, iv_n_bool, iv_n_str, iv_n_int, okt_n, iv_b_list, iv_b_tuple, iv_b_bool, iv_b_str, iv_b_int, okt_b, iv_i_list, iv_i_tuple, iv_i_bool, iv_i_str, iv_i_int, okt_i, iv_s_list, iv_s_tuple, iv_s_bool, iv_s_str, iv_s_int, okt_s, iv_t_list, iv_t_tuple, iv_t_bool, iv_t_str, iv_t_int, okt_t, iv_r_list, iv_r_tuple, iv_r_bool, iv_r_str, iv_r_int, tru_b, tru_i, tru_n, tru_t, Option.map_some, Option.map_none, List.map_cons, List.map_nil, List.length_cons, List.length_nil, List.set_cons_zero, List.set_cons_succ, List.cons_append, List.nil_append, List.replicate, Nat.reduceAdd, Nat.reduceSub, Nat.reduceLeDiff, true_and, and_true, decide_eq_true_eq, reduceIte, Bool.false_eq_true, Bool.not_true, Bool.not_false, decide_true, decide_false]
    rw [s_seq]
    try simp -dsimp only [at0, at1, at2, at3, at4, at5, at6, wp_fn, s_nil, s_brk, s_cnt, s_expr, s_ret, s_retN, s_if, s_asn, s_par, s_asg, g_nm, g_nil, g_cons, g_tupT, g_subW, w_v0, w_vS, w_c, w_op, w_un, w_anil, w_acons, w_tup, w_lst, w_call, w_callU, w_isi, w_meth, w_tru, w_bool, w_notS, w_andS, w_orS, w_ifx, w_andV, w_orV, w_notV, w_chain, wp_ok, wp_bad, wp_some, wp_none, wp_liftif, wp_if, asB_b, wp_noex, add_ii, sub_ii, mul_ii, fdiv_ii, mod_ii, pow_ii, neg_i, cmp_ii, lt_ii, le_ii, gt_ii, ge_ii, le_cc, muls_ii, muls_si, ins_cs, iadd_ii, isub_ii, w_onone, w_osome, w_sl, sl_s, sl_t, s_aug, eq_ss, len_s, ix_s, add_ss, str_s, tuple_t, list_t, is_n, not_n, non_n, non_i, non_b, non_s, non_t, non_r, abs_i, max_ii, min_ii, int_i, int_b, gcd_ii, len_t, ix_t, eq_v, ne_v, eq_ii, eq_bb, eq_nn, eq_in, eq_ni, iv_n_list, iv_n_tuple, iv_n_bool, iv_n_str, iv_n_int, okt_n, iv_b_list, iv_b_tuple, iv_b_bool, iv_b_str, iv_b_int, okt_b, iv_i_list, iv_i_tuple, iv_i_bool, iv_i_str, iv_i_int, okt_i, iv_s_list, iv_s_tuple, iv_s_bool, iv_s_str, iv_s_int, okt_s, iv_t_list, iv_t_tuple, iv_t_bool, iv_t_str, iv_t_int, okt_t, iv_r_list, iv_r_tuple, iv_r_bool, iv_r_str, iv_r_int, tru_b, tru_i, tru_n, tru_t, Option.map_some, Option.map_none, List.map_cons, List.map_nil, List.length_cons, List.length_nil, List.set_cons_zero, List.set_cons_succ, List.cons_append, List.nil_append, List.replicate, Nat.reduceAdd, Nat.reduceSub, Nat.reduceLeDiff, true_and, and_true, decide_eq_true_eq, reduceIte, Bool.false_eq_true, Bool.not_true, Bool.not_false, decide_true, decide_false]
end
/-! ## rules for what raises -/
theorem w_callX {n : Nat} {f : FS} {as : SA} {l : SM.Loc} {m : MH} {Q : PV → MH → Prop} {E : EX} : WP (sCallX n f as l m) Q E = WP (as l m) (fun xs m1 => xs.length = n ∧ WP (f xs m1) Q E) E := by
  unfold sCallX; rw [wp_bind]; refine wp_eq fun xs m1 => ?_
  by_cases h : xs.length = n
  · rw [if_pos h]; simp [h]
  · rw [if_neg h]; simp [h, wp_bad]
theorem s_raise {cn : String} {as : SA} {l : SM.Loc} {m : MH} {D : ED} : WS (xRaise cn as l m) D = WP (as l m) (fun xs m1 => D.ex cn xs l m1) (fun c fs m => D.ex c fs l m) := by
  unfold xRaise; rw [ws_then]; refine wp_eq fun xs m1 => ?_; with_unfolding_all rfl
theorem s_tryA {cn : String} {i : Nat} {sb : SS} {l : SM.Loc} {m : MH} {D : ED} (h : WS (sb l m) { D with ex := fun c fs l' m' => ∃ y, fs = [y] ∧ c = cn ∧ i < l'.length ∧ D.rt y m' }) : WS (xTryA cn i sb l m) D := by
  unfold xTryA
  unfold WS at h ⊢
  cases hs : sb l m with
  | nx l' m' => rw [hs] at h; exact h
  | rt y m' => rw [hs] at h; exact h
  | bk l' m' => rw [hs] at h; exact h
  | ct l' m' => rw [hs] at h; exact h
  | bad => rw [hs] at h; exact h
  | ex c fs l' m' =>
    rw [hs] at h
    obtain ⟨y, rfl, hc, hi, hq⟩ := h
    dsimp only
    rw [if_pos ⟨hc, hi⟩]
    exact hq
theorem w_tis {T : String} {a : SE} {l : SM.Loc} {m : MH} {Q : PV → MH → Prop} {E : EX} : WP (sTis T a l m) Q E = WP (a l m) (fun x m1 => okTy m1 x = true ∧ Q (.bl (decide (tyName x = T))) m1) E := by
  unfold sTis; rw [wp_bind]; refine wp_eq fun x m1 => ?_
  by_cases h : okTy m1 x = true
  · rw [if_pos h]; simp [h, wp_ok]
  · rw [if_neg h]; simp [h, wp_bad]
/-- for i, x in enumerate(a tuple) -/
theorem s_forE {e : SE} {g : STg} {body : SS} {l : SM.Loc} {m : MH} {D : ED} (h : WP (e l m) (fun x m1 => ∃ xs, x = .tup xs ∧ ∃ I : Nat → SM.Loc → MH → Prop, I 0 l m1 ∧
    (∀ i x l m, xs[i]? = some x → I i l m → WG (g (.tup [.int (i : Nat), x]) l m) (fun l1 m1 => WS (body l1 m1) ⟨I (i + 1), D.rt, D.nx, I (i + 1), D.ex⟩)) ∧ (∀ l m, I xs.length l m → D.nx l m)) NoE) : WS (xForE e g body l m) D := by
  obtain ⟨x, m1, ee, xs, rfl, I, h3, h4, h5⟩ := h.run
  unfold xForE
  rw [ee]
  have := ws_forL (it := ⟨enumI xs, none⟩) (g := g) (body := body) (D := D) I (fun i x l m hx hi => ⟨trivial, ?_⟩) (fun l m hi => ⟨trivial, h5 l m ?_⟩) (enumI xs).length 0 l m1 (by rfl) h3
  · rw [List.drop_zero] at this
    exact this
  · have hx : (enumI xs)[i]? = some x := hx
    have hl := (List.getElem?_eq_some_iff.mp hx).1
    rw [enumI_len] at hl
    have e1 := List.getElem?_eq_getElem hl
    rw [enumI_get e1] at hx
    cases hx
    exact h4 i _ l m e1 hi
  · have hi : I (enumI xs).length l m := hi
    rw [enumI_len] at hi
    exact hi
theorem eq_pair {a b c d : Int} {m : MH} : SM.eqV m (.tup [.int a, .int b]) (.tup [.int c, .int d]) = some (decide (a = c ∧ b = d)) := by
  have e1 : toD m 8 (.tup [.int a, .int b]) = some (.tuple [.int a, .int b]) := rfl
  have e2 : toD m 8 (.tup [.int c, .int d]) = some (.tuple [.int c, .int d]) := rfl
  have sh : ∀ x y : Int, SeqAt.shaped (.tuple [.int x, .int y]) = true := fun x y => shp (by simp [PyData.canLay0, PyData.canLayAll0]) (by simp [PyData.depth, PyData.depthAll])
  have e0 : eqF (.tup [.int a, .int b]) (.tup [.int c, .int d]) = none := rfl
  unfold SM.eqV
  rw [e0]
  dsimp only
  unfold eqD
  rw [e1, e2]
  dsimp only
  rw [if_pos ⟨sh _ _, sh _ _⟩]
  simp [PyData.eqv, PyData.eqvAll]
  by_cases h1 : a = c <;> by_cases h2 : b = d <;> simp [h1, h2]
/-- for x in range(a, b), where a and b are reckoned -/
theorem s_for2W {l : SM.Loc} {m : MH} {D : ED} {a b : SE} {g : STg} {body : SS} (h : WP (a l m) (fun x m1 => WP (b l m1) (fun y m2 => ∃ i j : Int, x = .int i ∧ y = .int j ∧ (-4611686018427387904 ≤ i ∧ i < 4611686018427387904 ∧ -4611686018427387904 ≤ j ∧ j < 4611686018427387904) ∧ ∃ I : Nat → SM.Loc → MH → Prop, I 0 l m2 ∧
    (∀ k l m, k < (j - i).toNat → I k l m → WG (g (.int (i + (k : Nat))) l m) (fun l1 m1 => WS (body l1 m1) ⟨I (k + 1), D.rt, D.nx, I (k + 1), D.ex⟩)) ∧ (∀ l m, I (j - i).toNat l m → D.nx l m)) NoE) NoE) : WS (xFor (iRng2S a b) g body l m) D := by
  obtain ⟨x, m1, e, h⟩ := h.run
  obtain ⟨y, m2, e2, i, j, rfl, rfl, hj, I, h3, h4, h5⟩ := h.run
  exact s_for2 (j - i).toNat rfl e e2 hj I h3 h4 h5
structure Clk where
  race : Nat
  loft : Nat
  b : Int
  e : Int
  s : Int
def Clk.pv (c : Clk) : PV := clkPV (c.race : Nat) (c.loft : Nat) c.b c.e c.s
def fnd (cs : List Clk) (i j : Int) : Option Clk := (cs.reverse).find? fun c => decide ((c.race : Int) = i) && decide ((c.loft : Int) = j)
def optPV (o : Option Clk) : PV := (o.map Clk.pv).getD .non
theorem fnd_snoc (cs : List Clk) (c : Clk) (i j : Int) : fnd (cs ++ [c]) i j = if (c.race : Int) = i ∧ (c.loft : Int) = j then some c else fnd cs i j := by
  unfold fnd
  rw [List.reverse_append, List.reverse_singleton, List.singleton_append, List.find?_cons]
  by_cases h1 : (c.race : Int) = i
  · by_cases h2 : (c.loft : Int) = j
    · simp [h1, h2]
    · simp [h1, h2]
  · simp [h1]
theorem fnd_mem {cs : List Clk} {i j : Int} {c : Clk} (h : fnd cs i j = some c) : c ∈ cs ∧ (c.race : Int) = i ∧ (c.loft : Int) = j := by
  unfold fnd at h
  have h1 := List.mem_of_find?_eq_some h
  have h2 := List.find?_some h
  simp at h2
  exact ⟨by simpa using h1, h2.1, h2.2⟩

theorem clkof_ok {m : MH} {n : Nat} {cs : List Clk} {i j : Int} (h : m[n]? = some (.lst (cs.map Clk.pv))) :
    WP (f_clock_of [.ref n, .int i, .int j] m) (fun x m' => x = optPV (fnd cs i j) ∧ m' = m) NoE := by
  unfold f_clock_of b_clock_of
  walk_at "w1"
  rw [s_seq]
  walk_at "w1"
  rw [s_seq]
  refine s_forLW ?_
  walk_at "w1"
  refine ⟨_, _, rfl, seq_of_lst h, fun k l m' => ∃ x4, l = [some (.ref n), some (.int i), some (.int j), some (optPV (fnd (cs.take k) i j)), x4] ∧ m' = m, ⟨_, rfl, rfl⟩, ?_, ?_, ?_⟩
  · rintro k l m' ⟨x4, rfl, rfl⟩
    exact seq_of_lst h
  · rintro k x l m' hx ⟨x4, rfl, rfl⟩
    rw [List.getElem?_map] at hx
    cases hc : cs[k]? with
    | none => rw [hc] at hx; cases hx
    | some c =>
    rw [hc] at hx
    cases hx
    have et : cs.take (k + 1) = cs.take k ++ [c] := by rw [List.take_succ, hc]; rfl
    unfold clock_of_l1 Clk.pv clkPV
    try simp -dsimp only [eq_pair, at0, at1, at2, at3, at4, at5, at6, wp_fn, s_nil, s_brk, s_cnt, s_expr, s_ret, s_retN, s_if, s_asn, s_par, s_asg, g_nm, g_nil, g_cons, g_tupT, g_subW, w_v0, w_vS, w_c, w_op, w_un, w_anil, w_acons, w_tup, w_lst, w_call, w_callU, w_isi, w_meth, w_tru, w_bool, w_notS, w_andS, w_orS, w_ifx, w_andV, w_orV, w_notV, w_chain, wp_ok, wp_bad, wp_some, wp_none, wp_liftif, wp_if, asB_b, wp_noex, add_ii, sub_ii, mul_ii, fdiv_ii, mod_ii, pow_ii, neg_i, cmp_ii, lt_ii, le_ii, gt_ii, ge_ii, le_cc, muls_ii, muls_si, ins_cs, iadd_ii, isub_ii, w_onone, w_osome, w_sl, sl_s, sl_t, s_aug, eq_ss, len_s, ix_s, add_ss, str_s, tuple_t, list_t, is_n, not_n, non_n, non_i, non_b, non_s, non_t, non_r, abs_i, max_ii, min_ii, int_i, int_b, gcd_ii, len_t, ix_t, eq_v, ne_v, eq_ii, eq_bb, eq_nn, eq_in, eq_ni, iv_n_list, iv_n_tuple, iv_n_bool, iv_n_str, iv_n_int, okt_n, iv_b_list, iv_b_tuple, iv_b_bool, iv_b_str, iv_b_int, okt_b, iv_i_list, iv_i_tuple, iv_i_bool, iv_i_str, iv_i_int, okt_i, iv_s_list, iv_s_tuple, iv_s_bool, iv_s_str, iv_s_int, okt_s, iv_t_list, iv_t_tuple, iv_t_bool, iv_t_str, iv_t_int, okt_t, iv_r_list, iv_r_tuple, iv_r_bool, iv_r_str, iv_r_int, tru_b, tru_i, tru_n, tru_t, Option.map_some, Option.map_none, List.map_cons, List.map_nil, List.length_cons, List.length_nil, List.set_cons_zero, List.set_cons_succ, List.cons_append, List.nil_append, List.replicate, Nat.reduceAdd, Nat.reduceSub, Nat.reduceLeDiff, true_and, and_true, decide_eq_true_eq, reduceIte, Bool.false_eq_true, Bool.not_true, Bool.not_false, decide_true, decide_false]
    by_cases z : (c.race : Int) = i ∧ (c.loft : Int) = j
    · rw [if_pos z, et, fnd_snoc, if_pos z]
      exact ⟨_, rfl⟩
    · rw [if_neg z, et, fnd_snoc, if_neg z]
      exact ⟨_, rfl⟩
  · rintro l m' ⟨x4, rfl, rfl⟩
    walk_at "w1"
    rw [List.length_map, List.take_length]

theorem w_lcT {b t e : _} {l : SM.Loc} {m : MH} {g : STg} {vs : List Nat} {Q : PV → MH → Prop} {E : EX} (h : WP (b l m) (fun x m1 => ∃ xs, x = .tup xs ∧ ∃ I : Nat → List PV → MH → Prop, I 0 [] (m1 ++ [.lst []]) ∧
    (∀ i x acc m, xs[i]? = some x → m[m1.length]? = some (.lst acc) → I i acc m → WG (g x (wipeP l vs) m) (fun l1 m' => WP (t l1 m') (fun b m2 => if b = true then WP (e l1 m2) (fun y m3 => m3[m1.length]? = some (.lst acc) ∧ acc.length < 16777216 ∧ I (i + 1) (acc ++ [y]) (m3.set m1.length (.lst (acc ++ [y])))) NoE else m2[m1.length]? = some (.lst acc) ∧ I (i + 1) acc m2) NoE)) ∧
    (∀ acc m, m[m1.length]? = some (.lst acc) → I xs.length acc m → Q (.ref m1.length) m)) NoE) : WP (sLc (iSeq b) g t e vs l m) Q E := by
  obtain ⟨x, m1, ee, xs, rfl, I, h3, h4, h5⟩ := h.run
  exact w_lc (si_seqT ee) I h3 (fun i x acc m hx hl hi => ⟨trivial, h4 i x acc m hx hl hi⟩) (fun acc m hl hi => ⟨trivial, h5 acc m hl hi⟩)
theorem numof_ok {m : MH} {B : List Bird} {k : Nat} {bd : Bird} {t : Int} (hk : B[k]? = some bd) (hr : bd.ring = t) (nd : (B.map Bird.ring).Nodup) :
    WP (f_number_of [.tup (B.map Bird.pv), .int t] m) (fun x m' => x = .int (k : Nat) ∧ m' = m) NoE := by
  unfold f_number_of b_number_of
  walk_at "w1"
  rw [s_seq]
  refine s_forE ?_
  walk_at "w1"
  refine ⟨_, rfl, fun i l m' => ∃ x2 x3, l = [some (.tup (B.map Bird.pv)), some (.int t), x2, x3] ∧ m' = m ∧ i ≤ k, ⟨_, _, rfl, rfl, Nat.zero_le _⟩, ?_, ?_⟩
  · rintro i x l m' hx ⟨x2, x3, rfl, rfl, hi⟩
    rw [List.getElem?_map] at hx
    cases hb : B[i]? with
    | none => rw [hb] at hx; cases hx
    | some b =>
    rw [hb] at hx
    cases hx
    unfold number_of_l1 Bird.pv
    try simp -dsimp only [at0, at1, at2, at3, at4, at5, at6, wp_fn, s_nil, s_brk, s_cnt, s_expr, s_ret, s_retN, s_if, s_asn, s_par, s_asg, g_nm, g_nil, g_cons, g_tupT, g_subW, w_v0, w_vS, w_c, w_op, w_un, w_anil, w_acons, w_tup, w_lst, w_call, w_callU, w_isi, w_meth, w_tru, w_bool, w_notS, w_andS, w_orS, w_ifx, w_andV, w_orV, w_notV, w_chain, wp_ok, wp_bad, wp_some, wp_none, wp_liftif, wp_if, asB_b, wp_noex, add_ii, sub_ii, mul_ii, fdiv_ii, mod_ii, pow_ii, neg_i, cmp_ii, lt_ii, le_ii, gt_ii, ge_ii, le_cc, muls_ii, muls_si, ins_cs, iadd_ii, isub_ii, w_onone, w_osome, w_sl, sl_s, sl_t, s_aug, eq_ss, len_s, ix_s, add_ss, str_s, tuple_t, list_t, is_n, not_n, non_n, non_i, non_b, non_s, non_t, non_r, abs_i, max_ii, min_ii, int_i, int_b, gcd_ii, len_t, ix_t, eq_v, ne_v, eq_ii, eq_bb, eq_nn, eq_in, eq_ni, iv_n_list, iv_n_tuple, iv_n_bool, iv_n_str, iv_n_int, okt_n, iv_b_list, iv_b_tuple, iv_b_bool, iv_b_str, iv_b_int, okt_b, iv_i_list, iv_i_tuple, iv_i_bool, iv_i_str, iv_i_int, okt_i, iv_s_list, iv_s_tuple, iv_s_bool, iv_s_str, iv_s_int, okt_s, iv_t_list, iv_t_tuple, iv_t_bool, iv_t_str, iv_t_int, okt_t, iv_r_list, iv_r_tuple, iv_r_bool, iv_r_str, iv_r_int, tru_b, tru_i, tru_n, tru_t, Option.map_some, Option.map_none, List.map_cons, List.map_nil, List.length_cons, List.length_nil, List.set_cons_zero, List.set_cons_succ, List.cons_append, List.nil_append, List.replicate, Nat.reduceAdd, Nat.reduceSub, Nat.reduceLeDiff, true_and, and_true, decide_eq_true_eq, reduceIte, Bool.false_eq_true, Bool.not_true, Bool.not_false, decide_true, decide_false]
    have inj : b.ring = t → i = k := by
      intro e
      have l1 := (List.getElem?_eq_some_iff.mp hb).1
      refine (List.getElem?_inj (l := B.map Bird.ring) (by rw [List.length_map]; exact l1) nd).mp ?_
      rw [List.getElem?_map, List.getElem?_map, hb, hk]
      show some b.ring = some bd.ring
      rw [e, hr]
    by_cases c : b.ring = t
    · rw [if_pos c, inj c]
    · rw [if_neg c]
      refine ⟨_, _, rfl, ?_⟩
      have : i ≠ k := by
        rintro rfl
        rw [hb] at hk
        cases hk
        exact c hr
      omega
  · rintro l m' ⟨x2, x3, rfl, rfl, hi⟩
    have l2 := (List.getElem?_eq_some_iff.mp hk).1
    rw [List.length_map] at hi
    omega
theorem birdof_ok {m : MH} {L : List Loft} {B : List Bird} {R : List Race} {k : Nat} {bd : Bird} {t : Int} (hk : B[k]? = some bd) (hr : bd.ring = t) (nd : (B.map Bird.ring).Nodup) :
    WP (f_bird_of [clubPV L B R, .int t] m) (fun x m' => x = .int (k : Nat) ∧ m' = m) NoE := by
  unfold f_bird_of b_bird_of clubPV
  walk_at "w1"
  rw [s_seq]
  try simp -dsimp only [at0, at1, at2, at3, at4, at5, at6, wp_fn, s_nil, s_brk, s_cnt, s_expr, s_ret, s_retN, s_if, s_asn, s_par, s_asg, g_nm, g_nil, g_cons, g_tupT, g_subW, w_v0, w_vS, w_c, w_op, w_un, w_anil, w_acons, w_tup, w_lst, w_call, w_callU, w_isi, w_meth, w_tru, w_bool, w_notS, w_andS, w_orS, w_ifx, w_andV, w_orV, w_notV, w_chain, wp_ok, wp_bad, wp_some, wp_none, wp_liftif, wp_if, asB_b, wp_noex, add_ii, sub_ii, mul_ii, fdiv_ii, mod_ii, pow_ii, neg_i, cmp_ii, lt_ii, le_ii, gt_ii, ge_ii, le_cc, muls_ii, muls_si, ins_cs, iadd_ii, isub_ii, w_onone, w_osome, w_sl, sl_s, sl_t, s_aug, eq_ss, len_s, ix_s, add_ss, str_s, tuple_t, list_t, is_n, not_n, non_n, non_i, non_b, non_s, non_t, non_r, abs_i, max_ii, min_ii, int_i, int_b, gcd_ii, len_t, ix_t, eq_v, ne_v, eq_ii, eq_bb, eq_nn, eq_in, eq_ni, iv_n_list, iv_n_tuple, iv_n_bool, iv_n_str, iv_n_int, okt_n, iv_b_list, iv_b_tuple, iv_b_bool, iv_b_str, iv_b_int, okt_b, iv_i_list, iv_i_tuple, iv_i_bool, iv_i_str, iv_i_int, okt_i, iv_s_list, iv_s_tuple, iv_s_bool, iv_s_str, iv_s_int, okt_s, iv_t_list, iv_t_tuple, iv_t_bool, iv_t_str, iv_t_int, okt_t, iv_r_list, iv_r_tuple, iv_r_bool, iv_r_str, iv_r_int, tru_b, tru_i, tru_n, tru_t, Option.map_some, Option.map_none, List.map_cons, List.map_nil, List.length_cons, List.length_nil, List.set_cons_zero, List.set_cons_succ, List.cons_append, List.nil_append, List.replicate, Nat.reduceAdd, Nat.reduceSub, Nat.reduceLeDiff, true_and, and_true, decide_eq_true_eq, reduceIte, Bool.false_eq_true, Bool.not_true, Bool.not_false, decide_true, decide_false]
  refine (numof_ok hk hr nd).mono ?_
  rintro _ m ⟨rfl, rfl⟩
  try simp -dsimp only [at0, at1, at2, at3, at4, at5, at6, wp_fn, s_nil, s_brk, s_cnt, s_expr, s_ret, s_retN, s_if, s_asn, s_par, s_asg, g_nm, g_nil, g_cons, g_tupT, g_subW, w_v0, w_vS, w_c, w_op, w_un, w_anil, w_acons, w_tup, w_lst, w_call, w_callU, w_isi, w_meth, w_tru, w_bool, w_notS, w_andS, w_orS, w_ifx, w_andV, w_orV, w_notV, w_chain, wp_ok, wp_bad, wp_some, wp_none, wp_liftif, wp_if, asB_b, wp_noex, add_ii, sub_ii, mul_ii, fdiv_ii, mod_ii, pow_ii, neg_i, cmp_ii, lt_ii, le_ii, gt_ii, ge_ii, le_cc, muls_ii, muls_si, ins_cs, iadd_ii, isub_ii, w_onone, w_osome, w_sl, sl_s, sl_t, s_aug, eq_ss, len_s, ix_s, add_ss, str_s, tuple_t, list_t, is_n, not_n, non_n, non_i, non_b, non_s, non_t, non_r, abs_i, max_ii, min_ii, int_i, int_b, gcd_ii, len_t, ix_t, eq_v, ne_v, eq_ii, eq_bb, eq_nn, eq_in, eq_ni, iv_n_list, iv_n_tuple, iv_n_bool, iv_n_str, iv_n_int, okt_n, iv_b_list, iv_b_tuple, iv_b_bool, iv_b_str, iv_b_int, okt_b, iv_i_list, iv_i_tuple, iv_i_bool, iv_i_str, iv_i_int, okt_i, iv_s_list, iv_s_tuple, iv_s_bool, iv_s_str, iv_s_int, okt_s, iv_t_list, iv_t_tuple, iv_t_bool, iv_t_str, iv_t_int, okt_t, iv_r_list, iv_r_tuple, iv_r_bool, iv_r_str, iv_r_int, tru_b, tru_i, tru_n, tru_t, Option.map_some, Option.map_none, List.map_cons, List.map_nil, List.length_cons, List.length_nil, List.set_cons_zero, List.set_cons_succ, List.cons_append, List.nil_append, List.replicate, Nat.reduceAdd, Nat.reduceSub, Nat.reduceLeDiff, true_and, and_true, decide_eq_true_eq, reduceIte, Bool.false_eq_true, Bool.not_true, Bool.not_false, decide_true, decide_false]
  rw [s_seq]
  try simp -dsimp only [at0, at1, at2, at3, at4, at5, at6, wp_fn, s_nil, s_brk, s_cnt, s_expr, s_ret, s_retN, s_if, s_asn, s_par, s_asg, g_nm, g_nil, g_cons, g_tupT, g_subW, w_v0, w_vS, w_c, w_op, w_un, w_anil, w_acons, w_tup, w_lst, w_call, w_callU, w_isi, w_meth, w_tru, w_bool, w_notS, w_andS, w_orS, w_ifx, w_andV, w_orV, w_notV, w_chain, wp_ok, wp_bad, wp_some, wp_none, wp_liftif, wp_if, asB_b, wp_noex, add_ii, sub_ii, mul_ii, fdiv_ii, mod_ii, pow_ii, neg_i, cmp_ii, lt_ii, le_ii, gt_ii, ge_ii, le_cc, muls_ii, muls_si, ins_cs, iadd_ii, isub_ii, w_onone, w_osome, w_sl, sl_s, sl_t, s_aug, eq_ss, len_s, ix_s, add_ss, str_s, tuple_t, list_t, is_n, not_n, non_n, non_i, non_b, non_s, non_t, non_r, abs_i, max_ii, min_ii, int_i, int_b, gcd_ii, len_t, ix_t, eq_v, ne_v, eq_ii, eq_bb, eq_nn, eq_in, eq_ni, iv_n_list, iv_n_tuple, iv_n_bool, iv_n_str, iv_n_int, okt_n, iv_b_list, iv_b_tuple, iv_b_bool, iv_b_str, iv_b_int, okt_b, iv_i_list, iv_i_tuple, iv_i_bool, iv_i_str, iv_i_int, okt_i, iv_s_list, iv_s_tuple, iv_s_bool, iv_s_str, iv_s_int, okt_s, iv_t_list, iv_t_tuple, iv_t_bool, iv_t_str, iv_t_int, okt_t, iv_r_list, iv_r_tuple, iv_r_bool, iv_r_str, iv_r_int, tru_b, tru_i, tru_n, tru_t, Option.map_some, Option.map_none, List.map_cons, List.map_nil, List.length_cons, List.length_nil, List.set_cons_zero, List.set_cons_succ, List.cons_append, List.nil_append, List.replicate, Nat.reduceAdd, Nat.reduceSub, Nat.reduceLeDiff, true_and, and_true, decide_eq_true_eq, reduceIte, Bool.false_eq_true, Bool.not_true, Bool.not_false, decide_true, decide_false]
/-! ## the heap grows -/
structure Gr (m m' : MH) : Prop where
  len : m.length ≤ m'.length
  get : ∀ (n : Nat) (o : MO), m[n]? = some o → m'[n]? = some o
theorem Gr.refl {m : MH} : Gr m m := ⟨Nat.le_refl _, fun _ _ h => h⟩
theorem Gr.trans {m m1 m2 : MH} (h : Gr m m1) (h2 : Gr m1 m2) : Gr m m2 := ⟨Nat.le_trans h.len h2.len, fun n o e => h2.get n o (h.get n o e)⟩
theorem Gr.push {m m1 : MH} (h : Gr m m1) (o : MO) : Gr m (m1 ++ [o]) := ⟨by have := h.len; simp; omega, fun n u e => get_old (h.get n u e)⟩
theorem Gr.set {n : Nat} {m m1 : MH} {o : MO} (h : Gr m m1) (hn : m.length ≤ n) : Gr m (m1.set n o) := ⟨by simpa using h.len, fun k u q => by
  have hk := (List.getElem?_eq_some_iff.mp q).1
  rw [List.getElem?_set_ne (by omega)]; exact h.get k u q⟩
theorem Gr.new {m m' : MH} {o : MO} (h : Gr (m ++ [o]) m') : m'[m.length]? = some o := h.get _ _ get_new
theorem Gr.one {m : MH} {o : MO} : Gr m (m ++ [o]) := Gr.refl.push o
/-! ## rules for dicts and sorts -/
theorem s_dputT {sv sd : SE} {sk : SA} {l : SM.Loc} {m : MH} {D : ED} (h : WP (sv l m) (fun v m1 => WP (sd l m1) (fun x m2 => WP (sk l m2) (fun ks m3 => ∃ n a b kvs, x = .ref n ∧ ks = [.int a, .int b] ∧ m3[n]? = some (.dct kvs) ∧ kvs.length < 16777216 ∧ D.nx l (m3.set n (.dct (putD kvs [a, b] v)))) NoE) NoE) NoE) : WS (xDPutT sv sd sk l m) D := by
  obtain ⟨v, m1, e1, h⟩ := h.run
  obtain ⟨x, m2, e2, h⟩ := h.run
  obtain ⟨ks, m3, e3, n, a, b, kvs, rfl, rfl, hm, hl, q⟩ := h.run
  have e : xDPutT sv sd sk l m = .nx l (m3.set n (.dct (putD kvs [a, b] v))) := by
    unfold xDPutT
    rw [e1]; dsimp only [R.then]
    rw [e2]; dsimp only [R.then]
    rw [e3]; dsimp only [R.then]
    rw [hm]; dsimp only
    rw [if_pos hl]
  rw [e]
  unfold WS
  exact q
theorem s_dputK {sv sd sk : SE} {l : SM.Loc} {m : MH} {D : ED} (h : WP (sv l m) (fun v m1 => WP (sd l m1) (fun x m2 => WP (sk l m2) (fun k m3 => ∃ n a kvs, x = .ref n ∧ k = .int a ∧ m3[n]? = some (.dck kvs) ∧ kvs.length < 16777216 ∧ D.nx l (m3.set n (.dck (putD kvs a v)))) NoE) NoE) NoE) : WS (xDPutK sv sd sk l m) D := by
  obtain ⟨v, m1, e1, h⟩ := h.run
  obtain ⟨x, m2, e2, h⟩ := h.run
  obtain ⟨k, m3, e3, n, a, kvs, rfl, rfl, hm, hl, q⟩ := h.run
  have e : xDPutK sv sd sk l m = .nx l (m3.set n (.dck (putD kvs a v))) := by
    unfold xDPutK
    rw [e1]; dsimp only [R.then]
    rw [e2]; dsimp only [R.then]
    rw [e3]; dsimp only [R.then]
    rw [hm]; dsimp only
    rw [if_pos hl]
  rw [e]
  unfold WS
  exact q
theorem w_dnewT {l : SM.Loc} {m : MH} {Q : PV → MH → Prop} {E : EX} : WP (sDNewT l m) Q E = Q (.ref m.length) (m ++ [.dct []]) := by unfold sDNewT; rw [wp_ok]
theorem w_dnewK {l : SM.Loc} {m : MH} {Q : PV → MH → Prop} {E : EX} : WP (sDNewK l m) Q E = Q (.ref m.length) (m ++ [.dck []]) := by unfold sDNewK; rw [wp_ok]
theorem dget_r {m : MH} {n : Nat} {kvs : List (List Int × PV)} {a b : Int} {x : PV} (h : m[n]? = some (.dct kvs)) (hg : SM.getD kvs [a, b] = some x) : dgetv (.ref n) (.tup [.int a, .int b]) m = some (x, m) := by
  unfold dgetv; dsimp only; rw [h]; dsimp only; rw [hg]; rfl
theorem sortT_r {m : MH} {n : Nat} {kvs : List (List Int × PV)} (h : m[n]? = some (.dct kvs)) (ok : SortOk m (keyPVs kvs)) : sortedTv [.ref n] m = some (.ref m.length, m ++ [.lst (sortD m (keyPVs kvs))]) := by
  unfold sortedTv; dsimp only; rw [h]; dsimp only; rw [if_pos ok]
theorem sortD_r {m : MH} {n : Nat} {xs : List PV} (h : seq? m n = some xs) (ok : SortOk m xs) : sortedDv [.ref n] m = some (.ref m.length, m ++ [.lst (sortD m xs)]) := by
  unfold sortedDv; dsimp only; rw [h]; dsimp only; rw [if_pos ok]
theorem sum_t {m : MH} {ns : List Int} : sumv [.tup (ns.map .int)] m = some (.int ns.sum, m) := by
  unfold sumv; dsimp only; rw [SM.ints_map]; rfl
/-! ## the slips that count -/
def loftOf (B : List Bird) (t : Int) : Int := ((B.find? fun b => decide (b.ring = t)).map Bird.loft).getD 0
theorem ring_uniq {B : List Bird} {b c : Bird} (nd : (B.map Bird.ring).Nodup) (hb : b ∈ B) (hc : c ∈ B) (e : b.ring = c.ring) : b = c := by
  obtain ⟨i, hi⟩ := List.getElem?_of_mem hb
  obtain ⟨j, hj⟩ := List.getElem?_of_mem hc
  have l1 := (List.getElem?_eq_some_iff.mp hi).1
  have := (List.getElem?_inj (l := B.map Bird.ring) (i := i) (j := j) (by rw [List.length_map]; exact l1) nd).mp (by
    rw [List.getElem?_map, List.getElem?_map, hi, hj]
    show some b.ring = some c.ring
    rw [e])
  subst this
  rw [hi] at hj
  exact Option.some.inj hj
theorem loft_of {B : List Bird} {bd : Bird} {t : Int} (hb : bd ∈ B) (hr : bd.ring = t) (nd : (B.map Bird.ring).Nodup) : loftOf B t = bd.loft := by
  unfold loftOf
  cases hf : B.find? fun b => decide (b.ring = t) with
  | none =>
    have := List.find?_eq_none.mp hf bd hb
    simp [hr] at this
  | some c =>
    have h1 := List.mem_of_find?_eq_some hf
    have h2 := List.find?_some hf
    simp at h2
    rw [ring_uniq nd h1 hb (by rw [h2, hr])]
    rfl
theorem _root_.SM.WG.mono {o : Option (SM.Loc × MH)} {Q Q' : SM.Loc → MH → Prop} (h : WG o Q) (i : ∀ l m, Q l m → Q' l m) : WG o Q' := by
  unfold WG at h ⊢
  cases o with
  | none => exact h
  | some p => exact i _ _ h
/-! ## comprehensions with a test -/
theorem lc_fL {α : Type} {f gg : α → PV} {p : α → Bool} {l : SM.Loc} {m : MH} {g : STg} {vs : List Nat} {Q : PV → MH → Prop} {E : EX} {se : SE} {te : SB} {be : SE}
    (h : WP (se l m) (fun x m1 => ∃ (n : Nat) (xs : List α), x = .ref n ∧ m1[n]? = some (.lst (xs.map f)) ∧ xs.length ≤ 10000 ∧
      (∀ x ∈ xs, ∀ m2, Gr m1 m2 → WG (g (f x) (wipeP l vs) m2) (fun l1 m' => WP (te l1 m') (fun b m3 => b = p x ∧ Gr m2 m3 ∧ (p x = true → WP (be l1 m3) (fun y m4 => y = gg x ∧ Gr m3 m4) NoE)) NoE)) ∧
      ∀ m2, Gr m1 m2 → m2[m1.length]? = some (.lst ((xs.filter p).map gg)) → Q (.ref m1.length) m2) NoE) : WP (sLc (iSeq se) g te be vs l m) Q E := by
  refine w_lcL (h.mono ?_)
  rintro _ m1 ⟨n, xs, rfl, hn, hl, hb, q⟩
  refine ⟨n, _, rfl, seq_of_lst hn, fun j acc m2 => acc = ((xs.take j).filter p).map gg ∧ Gr m1 m2, ⟨rfl, Gr.one⟩, ?_, ?_⟩
  · rintro j x acc m2 hx ha ⟨rfl, G⟩
    refine ⟨seq_of_lst (G.get _ _ hn), ?_⟩
    rw [List.getElem?_map] at hx
    cases es : xs[j]? with
    | none => rw [es] at hx; cases hx
    | some r =>
    rw [es] at hx
    cases hx
    have hj := (List.getElem?_eq_some_iff.mp es).1
    have et : xs.take (j + 1) = xs.take j ++ [r] := by rw [List.take_succ, es]; rfl
    have hl2 : ((xs.take j).filter p).length ≤ 10000 := Nat.le_trans (List.length_filter_le _ _) (by rw [List.length_take]; omega)
    refine (hb r (List.mem_of_getElem? es) m2 G).mono ?_
    intro l1 m' hw
    refine hw.mono ?_
    rintro _ m3 ⟨rfl, G3, hw⟩
    by_cases c : p r = true
    · rw [if_pos c]
      refine (hw c).mono ?_
      rintro _ m4 ⟨rfl, G4⟩
      exact ⟨(G3.trans G4).get _ _ ha, by rw [List.length_map]; omega, by rw [et, List.filter_append, List.map_append]; simp [c], (G.trans (G3.trans G4)).set (Nat.le_refl _)⟩
    · rw [if_neg c]
      exact ⟨G3.get _ _ ha, by rw [et, List.filter_append]; simp [c], G.trans G3⟩
  · rintro acc m2 ha ⟨rfl, G⟩
    rw [List.length_map, List.take_length] at ha
    exact ⟨seq_of_lst (G.get _ _ hn), q m2 G ha⟩
theorem lc_fT {α : Type} {f gg : α → PV} {p : α → Bool} {l : SM.Loc} {m : MH} {g : STg} {vs : List Nat} {Q : PV → MH → Prop} {E : EX} {se : SE} {te : SB} {be : SE}
    (h : WP (se l m) (fun x m1 => ∃ (xs : List α), x = .tup (xs.map f) ∧ xs.length ≤ 10000 ∧
      (∀ x ∈ xs, ∀ m2, Gr m1 m2 → WG (g (f x) (wipeP l vs) m2) (fun l1 m' => WP (te l1 m') (fun b m3 => b = p x ∧ Gr m2 m3 ∧ (p x = true → WP (be l1 m3) (fun y m4 => y = gg x ∧ Gr m3 m4) NoE)) NoE)) ∧
      ∀ m2, Gr m1 m2 → m2[m1.length]? = some (.lst ((xs.filter p).map gg)) → Q (.ref m1.length) m2) NoE) : WP (sLc (iSeq se) g te be vs l m) Q E := by
  refine w_lcT (h.mono ?_)
  rintro _ m1 ⟨xs, rfl, hl, hb, q⟩
  refine ⟨_, rfl, fun j acc m2 => acc = ((xs.take j).filter p).map gg ∧ Gr m1 m2, ⟨rfl, Gr.one⟩, ?_, ?_⟩
  · rintro j x acc m2 hx ha ⟨rfl, G⟩
    rw [List.getElem?_map] at hx
    cases es : xs[j]? with
    | none => rw [es] at hx; cases hx
    | some r =>
    rw [es] at hx
    cases hx
    have hj := (List.getElem?_eq_some_iff.mp es).1
    have et : xs.take (j + 1) = xs.take j ++ [r] := by rw [List.take_succ, es]; rfl
    have hl2 : ((xs.take j).filter p).length ≤ 10000 := Nat.le_trans (List.length_filter_le _ _) (by rw [List.length_take]; omega)
    refine (hb r (List.mem_of_getElem? es) m2 G).mono ?_
    intro l1 m' hw
    refine hw.mono ?_
    rintro _ m3 ⟨rfl, G3, hw⟩
    by_cases c : p r = true
    · rw [if_pos c]
      refine (hw c).mono ?_
      rintro _ m4 ⟨rfl, G4⟩
      exact ⟨(G3.trans G4).get _ _ ha, by rw [List.length_map]; omega, by rw [et, List.filter_append, List.map_append]; simp [c], (G.trans (G3.trans G4)).set (Nat.le_refl _)⟩
    · rw [if_neg c]
      exact ⟨G3.get _ _ ha, by rw [et, List.filter_append]; simp [c], G.trans G3⟩
  · rintro acc m2 ha ⟨rfl, G⟩
    rw [List.length_map, List.take_length] at ha
    exact q m2 G ha
theorem filter_tt {α : Type} {xs : List α} : (xs.filter fun _ => true) = xs := List.filter_eq_self.mpr fun _ _ => rfl
/-! ## the last of each key -/
section
variable {α : Type} {key : α → List Int} {val : α → PV}
def lasts (key : α → List Int) : List α → List α
  | [] => []
  | x :: xs => if key x ∈ xs.map key then lasts key xs else x :: lasts key xs
theorem lasts_sub {key : α → List Int} : ∀ {xs : List α} {y : α}, y ∈ lasts key xs → y ∈ xs
  | x :: xs, y, h => by
    unfold lasts at h
    split at h
    · exact List.mem_cons_of_mem _ (lasts_sub h)
    · rcases List.mem_cons.mp h with rfl | h
      · exact List.mem_cons_self
      · exact List.mem_cons_of_mem _ (lasts_sub h)
theorem lasts_len {key : α → List Int} : ∀ {xs : List α}, (lasts key xs).length ≤ xs.length
  | [] => Nat.le_refl _
  | x :: xs => by
    unfold lasts
    split
    · have := lasts_len (key := key) (xs := xs); simp; omega
    · have := lasts_len (key := key) (xs := xs); simp; omega
theorem lasts_nodup : ∀ {xs : List α}, ((lasts key xs).map key).Nodup
  | [] => .nil
  | x :: xs => by
    unfold lasts
    split
    · exact lasts_nodup
    · rename_i h
      rw [List.map_cons]
      refine List.nodup_cons.mpr ⟨fun z => h ?_, lasts_nodup⟩
      obtain ⟨y, hy, e⟩ := List.mem_map.mp z
      exact List.mem_map.mpr ⟨y, lasts_sub hy, e⟩
theorem filter_none {k : List Int} : ∀ {xs : List α}, k ∉ xs.map key → (xs.filter fun y => decide (key y ≠ k)) = xs
  | [], _ => rfl
  | x :: xs, h => by
    rw [List.map_cons, List.mem_cons, not_or] at h
    rw [List.filter_cons_of_pos (by simpa using fun e => h.1 e.symm), filter_none h.2]
theorem lasts_snoc {s : α} : ∀ {xs : List α}, lasts key (xs ++ [s]) = ((lasts key xs).filter fun y => decide (key y ≠ key s)) ++ [s]
  | [] => by simp [lasts]
  | x :: xs => by
    rw [List.cons_append]
    unfold lasts
    have e : key x ∈ (xs ++ [s]).map key ↔ key x ∈ xs.map key ∨ key x = key s := by rw [List.map_append, List.map_cons, List.map_nil, List.mem_append, List.mem_singleton]
    by_cases h1 : key x ∈ xs.map key
    · rw [if_pos (e.mpr (.inl h1)), if_pos h1, lasts_snoc]
    · rw [if_neg h1]
      by_cases h2 : key x = key s
      · rw [if_pos (e.mpr (.inr h2)), lasts_snoc, List.filter_cons_of_neg (by simpa using h2)]
      · rw [if_neg (fun z => (e.mp z).elim h1 h2), List.filter_cons_of_pos (by simpa using h2), lasts_snoc, List.cons_append]
theorem put_map {κ : Type} [DecidableEq κ] {k : κ} {v : PV} : ∀ {kvs : List (κ × PV)}, (kvs.map (·.1)).Nodup → k ∈ kvs.map (·.1) → (kvs.map fun p => if p.1 = k then (p.1, v) else p).Perm ((kvs.filter fun p => decide (p.1 ≠ k)) ++ [(k, v)])
  | [], _, h => by cases h
  | p :: kvs, nd, h => by
    rw [List.map_cons] at nd h
    obtain ⟨n1, n2⟩ := List.nodup_cons.mp nd
    by_cases c : p.1 = k
    · have c' : k ∉ kvs.map (·.1) := c ▸ n1
      have e1 : (kvs.map fun p => if p.1 = k then (p.1, v) else p) = kvs := by
        conv => rhs; rw [← List.map_id kvs]
        refine List.map_congr_left fun q hq => ?_
        rw [if_neg fun z => c' (List.mem_map.mpr ⟨q, hq, z⟩)]; rfl
      have e2 : (kvs.filter fun p => decide (p.1 ≠ k)) = kvs := List.filter_eq_self.mpr fun q hq => by
        simpa using fun z => c' (List.mem_map.mpr ⟨q, hq, z⟩)
      rw [List.map_cons, if_pos c, List.filter_cons_of_neg (by simpa using c), e1, e2, c]
      exact (List.perm_append_singleton (k, v) kvs).symm
    · rw [List.map_cons, if_neg c, List.filter_cons_of_pos (by simpa using c), List.cons_append]
      refine .cons _ (put_map n2 ?_)
      rcases List.mem_cons.mp h with z | z
      · exact absurd z.symm c
      · exact z
theorem put_perm {κ : Type} [DecidableEq κ] {k : κ} {v : PV} {kvs : List (κ × PV)} (nd : (kvs.map (·.1)).Nodup) : (SM.putD kvs k v).Perm ((kvs.filter fun p => decide (p.1 ≠ k)) ++ [(k, v)]) := by
  unfold SM.putD
  by_cases c : (kvs.any fun p => decide (p.1 = k)) = true
  · rw [if_pos c]
    obtain ⟨q, hq, e⟩ := List.any_eq_true.mp c
    exact put_map nd (List.mem_map.mpr ⟨q, hq, of_decide_eq_true e⟩)
  · rw [if_neg c]
    have e2 : (kvs.filter fun p => decide (p.1 ≠ k)) = kvs := List.filter_eq_self.mpr fun q hq => by
      have : ¬ q.1 = k := fun z => c (List.any_eq_true.mpr ⟨q, hq, decide_eq_true z⟩)
      simpa using this
    rw [e2]
def ent (key : α → List Int) (val : α → PV) (x : α) : List Int × PV := (key x, val x)
def putAll (key : α → List Int) (val : α → PV) (xs : List α) : List (List Int × PV) := xs.foldl (fun kvs x => SM.putD kvs (key x) (val x)) []
theorem putAll_snoc {xs : List α} {s : α} : putAll key val (xs ++ [s]) = SM.putD (putAll key val xs) (key s) (val s) := by unfold putAll; rw [List.foldl_append]; rfl
theorem ent_keys (xs : List α) : (xs.map (ent key val)).map (·.1) = xs.map key := by rw [List.map_map]; rfl
theorem putAll_perm_aux : ∀ (n : Nat) (xs : List α), xs.length = n → (putAll key val xs).Perm ((lasts key xs).map (ent key val))
  | 0, xs, h => by rw [List.eq_nil_of_length_eq_zero h]; exact .nil
  | n + 1, xs, h => by
    obtain ⟨ys, s, rfl⟩ : ∃ ys s, xs = ys ++ [s] := ⟨xs.dropLast, xs.getLast (by intro z; rw [z] at h; cases h), (List.dropLast_concat_getLast _).symm⟩
    have ih := putAll_perm_aux n ys (by simpa using h)
    have nd : ((putAll key val ys).map (·.1)).Nodup := (ih.map (·.1)).nodup_iff.mpr (by rw [ent_keys]; exact lasts_nodup)
    rw [putAll_snoc, lasts_snoc, List.map_append]
    refine (put_perm nd).trans (.append ?_ (.refl _))
    have := ih.filter fun p => decide (p.1 ≠ key s)
    refine this.trans ?_
    rw [List.filter_map]
    exact .refl _
theorem putAll_perm (xs : List α) : (putAll key val xs).Perm ((lasts key xs).map (ent key val)) := putAll_perm_aux _ xs rfl
theorem putAll_nodup (xs : List α) : ((putAll key val xs).map (·.1)).Nodup := ((putAll_perm xs).map (·.1)).nodup_iff.mpr (by rw [ent_keys]; exact lasts_nodup)
theorem get_nodup {κ : Type} [DecidableEq κ] : ∀ {kvs : List (κ × PV)} {p : κ × PV}, (kvs.map (·.1)).Nodup → p ∈ kvs → SM.getD kvs p.1 = some p.2
  | q :: kvs, p, nd, h => by
    rw [List.map_cons] at nd
    obtain ⟨n1, n2⟩ := List.nodup_cons.mp nd
    unfold SM.getD
    rw [List.find?_cons]
    rcases List.mem_cons.mp h with rfl | h
    · rw [decide_eq_true rfl]; rfl
    · rw [decide_eq_false fun z => n1 (List.mem_map.mpr ⟨p, h, z.symm⟩)]
      exact get_nodup n2 h
/-! the order of keys -/
def kle (a b : List Int) : Bool := decide (a ≤ b)
theorem kle_anti {a b : List Int} (h1 : kle a b = true) (h2 : kle b a = true) : a = b := List.le_antisymm (of_decide_eq_true h1) (of_decide_eq_true h2)
theorem kle_trans (a b c : List Int) (h1 : kle a b = true) (h2 : kle b c = true) : kle a c = true := decide_eq_true (List.le_trans (of_decide_eq_true h1) (of_decide_eq_true h2))
theorem kle_total (a b : List Int) : (kle a b || kle b a) = true := by
  rcases List.le_total a b with h | h
  · rw [show kle a b = true from decide_eq_true h]; rfl
  · rw [show kle b a = true from decide_eq_true h]; simp
/-- two sorted rows of the same entries, each key once -/
theorem perm_sorted {β : Type} {key : β → List Int} : ∀ {xs ys : List β}, (xs.map key).Nodup → xs.Perm ys → xs.Pairwise (fun x y => kle (key x) (key y) = true) → ys.Pairwise (fun x y => kle (key x) (key y) = true) → xs = ys
  | [], ys, _, p, _, _ => by rw [p.nil_eq]
  | x :: xs, [], _, p, _, _ => by cases p.symm.nil_eq
  | x :: xs, y :: ys, nd, p, h1, h2 => by
    rw [List.map_cons] at nd
    obtain ⟨n1, n2⟩ := List.nodup_cons.mp nd
    obtain ⟨a1, a2⟩ := List.pairwise_cons.mp h1
    obtain ⟨b1, b2⟩ := List.pairwise_cons.mp h2
    have hyx : y ∈ x :: xs := p.mem_iff.mpr List.mem_cons_self
    have hxy : x ∈ y :: ys := p.mem_iff.mp List.mem_cons_self
    have exy : x = y := by
      rcases List.mem_cons.mp hyx with e | hy
      · exact e.symm
      · rcases List.mem_cons.mp hxy with e | hx
        · exact e
        · have e := kle_anti (a1 y hy) (b1 x hx)
          exact absurd (List.mem_map.mpr ⟨y, hy, e.symm⟩) n1
    subst exy
    rw [perm_sorted n2 (List.Perm.cons_inv p) a2 b2]
/-- the last of each key, in the order of the keys -/
def cntL (key : α → List Int) (xs : List α) : List α := (lasts key xs).mergeSort fun x y => kle (key x) (key y)
theorem cntL_perm {key : α → List Int} {xs : List α} : (cntL key xs).Perm (lasts key xs) := List.mergeSort_perm _ _
theorem cntL_pair {key : α → List Int} {xs : List α} : (cntL key xs).Pairwise fun x y => kle (key x) (key y) = true := List.pairwise_mergeSort (le := fun x y => kle (key x) (key y)) (fun x y z => kle_trans (key x) (key y) (key z)) (fun x y => kle_total (key x) (key y)) _
theorem cntL_mem {key : α → List Int} {xs : List α} {x : α} (h : x ∈ cntL key xs) : x ∈ xs := lasts_sub (cntL_perm.mem_iff.mp h)
theorem cntL_len {key : α → List Int} {xs : List α} : (cntL key xs).length ≤ xs.length := by rw [cntL_perm.length_eq]; exact lasts_len
theorem cntL_nodup {key : α → List Int} {xs : List α} : ((cntL key xs).map key).Nodup := ((cntL_perm (xs := xs)).map key).nodup_iff.mpr lasts_nodup
theorem sortE_pair {kvs : List (List Int × PV)} : (kvs.mergeSort fun p q => kle p.1 q.1).Pairwise fun p q => kle p.1 q.1 = true := List.pairwise_mergeSort (le := fun (p q : List Int × PV) => kle p.1 q.1) (fun x y z => kle_trans x.1 y.1 z.1) (fun x y => kle_total x.1 y.1) _
theorem ent_pair {xs : List α} (h : xs.Pairwise fun x y => kle (key x) (key y) = true) : (xs.map (ent key val)).Pairwise fun p q => kle p.1 q.1 = true := List.pairwise_map.mpr h
theorem putAll_sort (xs : List α) : ((putAll key val xs).mergeSort fun p q => kle p.1 q.1) = (cntL key xs).map (ent key val) := by
  have p1 := List.mergeSort_perm (putAll key val xs) fun p q => kle p.1 q.1
  refine perm_sorted (key := fun p => p.1) ((p1.map (·.1)).nodup_iff.mpr (putAll_nodup xs)) (p1.trans ((putAll_perm xs).trans (cntL_perm.symm.map _))) sortE_pair (ent_pair cntL_pair)
end
/-! ## sorts by keys -/
def tupI (k : List Int) : PyData := .tuple (k.map .int)
theorem kle_data (x y : List Int) : PySem.W.dataLt (tupI x) (tupI y) = decide (x < y) := by
  unfold tupI
  rw [PySem.W.dataLt_tuple]
  exact PySem.W.dataLt_ints x y
theorem kle_eq (x y : List Int) : (!PySem.W.dataLt (tupI y) (tupI x)) = kle x y := by
  rw [kle_data]
  unfold kle
  by_cases h : y < x
  · have h' : ¬ x ≤ y := fun r => List.not_lt.mpr r h
    simp [h, h']
  · have h' : x ≤ y := List.not_lt.mp h
    simp [h, h']
theorem sortBy {α : Type} {m : MH} {pv : α → PV} {key : α → List Int} {xs : List α} (D : α → PyData) (h : ∀ x, D x = tupI (key x)) :
    (((xs.map fun x => (pv x, D x)).mergeSort (PySem.W.dataLe false (·.2))).map (·.1)) = (xs.mergeSort fun x y => kle (key x) (key y)).map pv := by
  rw [← List.map_mergeSort (r := fun x y => kle (key x) (key y)) (f := fun x => (pv x, D x)) ?_, List.map_map]
  · rfl
  · intro a _ b _
    show _ = !PySem.W.dataLt (D b) (D a)
    rw [h, h, kle_eq]
theorem sorted_by {α : Type} {m : MH} {pv : α → PV} {key : α → List Int} {xs : List α} (h : ∀ x, dOf m (pv x) = tupI (key x)) : sortD m (xs.map pv) = (xs.mergeSort fun x y => kle (key x) (key y)).map pv := by
  unfold sortD
  rw [List.map_map]
  exact sortBy (m := m) (fun x => dOf m (pv x)) h
theorem sortedK_by {α : Type} {g : FS} {m : MH} {pv : α → PV} {key : α → List Int} {xs : List α} (h : ∀ x, dOf m (keyOf g m (pv x)) = tupI (key x)) : sortK g m (xs.map pv) = (xs.mergeSort fun x y => kle (key x) (key y)).map pv := by
  unfold sortK
  rw [List.map_map]
  exact sortBy (m := m) (fun x => dOf m (keyOf g m (pv x))) h
theorem sortOk_by {m : MH} {xs : List PV} (h : ∀ x ∈ xs, ∃ a b : Int, x = .tup [.int a, .int b]) : SortOk m xs := by
  have dat : ∀ d ∈ xs.map (dOf m), ∃ a b : Int, d = .tuple [.int a, .int b] := by
    intro d hd
    obtain ⟨x, hx, rfl⟩ := List.mem_map.mp hd
    obtain ⟨a, b, rfl⟩ := h x hx
    exact ⟨a, b, rfl⟩
  refine ⟨fun x hx => ?_, fun d hd d' hd' => ?_, .inl fun d hd => ?_, fun x hx => ?_⟩
  · obtain ⟨a, b, rfl⟩ := h x hx
    exact ⟨_, rfl⟩
  · obtain ⟨a, b, rfl⟩ := dat d hd
    obtain ⟨a', b', rfl⟩ := dat d' hd'
    rfl
  · obtain ⟨a, b, rfl⟩ := dat d hd
    exact ⟨_, _, rfl⟩
  · obtain ⟨a, b, rfl⟩ := h x hx
    show (PyData.tuple [.int a, .int b]).depth ≤ 60
    simp [PyData.depth, PyData.depthAll]
theorem keys_sort {m : MH} {kvs : List (List Int × PV)} (h : ∀ p ∈ kvs, ∃ a b : Int, p.1 = [a, b]) : sortD m (keyPVs kvs) = keyPVs (kvs.mergeSort fun p q => kle p.1 q.1) := by
  have e : ∀ kvs : List (List Int × PV), (∀ p ∈ kvs, ∃ a b : Int, p.1 = [a, b]) → ∃ ps : List ((Int × Int) × PV), kvs = ps.map fun p => ([p.1.1, p.1.2], p.2) := by
    intro kvs h
    induction kvs with
    | nil => exact ⟨[], rfl⟩
    | cons p kvs ih =>
      obtain ⟨ps, e⟩ := ih fun q hq => h q (List.mem_cons_of_mem _ hq)
      obtain ⟨a, b, e2⟩ := h p List.mem_cons_self
      exact ⟨((a, b), p.2) :: ps, by rw [List.map_cons, ← e]; cases p; dsimp only at e2; subst e2; rfl⟩
  obtain ⟨ps, rfl⟩ := e kvs h
  unfold keyPVs
  rw [List.map_map, sorted_by (key := fun p : (Int × Int) × PV => [p.1.1, p.1.2]) fun x => rfl]
  rw [← List.map_mergeSort (r := fun x y : (Int × Int) × PV => kle [x.1.1, x.1.2] [y.1.1, y.1.2]) (f := fun p : (Int × Int) × PV => ([p.1.1, p.1.2], p.2)) fun _ _ _ _ => rfl, List.map_map]
/-! ## the program's counting -/
section
variable {α : Type} {pv : α → PV} {ka kb : α → Int} {rest : α → List PV}
abbrev k2 (ka kb : α → Int) (x : α) : List Int := [ka x, kb x]
theorem putAll_len (xs : List α) : (putAll (k2 ka kb) pv xs).length ≤ xs.length := by rw [(putAll_perm xs).length_eq, List.length_map]; exact lasts_len
theorem putAll_key {xs : List α} {p : List Int × PV} (h : p ∈ putAll (k2 ka kb) pv xs) : ∃ x ∈ xs, p = ([ka x, kb x], pv x) := by
  obtain ⟨x, hx, rfl⟩ := List.mem_map.mp ((putAll_perm xs).mem_iff.mp h)
  exact ⟨x, lasts_sub hx, rfl⟩
theorem counting_okG {m : MH} {n : Nat} {xs : List α} (hpv : ∀ x, pv x = .tup (.int (ka x) :: .int (kb x) :: rest x)) (h : m[n]? = some (.lst (xs.map pv))) (hl : xs.length ≤ 1000) :
    WP (f_counting [.ref n] m) (fun x m' => ∃ k, x = .ref k ∧ m'[k]? = some (.lst ((cntL (k2 ka kb) xs).map pv)) ∧ m.length ≤ k ∧ Gr m m') NoE := by
  have hn := (List.getElem?_eq_some_iff.mp h).1
  unfold f_counting b_counting
  walk_at "w1"
  rw [s_seq]
  try simp -dsimp only [w_dnewT, at0, at1, at2, at3, at4, at5, at6, wp_fn, s_nil, s_brk, s_cnt, s_expr, s_ret, s_retN, s_if, s_asn, s_par, s_asg, g_nm, g_nil, g_cons, g_tupT, g_subW, w_v0, w_vS, w_c, w_op, w_un, w_anil, w_acons, w_tup, w_lst, w_call, w_callU, w_isi, w_meth, w_tru, w_bool, w_notS, w_andS, w_orS, w_ifx, w_andV, w_orV, w_notV, w_chain, wp_ok, wp_bad, wp_some, wp_none, wp_liftif, wp_if, asB_b, wp_noex, add_ii, sub_ii, mul_ii, fdiv_ii, mod_ii, pow_ii, neg_i, cmp_ii, lt_ii, le_ii, gt_ii, ge_ii, le_cc, muls_ii, muls_si, ins_cs, iadd_ii, isub_ii, w_onone, w_osome, w_sl, sl_s, sl_t, s_aug, eq_ss, len_s, ix_s, add_ss, str_s, tuple_t, list_t, is_n, not_n, non_n, non_i, non_b, non_s, non_t, non_r, abs_i, max_ii, min_ii, int_i, int_b, gcd_ii, len_t, ix_t, eq_v, ne_v, eq_ii, eq_bb, eq_nn, eq_in, eq_ni, iv_n_list, iv_n_tuple, iv_n_bool, iv_n_str, iv_n_int, okt_n, iv_b_list, iv_b_tuple, iv_b_bool, iv_b_str, iv_b_int, okt_b, iv_i_list, iv_i_tuple, iv_i_bool, iv_i_str, iv_i_int, okt_i, iv_s_list, iv_s_tuple, iv_s_bool, iv_s_str, iv_s_int, okt_s, iv_t_list, iv_t_tuple, iv_t_bool, iv_t_str, iv_t_int, okt_t, iv_r_list, iv_r_tuple, iv_r_bool, iv_r_str, iv_r_int, tru_b, tru_i, tru_n, tru_t, Option.map_some, Option.map_none, List.map_cons, List.map_nil, List.length_cons, List.length_nil, List.set_cons_zero, List.set_cons_succ, List.cons_append, List.nil_append, List.replicate, Nat.reduceAdd, Nat.reduceSub, Nat.reduceLeDiff, true_and, and_true, decide_eq_true_eq, reduceIte, Bool.false_eq_true, Bool.not_true, Bool.not_false, decide_true, decide_false]
  rw [s_seq]
  refine s_forLW ?_
  walk_at "w1"
  refine ⟨_, _, rfl, seq_of_lst (get_old h), fun i l m' => ∃ x2, l = [some (.ref n), some (.ref m.length), x2, none] ∧ m'[m.length]? = some (.dct (putAll (k2 ka kb) pv (xs.take i))) ∧ Gr m m', ⟨_, rfl, get_new, Gr.one⟩, ?_, ?_, ?_⟩
  · rintro i l m' ⟨x2, rfl, hd, G⟩
    exact seq_of_lst (G.get _ _ h)
  · rintro i x l m' hx ⟨x2, rfl, hd, G⟩
    rw [List.getElem?_map] at hx
    cases es : xs[i]? with
    | none => rw [es] at hx; cases hx
    | some s =>
    rw [es] at hx
    cases hx
    have hi := (List.getElem?_eq_some_iff.mp es).1
    have et : xs.take (i + 1) = xs.take i ++ [s] := by rw [List.take_succ, es]; rfl
    have hk := putAll_len (pv := pv) (ka := ka) (kb := kb) (xs.take i)
    rw [List.length_take] at hk
    unfold counting_l1
    walk_at "w1"
    refine s_dputT ?_
    rw [hpv]
    try simp -dsimp only [at0, at1, at2, at3, at4, at5, at6, wp_fn, s_nil, s_brk, s_cnt, s_expr, s_ret, s_retN, s_if, s_asn, s_par, s_asg, g_nm, g_nil, g_cons, g_tupT, g_subW, w_v0, w_vS, w_c, w_op, w_un, w_anil, w_acons, w_tup, w_lst, w_call, w_callU, w_isi, w_meth, w_tru, w_bool, w_notS, w_andS, w_orS, w_ifx, w_andV, w_orV, w_notV, w_chain, wp_ok, wp_bad, wp_some, wp_none, wp_liftif, wp_if, asB_b, wp_noex, add_ii, sub_ii, mul_ii, fdiv_ii, mod_ii, pow_ii, neg_i, cmp_ii, lt_ii, le_ii, gt_ii, ge_ii, le_cc, muls_ii, muls_si, ins_cs, iadd_ii, isub_ii, w_onone, w_osome, w_sl, sl_s, sl_t, s_aug, eq_ss, len_s, ix_s, add_ss, str_s, tuple_t, list_t, is_n, not_n, non_n, non_i, non_b, non_s, non_t, non_r, abs_i, max_ii, min_ii, int_i, int_b, gcd_ii, len_t, ix_t, eq_v, ne_v, eq_ii, eq_bb, eq_nn, eq_in, eq_ni, iv_n_list, iv_n_tuple, iv_n_bool, iv_n_str, iv_n_int, okt_n, iv_b_list, iv_b_tuple, iv_b_bool, iv_b_str, iv_b_int, okt_b, iv_i_list, iv_i_tuple, iv_i_bool, iv_i_str, iv_i_int, okt_i, iv_s_list, iv_s_tuple, iv_s_bool, iv_s_str, iv_s_int, okt_s, iv_t_list, iv_t_tuple, iv_t_bool, iv_t_str, iv_t_int, okt_t, iv_r_list, iv_r_tuple, iv_r_bool, iv_r_str, iv_r_int, tru_b, tru_i, tru_n, tru_t, Option.map_some, Option.map_none, List.map_cons, List.map_nil, List.length_cons, List.length_nil, List.set_cons_zero, List.set_cons_succ, List.cons_append, List.nil_append, List.replicate, Nat.reduceAdd, Nat.reduceSub, Nat.reduceLeDiff, true_and, and_true, decide_eq_true_eq, reduceIte, Bool.false_eq_true, Bool.not_true, Bool.not_false, decide_true, decide_false]
    refine ⟨_, _, _, _, rfl, rfl, hd, by omega, _, rfl, ?_, G.set (Nat.le_refl _)⟩
    rw [get_set_eq hd, et, putAll_snoc, hpv]
  · rintro l m' ⟨x2, rfl, hd, G⟩
    rw [List.length_map, List.take_length] at hd
    have hk := putAll_len (pv := pv) (ka := ka) (kb := kb) xs
    walk_at "w1"
    have hkey : ∀ p ∈ putAll (k2 ka kb) pv xs, ∃ a b : Int, p.1 = [a, b] := fun p hp => by
      obtain ⟨x, _, rfl⟩ := putAll_key hp
      exact ⟨_, _, rfl⟩
    have ok : SortOk m' (keyPVs (putAll (k2 ka kb) pv xs)) := sortOk_by fun x hx => by
      obtain ⟨p, hp, rfl⟩ := List.mem_map.mp hx
      obtain ⟨y, _, rfl⟩ := putAll_key hp
      exact ⟨_, _, rfl⟩
    have nd := putAll_nodup (key := k2 ka kb) (val := pv) xs
    refine w_lcL ?_
    walk_at "w1"
    rw [sortT_r hd ok, keys_sort hkey]
    walk_at "w1"
    have pm := List.mergeSort_perm (putAll (k2 ka kb) pv xs) fun p q => kle p.1 q.1
    have esrt := putAll_sort (key := k2 ka kb) (val := pv) xs
    generalize hso : ((putAll (k2 ka kb) pv xs).mergeSort fun p q => kle p.1 q.1) = so at *
    refine ⟨_, _, rfl, seq_of_lst get_new, fun i acc m2 => acc = (so.take i).map (·.2) ∧ Gr (m' ++ [.lst (keyPVs so)]) m2, ⟨rfl, Gr.one⟩, ?_, ?_⟩
    · rintro i x acc m2 hx ha ⟨rfl, G2⟩
      refine ⟨seq_of_lst (G2.new), ?_⟩
      unfold keyPVs at hx
      rw [List.getElem?_map] at hx
      cases ep : so[i]? with
      | none => rw [ep] at hx; cases hx
      | some p =>
      rw [ep] at hx
      cases hx
      have hil := (List.getElem?_eq_some_iff.mp ep).1
      have hp := pm.mem_iff.mp (List.mem_of_getElem? ep)
      have hg := get_nodup nd hp
      have hsl : so.length ≤ xs.length := by rw [pm.length_eq]; exact hk
      obtain ⟨y, _, e⟩ := putAll_key hp
      have et : so.take (i + 1) = so.take i ++ [p] := by rw [List.take_succ, ep]; rfl
      subst e
      have hd2 := G2.get _ _ (get_old hd)
      walk_at "w1"
      simp only [wipeP]
      walk_at "w1"
      rw [w_yes, if_pos rfl]
      walk_at "w1"
      rw [dget_r hd2 hg]
      walk_at "w1"
      refine ⟨ha, by rw [List.length_map, List.length_take]; omega, by rw [et, List.map_append]; rfl, G2.set (Nat.le_refl _)⟩
    · rintro acc m2 ha ⟨rfl, G2⟩
      refine ⟨seq_of_lst G2.new, _, rfl, ?_, ?_, ?_⟩
      · rw [ha]
        unfold keyPVs
        rw [List.length_map, List.take_length, esrt, List.map_map]
        rfl
      · have := G.len; simp; omega
      · exact ⟨by have := G.len; have := G2.len; simp at this; omega, fun z o e => G2.get _ _ (get_old (G.get _ _ e))⟩
end
structure Slp where
  race : Nat
  ring : Int
  rd : PV
def Slp.pv (s : Slp) : PV := .tup [.int (s.race : Nat), .int s.ring, s.rd]
/-! ## the speed of a slip -/
structure ClkG (L : List Loft) (R : List Race) (c : Clk) : Prop where
  race : c.race < R.length
  loft : c.loft < L.length
  b0 : 0 ≤ c.b
  b1 : c.b < c.e
  e : c.e ≤ 9999
  s0 : c.b < c.s
  s1 : c.s ≤ 9999
structure SlG (B : List Bird) (s : Slp) : Prop where
  ring : ∃ (k : Nat) (bd : Bird), B[k]? = some bd ∧ bd.ring = s.ring
  rd : s.rd = .non ∨ ∃ r, s.rd = .int r
theorem spd_shape {l : Loft} {rc : Race} {L : List Loft} {b e sh r : Int} (ro : RaceOk L rc) (hb : 0 ≤ b) (he : b < e) (he2 : e ≤ 9999) (hs : b < sh) (hs2 : sh ≤ 9999) :
    spd l rc b e sh r = .non ∨ ∃ a d, spd l rc b e sh r = fpv a d ∧ 0 < d ∧ d < 18446744073709551616 := by
  have hD : 0 ≤ rc.dusk ∧ rc.dusk ≤ 1439 := by have := ro.dusk; omega
  have hW : 0 ≤ rc.dawn ∧ rc.dawn ≤ 1439 := by have := ro.dawn; omega
  have os := ro.start
  unfold spd
  by_cases c : b ≤ r ∧ r ≤ sh
  · rw [if_pos c]
    have p1 : b * (sh - b) + (r - b) * (e - b) ≤ e * (sh - b) := by
      have : (r - b) * (e - b) ≤ (sh - b) * (e - b) := Int.mul_le_mul_of_nonneg_right (by omega) (by omega)
      have e6 : (sh - b) * (e - b) = e * (sh - b) - b * (sh - b) := by grind
      omega
    have p2 : e * (sh - b) ≤ 9999 * 9999 := by
      have h1 : e * (sh - b) ≤ 9999 * (sh - b) := Int.mul_le_mul_of_nonneg_right he2 (by omega)
      have h2 : 9999 * (sh - b) ≤ 9999 * 9999 := Int.mul_le_mul_of_nonneg_left (by omega) (by omega)
      omega
    generalize b * (sh - b) + (r - b) * (e - b) = p at *
    have hq : 0 < sh - b := by omega
    generalize sh - b = q at *
    unfold spv
    by_cases c1 : p < rc.start * q ∨ rc.close * q < p
    · rw [if_pos c1]; exact .inl rfl
    · rw [if_neg c1]
      by_cases c2 : Nf rc.dusk rc.dawn rc.start p q ≤ 0
      · rw [if_pos c2]; exact .inl rfl
      · rw [if_neg c2]
        have hn := Nf_pos (D := rc.dusk) (W := rc.dawn) (s := rc.start) hD hW hq (p := p) (by omega)
        have hsq : 0 ≤ rc.start * q := Int.mul_nonneg os.1 (by omega)
        generalize Nf rc.dusk rc.dawn rc.start p q = N at *
        have hN : N ≤ 9999 * 9999 := by omega
        have hNN : N * N ≤ (9999 * 9999) * (9999 * 9999) := Int.mul_le_mul hN hN (by omega) (by omega)
        obtain ⟨a, d, e1, e2, e3, e4, e5⟩ := lowv_red (p := sqd l rc * q * q) (q := N * N) (Int.mul_pos (by omega) (by omega))
        exact .inr ⟨a, d, e1, e2.pos, by omega⟩
  · rw [if_neg c]; exact .inl rfl
def spC (L : List Loft) (R : List Race) (c : Clk) (r : Int) : PV := match R[c.race]?, L[c.loft]? with
  | some rc, some l => spd l rc c.b c.e c.s r
  | _, _ => .non
def spS (L : List Loft) (B : List Bird) (R : List Race) (cs : List Clk) (s : Slp) : PV := match s.rd with
  | .int r => match fnd cs (s.race : Nat) (loftOf B s.ring) with
    | some c => spC L R c r
    | none => .non
  | _ => .non
section
variable {L : List Loft} {B : List Bird} {R : List Race} {cs : List Clk} {n : Nat}
theorem spC_shape {c : Clk} {r : Int} (hR : ∀ r ∈ R, RaceOk L r) (h : ClkG L R c) : spC L R c r = .non ∨ ∃ a d, spC L R c r = fpv a d ∧ 0 < d ∧ d < 18446744073709551616 := by
  have e1 : R[c.race]? = some (R[c.race]'h.race) := List.getElem?_eq_getElem h.race
  have e2 : L[c.loft]? = some (L[c.loft]'h.loft) := List.getElem?_eq_getElem h.loft
  unfold spC
  rw [e1, e2]
  exact spd_shape (hR _ (List.mem_of_getElem? e1)) h.b0 h.b1 h.e h.s0 h.s1
theorem spS_shape {s : Slp} (hcs : ∀ c ∈ cs, ClkG L R c) (hR : ∀ r ∈ R, RaceOk L r) : spS L B R cs s = .non ∨ ∃ a d, spS L B R cs s = fpv a d ∧ 0 < d ∧ d < 18446744073709551616 := by
  unfold spS
  split
  · split
    · rename_i c hf
      exact spC_shape hR (hcs c (fnd_mem hf).1)
    · exact .inl rfl
  · exact .inl rfl
theorem speedof_okX {m : MH} {s : Slp} (hn : m[n]? = some (.lst (cs.map Clk.pv))) (hcs : ∀ c ∈ cs, ClkG L R c) (hL : ∀ l ∈ L, LoftOk l) (hR : ∀ r ∈ R, RaceOk L r) (nd : (B.map Bird.ring).Nodup) (hs : SlG B s) :
    WP (f_speed_of [clubPV L B R, .ref n, .tup [.int (s.race : Nat), .int s.ring, s.rd]] m) (fun x m' => x = spS L B R cs s ∧ m' = m) NoE := by
  obtain ⟨k, bd, hk, hr⟩ := hs.ring
  have hrd := hs.rd
  have bo := fun (m : MH) => birdof_ok (m := m) (L := L) (R := R) hk hr nd
  have lo : loftOf B s.ring = bd.loft := loft_of (List.mem_of_getElem? hk) hr nd
  have sp := fun (c : Clk) (r : Int) (m : MH) (rc : Race) (l : Loft) (h1 : R[c.race]? = some rc) (h2 : L[c.loft]? = some l) (hc : ClkG L R c) => speed_ok (m := m) (B := B) (r := r) h1 h2 (hR _ (List.mem_of_getElem? h1)) (hL _ (List.mem_of_getElem? h2)) hc.b0 hc.b1 hc.e hc.s0 hc.s1
  unfold spS
  rw [lo]
  generalize s.rd = rd at *
  generalize s.race = i at *
  generalize s.ring = t at *
  unfold f_speed_of b_speed_of clubPV at *
  walk_at "w1"
  rw [s_seq]
  try simp -dsimp only [at0, at1, at2, at3, at4, at5, at6, wp_fn, s_nil, s_brk, s_cnt, s_expr, s_ret, s_retN, s_if, s_asn, s_par, s_asg, g_nm, g_nil, g_cons, g_tupT, g_subW, w_v0, w_vS, w_c, w_op, w_un, w_anil, w_acons, w_tup, w_lst, w_call, w_callU, w_isi, w_meth, w_tru, w_bool, w_notS, w_andS, w_orS, w_ifx, w_andV, w_orV, w_notV, w_chain, wp_ok, wp_bad, wp_some, wp_none, wp_liftif, wp_if, asB_b, wp_noex, add_ii, sub_ii, mul_ii, fdiv_ii, mod_ii, pow_ii, neg_i, cmp_ii, lt_ii, le_ii, gt_ii, ge_ii, le_cc, muls_ii, muls_si, ins_cs, iadd_ii, isub_ii, w_onone, w_osome, w_sl, sl_s, sl_t, s_aug, eq_ss, len_s, ix_s, add_ss, str_s, tuple_t, list_t, is_n, not_n, non_n, non_i, non_b, non_s, non_t, non_r, abs_i, max_ii, min_ii, int_i, int_b, gcd_ii, len_t, ix_t, eq_v, ne_v, eq_ii, eq_bb, eq_nn, eq_in, eq_ni, iv_n_list, iv_n_tuple, iv_n_bool, iv_n_str, iv_n_int, okt_n, iv_b_list, iv_b_tuple, iv_b_bool, iv_b_str, iv_b_int, okt_b, iv_i_list, iv_i_tuple, iv_i_bool, iv_i_str, iv_i_int, okt_i, iv_s_list, iv_s_tuple, iv_s_bool, iv_s_str, iv_s_int, okt_s, iv_t_list, iv_t_tuple, iv_t_bool, iv_t_str, iv_t_int, okt_t, iv_r_list, iv_r_tuple, iv_r_bool, iv_r_str, iv_r_int, tru_b, tru_i, tru_n, tru_t, Option.map_some, Option.map_none, List.map_cons, List.map_nil, List.length_cons, List.length_nil, List.set_cons_zero, List.set_cons_succ, List.cons_append, List.nil_append, List.replicate, Nat.reduceAdd, Nat.reduceSub, Nat.reduceLeDiff, true_and, and_true, decide_eq_true_eq, reduceIte, Bool.false_eq_true, Bool.not_true, Bool.not_false, decide_true, decide_false]
  rw [s_seq]
  try simp -dsimp only [at0, at1, at2, at3, at4, at5, at6, wp_fn, s_nil, s_brk, s_cnt, s_expr, s_ret, s_retN, s_if, s_asn, s_par, s_asg, g_nm, g_nil, g_cons, g_tupT, g_subW, w_v0, w_vS, w_c, w_op, w_un, w_anil, w_acons, w_tup, w_lst, w_call, w_callU, w_isi, w_meth, w_tru, w_bool, w_notS, w_andS, w_orS, w_ifx, w_andV, w_orV, w_notV, w_chain, wp_ok, wp_bad, wp_some, wp_none, wp_liftif, wp_if, asB_b, wp_noex, add_ii, sub_ii, mul_ii, fdiv_ii, mod_ii, pow_ii, neg_i, cmp_ii, lt_ii, le_ii, gt_ii, ge_ii, le_cc, muls_ii, muls_si, ins_cs, iadd_ii, isub_ii, w_onone, w_osome, w_sl, sl_s, sl_t, s_aug, eq_ss, len_s, ix_s, add_ss, str_s, tuple_t, list_t, is_n, not_n, non_n, non_i, non_b, non_s, non_t, non_r, abs_i, max_ii, min_ii, int_i, int_b, gcd_ii, len_t, ix_t, eq_v, ne_v, eq_ii, eq_bb, eq_nn, eq_in, eq_ni, iv_n_list, iv_n_tuple, iv_n_bool, iv_n_str, iv_n_int, okt_n, iv_b_list, iv_b_tuple, iv_b_bool, iv_b_str, iv_b_int, okt_b, iv_i_list, iv_i_tuple, iv_i_bool, iv_i_str, iv_i_int, okt_i, iv_s_list, iv_s_tuple, iv_s_bool, iv_s_str, iv_s_int, okt_s, iv_t_list, iv_t_tuple, iv_t_bool, iv_t_str, iv_t_int, okt_t, iv_r_list, iv_r_tuple, iv_r_bool, iv_r_str, iv_r_int, tru_b, tru_i, tru_n, tru_t, Option.map_some, Option.map_none, List.map_cons, List.map_nil, List.length_cons, List.length_nil, List.set_cons_zero, List.set_cons_succ, List.cons_append, List.nil_append, List.replicate, Nat.reduceAdd, Nat.reduceSub, Nat.reduceLeDiff, true_and, and_true, decide_eq_true_eq, reduceIte, Bool.false_eq_true, Bool.not_true, Bool.not_false, decide_true, decide_false]
  refine (bo _).mono ?_
  rintro _ m ⟨rfl, rfl⟩
  try simp -dsimp only [at_map hk, Bird.pv, at0, at1, at2, at3, at4, at5, at6, wp_fn, s_nil, s_brk, s_cnt, s_expr, s_ret, s_retN, s_if, s_asn, s_par, s_asg, g_nm, g_nil, g_cons, g_tupT, g_subW, w_v0, w_vS, w_c, w_op, w_un, w_anil, w_acons, w_tup, w_lst, w_call, w_callU, w_isi, w_meth, w_tru, w_bool, w_notS, w_andS, w_orS, w_ifx, w_andV, w_orV, w_notV, w_chain, wp_ok, wp_bad, wp_some, wp_none, wp_liftif, wp_if, asB_b, wp_noex, add_ii, sub_ii, mul_ii, fdiv_ii, mod_ii, pow_ii, neg_i, cmp_ii, lt_ii, le_ii, gt_ii, ge_ii, le_cc, muls_ii, muls_si, ins_cs, iadd_ii, isub_ii, w_onone, w_osome, w_sl, sl_s, sl_t, s_aug, eq_ss, len_s, ix_s, add_ss, str_s, tuple_t, list_t, is_n, not_n, non_n, non_i, non_b, non_s, non_t, non_r, abs_i, max_ii, min_ii, int_i, int_b, gcd_ii, len_t, ix_t, eq_v, ne_v, eq_ii, eq_bb, eq_nn, eq_in, eq_ni, iv_n_list, iv_n_tuple, iv_n_bool, iv_n_str, iv_n_int, okt_n, iv_b_list, iv_b_tuple, iv_b_bool, iv_b_str, iv_b_int, okt_b, iv_i_list, iv_i_tuple, iv_i_bool, iv_i_str, iv_i_int, okt_i, iv_s_list, iv_s_tuple, iv_s_bool, iv_s_str, iv_s_int, okt_s, iv_t_list, iv_t_tuple, iv_t_bool, iv_t_str, iv_t_int, okt_t, iv_r_list, iv_r_tuple, iv_r_bool, iv_r_str, iv_r_int, tru_b, tru_i, tru_n, tru_t, Option.map_some, Option.map_none, List.map_cons, List.map_nil, List.length_cons, List.length_nil, List.set_cons_zero, List.set_cons_succ, List.cons_append, List.nil_append, List.replicate, Nat.reduceAdd, Nat.reduceSub, Nat.reduceLeDiff, true_and, and_true, decide_eq_true_eq, reduceIte, Bool.false_eq_true, Bool.not_true, Bool.not_false, decide_true, decide_false]
  refine (clkof_ok (i := (i : Nat)) (j := bd.loft) hn).mono ?_
  rintro _ m ⟨rfl, rfl⟩
  try simp -dsimp only [at0, at1, at2, at3, at4, at5, at6, wp_fn, s_nil, s_brk, s_cnt, s_expr, s_ret, s_retN, s_if, s_asn, s_par, s_asg, g_nm, g_nil, g_cons, g_tupT, g_subW, w_v0, w_vS, w_c, w_op, w_un, w_anil, w_acons, w_tup, w_lst, w_call, w_callU, w_isi, w_meth, w_tru, w_bool, w_notS, w_andS, w_orS, w_ifx, w_andV, w_orV, w_notV, w_chain, wp_ok, wp_bad, wp_some, wp_none, wp_liftif, wp_if, asB_b, wp_noex, add_ii, sub_ii, mul_ii, fdiv_ii, mod_ii, pow_ii, neg_i, cmp_ii, lt_ii, le_ii, gt_ii, ge_ii, le_cc, muls_ii, muls_si, ins_cs, iadd_ii, isub_ii, w_onone, w_osome, w_sl, sl_s, sl_t, s_aug, eq_ss, len_s, ix_s, add_ss, str_s, tuple_t, list_t, is_n, not_n, non_n, non_i, non_b, non_s, non_t, non_r, abs_i, max_ii, min_ii, int_i, int_b, gcd_ii, len_t, ix_t, eq_v, ne_v, eq_ii, eq_bb, eq_nn, eq_in, eq_ni, iv_n_list, iv_n_tuple, iv_n_bool, iv_n_str, iv_n_int, okt_n, iv_b_list, iv_b_tuple, iv_b_bool, iv_b_str, iv_b_int, okt_b, iv_i_list, iv_i_tuple, iv_i_bool, iv_i_str, iv_i_int, okt_i, iv_s_list, iv_s_tuple, iv_s_bool, iv_s_str, iv_s_int, okt_s, iv_t_list, iv_t_tuple, iv_t_bool, iv_t_str, iv_t_int, okt_t, iv_r_list, iv_r_tuple, iv_r_bool, iv_r_str, iv_r_int, tru_b, tru_i, tru_n, tru_t, Option.map_some, Option.map_none, List.map_cons, List.map_nil, List.length_cons, List.length_nil, List.set_cons_zero, List.set_cons_succ, List.cons_append, List.nil_append, List.replicate, Nat.reduceAdd, Nat.reduceSub, Nat.reduceLeDiff, true_and, and_true, decide_eq_true_eq, reduceIte, Bool.false_eq_true, Bool.not_true, Bool.not_false, decide_true, decide_false]
  rw [s_seq]
  rcases hrd with rfl | ⟨r, rfl⟩
  · try simp -dsimp only [at0, at1, at2, at3, at4, at5, at6, wp_fn, s_nil, s_brk, s_cnt, s_expr, s_ret, s_retN, s_if, s_asn, s_par, s_asg, g_nm, g_nil, g_cons, g_tupT, g_subW, w_v0, w_vS, w_c, w_op, w_un, w_anil, w_acons, w_tup, w_lst, w_call, w_callU, w_isi, w_meth, w_tru, w_bool, w_notS, w_andS, w_orS, w_ifx, w_andV, w_orV, w_notV, w_chain, wp_ok, wp_bad, wp_some, wp_none, wp_liftif, wp_if, asB_b, wp_noex, add_ii, sub_ii, mul_ii, fdiv_ii, mod_ii, pow_ii, neg_i, cmp_ii, lt_ii, le_ii, gt_ii, ge_ii, le_cc, muls_ii, muls_si, ins_cs, iadd_ii, isub_ii, w_onone, w_osome, w_sl, sl_s, sl_t, s_aug, eq_ss, len_s, ix_s, add_ss, str_s, tuple_t, list_t, is_n, not_n, non_n, non_i, non_b, non_s, non_t, non_r, abs_i, max_ii, min_ii, int_i, int_b, gcd_ii, len_t, ix_t, eq_v, ne_v, eq_ii, eq_bb, eq_nn, eq_in, eq_ni, iv_n_list, iv_n_tuple, iv_n_bool, iv_n_str, iv_n_int, okt_n, iv_b_list, iv_b_tuple, iv_b_bool, iv_b_str, iv_b_int, okt_b, iv_i_list, iv_i_tuple, iv_i_bool, iv_i_str, iv_i_int, okt_i, iv_s_list, iv_s_tuple, iv_s_bool, iv_s_str, iv_s_int, okt_s, iv_t_list, iv_t_tuple, iv_t_bool, iv_t_str, iv_t_int, okt_t, iv_r_list, iv_r_tuple, iv_r_bool, iv_r_str, iv_r_int, tru_b, tru_i, tru_n, tru_t, Option.map_some, Option.map_none, List.map_cons, List.map_nil, List.length_cons, List.length_nil, List.set_cons_zero, List.set_cons_succ, List.cons_append, List.nil_append, List.replicate, Nat.reduceAdd, Nat.reduceSub, Nat.reduceLeDiff, true_and, and_true, decide_eq_true_eq, reduceIte, Bool.false_eq_true, Bool.not_true, Bool.not_false, decide_true, decide_false]
  · cases hf : fnd cs (i : Nat) bd.loft with
    | none =>
      unfold optPV
      try simp -dsimp only [Option.getD_none, at0, at1, at2, at3, at4, at5, at6, wp_fn, s_nil, s_brk, s_cnt, s_expr, s_ret, s_retN, s_if, s_asn, s_par, s_asg, g_nm, g_nil, g_cons, g_tupT, g_subW, w_v0, w_vS, w_c, w_op, w_un, w_anil, w_acons, w_tup, w_lst, w_call, w_callU, w_isi, w_meth, w_tru, w_bool, w_notS, w_andS, w_orS, w_ifx, w_andV, w_orV, w_notV, w_chain, wp_ok, wp_bad, wp_some, wp_none, wp_liftif, wp_if, asB_b, wp_noex, add_ii, sub_ii, mul_ii, fdiv_ii, mod_ii, pow_ii, neg_i, cmp_ii, lt_ii, le_ii, gt_ii, ge_ii, le_cc, muls_ii, muls_si, ins_cs, iadd_ii, isub_ii, w_onone, w_osome, w_sl, sl_s, sl_t, s_aug, eq_ss, len_s, ix_s, add_ss, str_s, tuple_t, list_t, is_n, not_n, non_n, non_i, non_b, non_s, non_t, non_r, abs_i, max_ii, min_ii, int_i, int_b, gcd_ii, len_t, ix_t, eq_v, ne_v, eq_ii, eq_bb, eq_nn, eq_in, eq_ni, iv_n_list, iv_n_tuple, iv_n_bool, iv_n_str, iv_n_int, okt_n, iv_b_list, iv_b_tuple, iv_b_bool, iv_b_str, iv_b_int, okt_b, iv_i_list, iv_i_tuple, iv_i_bool, iv_i_str, iv_i_int, okt_i, iv_s_list, iv_s_tuple, iv_s_bool, iv_s_str, iv_s_int, okt_s, iv_t_list, iv_t_tuple, iv_t_bool, iv_t_str, iv_t_int, okt_t, iv_r_list, iv_r_tuple, iv_r_bool, iv_r_str, iv_r_int, tru_b, tru_i, tru_n, tru_t, Option.map_some, Option.map_none, List.map_cons, List.map_nil, List.length_cons, List.length_nil, List.set_cons_zero, List.set_cons_succ, List.cons_append, List.nil_append, List.replicate, Nat.reduceAdd, Nat.reduceSub, Nat.reduceLeDiff, true_and, and_true, decide_eq_true_eq, reduceIte, Bool.false_eq_true, Bool.not_true, Bool.not_false, decide_true, decide_false]
    | some c =>
      have hc := hcs c (fnd_mem hf).1
      have e1 : R[c.race]? = some (R[c.race]'hc.race) := List.getElem?_eq_getElem hc.race
      have e2 : L[c.loft]? = some (L[c.loft]'hc.loft) := List.getElem?_eq_getElem hc.loft
      have s1 := sp c r
      unfold optPV
      rw [Option.map_some, Option.getD_some]
      unfold Clk.pv
      unfold clkPV at *
      try simp -dsimp only [at0, at1, at2, at3, at4, at5, at6, wp_fn, s_nil, s_brk, s_cnt, s_expr, s_ret, s_retN, s_if, s_asn, s_par, s_asg, g_nm, g_nil, g_cons, g_tupT, g_subW, w_v0, w_vS, w_c, w_op, w_un, w_anil, w_acons, w_tup, w_lst, w_call, w_callU, w_isi, w_meth, w_tru, w_bool, w_notS, w_andS, w_orS, w_ifx, w_andV, w_orV, w_notV, w_chain, wp_ok, wp_bad, wp_some, wp_none, wp_liftif, wp_if, asB_b, wp_noex, add_ii, sub_ii, mul_ii, fdiv_ii, mod_ii, pow_ii, neg_i, cmp_ii, lt_ii, le_ii, gt_ii, ge_ii, le_cc, muls_ii, muls_si, ins_cs, iadd_ii, isub_ii, w_onone, w_osome, w_sl, sl_s, sl_t, s_aug, eq_ss, len_s, ix_s, add_ss, str_s, tuple_t, list_t, is_n, not_n, non_n, non_i, non_b, non_s, non_t, non_r, abs_i, max_ii, min_ii, int_i, int_b, gcd_ii, len_t, ix_t, eq_v, ne_v, eq_ii, eq_bb, eq_nn, eq_in, eq_ni, iv_n_list, iv_n_tuple, iv_n_bool, iv_n_str, iv_n_int, okt_n, iv_b_list, iv_b_tuple, iv_b_bool, iv_b_str, iv_b_int, okt_b, iv_i_list, iv_i_tuple, iv_i_bool, iv_i_str, iv_i_int, okt_i, iv_s_list, iv_s_tuple, iv_s_bool, iv_s_str, iv_s_int, okt_s, iv_t_list, iv_t_tuple, iv_t_bool, iv_t_str, iv_t_int, okt_t, iv_r_list, iv_r_tuple, iv_r_bool, iv_r_str, iv_r_int, tru_b, tru_i, tru_n, tru_t, Option.map_some, Option.map_none, List.map_cons, List.map_nil, List.length_cons, List.length_nil, List.set_cons_zero, List.set_cons_succ, List.cons_append, List.nil_append, List.replicate, Nat.reduceAdd, Nat.reduceSub, Nat.reduceLeDiff, true_and, and_true, decide_eq_true_eq, reduceIte, Bool.false_eq_true, Bool.not_true, Bool.not_false, decide_true, decide_false]
      have es : spC L R c r = spd (L[c.loft]'hc.loft) (R[c.race]'hc.race) c.b c.e c.s r := by unfold spC; rw [e1, e2]
      refine (s1 _ _ _ e1 e2 hc).mono ?_
      rintro _ m ⟨rfl, rfl⟩
      exact ⟨es.symm, rfl⟩
end
/-! ## ranks -/
structure Pr where
  t : Int
  a : Int
  d : Int
def Pr.pv (p : Pr) : PV := .tup [.int p.t, fpv p.a p.d]
def PrOk (p : Pr) : Prop := 0 < p.d ∧ p.d < 18446744073709551616
structure Rw where
  k : Nat
  t : Int
  a : Int
  d : Int
def Rw.pv (p : Rw) : PV := .tup [.int ((p.k : Nat) + 1), .int p.t, fpv p.a p.d]
theorem lift_list {α : Type} {f : α → PV} : ∀ {xs : List PV} {ys : List α}, (∀ x ∈ xs, ∃ y ∈ ys, x = f y) → ∃ zs : List α, xs = zs.map f ∧ ∀ z ∈ zs, z ∈ ys
  | [], _, _ => ⟨[], rfl, no_mem1⟩
  | x :: xs, _, h => by
    obtain ⟨y, hy, rfl⟩ := h x List.mem_cons_self
    obtain ⟨zs, rfl, hz⟩ := lift_list fun z hz => h z (List.mem_cons_of_mem _ hz)
    exact ⟨y :: zs, rfl, fun z hz' => (List.mem_cons.mp hz').elim (fun e => e ▸ hy) (hz z)⟩
theorem rows_sortable {m : MH} {rows : List Rw} : SortOk m (rows.map Rw.pv) := by
  have dat : ∀ d ∈ (rows.map Rw.pv).map (dOf m), ∃ a b c e : Int, d = .tuple [.int a, .int b, .tuple [.int c, .int e]] := by
    intro d hd
    obtain ⟨x, hx, rfl⟩ := List.mem_map.mp hd
    obtain ⟨r, _, rfl⟩ := List.mem_map.mp hx
    exact ⟨_, _, _, _, rfl⟩
  refine ⟨fun x hx => ?_, fun d hd d' hd' => ?_, .inl fun d hd => ?_, fun x hx => ?_⟩
  · obtain ⟨r, _, rfl⟩ := List.mem_map.mp hx
    exact ⟨_, rfl⟩
  · obtain ⟨a, b, c, e, rfl⟩ := dat d hd
    obtain ⟨a', b', c', e', rfl⟩ := dat d' hd'
    rfl
  · obtain ⟨a, b, c, e, rfl⟩ := dat d hd
    exact ⟨_, _, rfl⟩
  · obtain ⟨r, _, rfl⟩ := List.mem_map.mp hx
    show (PyData.tuple [.int _, .int _, .tuple [.int _, .int _]]).depth ≤ 60
    simp [PyData.depth, PyData.depthAll]
def rk (ps : List Pr) : List Rw := ps.map fun p => ⟨(ps.filter fun q => decide (p.a * q.d < q.a * p.d)).length, p.t, p.a, p.d⟩
def Rw.dat (r : Rw) : PyData := .tuple [.int ((r.k : Nat) + 1), .int r.t, .tuple [.int r.a, .int r.d]]
def rowsS (rows : List Rw) : List Rw := rows.mergeSort fun x y => PySem.W.dataLe false Rw.dat x y
theorem rows_sorted {m : MH} {rows : List Rw} : sortD m (rows.map Rw.pv) = (rowsS rows).map Rw.pv := by
  unfold sortD rowsS
  rw [List.map_map]
  rw [← List.map_mergeSort (r := fun x y => PySem.W.dataLe false Rw.dat x y) (f := (fun x => (x, dOf m x)) ∘ Rw.pv) fun _ _ _ _ => rfl, List.map_map]
  rfl
theorem ranked_okX {m : MH} {n : Nat} {ps : List Pr} (h : m[n]? = some (.lst (ps.map Pr.pv))) (hp : ∀ p ∈ ps, PrOk p) (hl : ps.length ≤ 1000) :
    WP (f_ranked [.ref n] m) (fun x m' => ∃ k, x = .ref k ∧ m'[k]? = some (.lst ((rowsS (rk ps)).map Rw.pv)) ∧ m.length ≤ k ∧ Gr m m') NoE := by
  have il := fun (p q r s : Int) (m : MH) (h1 : q.natAbs < 18446744073709551616) (h2 : s.natAbs < 18446744073709551616) => isless_ok (p := p) (r := r) (m := m) h1 h2
  unfold fpv at il
  unfold f_ranked b_ranked
  walk_at "w1"
  rw [s_seq]
  walk_at "w1"
  rw [s_seq]
  refine s_forLW ?_
  walk_at "w1"
  refine ⟨_, _, rfl, seq_of_lst (get_old h), fun i l m' => ∃ x2 x3 x4 x5 x6, l = [some (.ref n), some (.ref m.length), x2, x3, x4, x5, x6] ∧ m'[m.length]? = some (.lst (((rk ps).take i).map Rw.pv)) ∧ Gr m m', ⟨_, _, _, _, _, rfl, get_new, Gr.one⟩, ?_, ?_, ?_⟩
  · rintro i l m' ⟨x2, x3, x4, x5, x6, rfl, hd, G⟩
    exact seq_of_lst (G.get _ _ h)
  · rintro i x l m' hx ⟨x2, x3, x4, x5, x6, rfl, hd, G⟩
    rw [List.getElem?_map] at hx
    cases es : ps[i]? with
    | none => rw [es] at hx; cases hx
    | some p =>
    rw [es] at hx
    cases hx
    have hi := (List.getElem?_eq_some_iff.mp es).1
    have er : (rk ps).take (i + 1) = (rk ps).take i ++ [⟨(ps.filter fun q => decide (p.a * q.d < q.a * p.d)).length, p.t, p.a, p.d⟩] := by rw [List.take_succ]; congr 1; unfold rk; rw [List.getElem?_map, es]; rfl
    have hrl : ((rk ps).take i).length ≤ 1000 := by rw [List.length_take]; omega
    have po := hp p (List.mem_of_getElem? es)
    have hn' := G.get _ _ h
    have hne : m.length < m'.length := (List.getElem?_eq_some_iff.mp hd).1
    unfold ranked_l1 Pr.pv fpv
    walk_at "w1"
    rw [s_seq]
    walk_at "w1"
    refine w_lcL ?_
    walk_at "w1"
    refine ⟨_, _, rfl, seq_of_lst hn', fun j acc m2 => acc.length = ((ps.take j).filter fun q => decide (p.a * q.d < q.a * p.d)).length ∧ Gr m' m2, ⟨rfl, Gr.one⟩, ?_, ?_⟩
    · rintro j y acc m2 hy ha ⟨hal, G2⟩
      refine ⟨seq_of_lst (G2.get _ _ hn'), ?_⟩
      rw [List.getElem?_map] at hy
      cases eq : ps[j]? with
      | none => rw [eq] at hy; cases hy
      | some q =>
      rw [eq] at hy
      cases hy
      have hj := (List.getElem?_eq_some_iff.mp eq).1
      have qo := hp q (List.mem_of_getElem? eq)
      have et : ps.take (j + 1) = ps.take j ++ [q] := by rw [List.take_succ, eq]; rfl
      have hal2 : acc.length ≤ j := by rw [hal]; refine Nat.le_trans (List.length_filter_le _ _) (by rw [List.length_take]; omega)
      simp only [wipeP]
      unfold Pr.pv fpv
      walk_at "w1"
      refine (il _ _ _ _ _ (by have := po.1; have := po.2; omega) (by have := qo.1; have := qo.2; omega)).mono ?_
      rintro _ m2 ⟨rfl, rfl⟩
      walk_at "w1"
      by_cases c : p.a * q.d < q.a * p.d
      · simp only [c, decide_true, if_true]
        walk_at "w1"
        exact ⟨ha, by omega, by rw [et, List.filter_append]; simp [hal, c], G2.set (Nat.le_refl _)⟩
      · simp only [c, decide_false, if_false, Bool.false_eq_true]
        exact ⟨ha, by rw [et, List.filter_append]; simp [hal, c], G2⟩
    · rintro acc m2 ha ⟨hal, G2⟩
      have hd2 := G2.get _ _ hd
      refine ⟨seq_of_lst (G2.get _ _ hn'), ?_⟩
      walk_at "w1"
      rw [len_r (seq_of_lst ha)]
      walk_at "w1"
      refine ⟨isLst_r hd2, ?_⟩
      rw [append_r hd2 (by rw [List.length_map]; omega)]
      walk_at "w1"
      rw [List.length_map, List.take_length] at hal
      refine ⟨_, _, _, _, _, rfl, (get_set_eq hd2).trans ?_, (G.trans G2).set (Nat.le_refl _)⟩
      rw [er, List.map_append, ← hal]
      rfl
  · rintro l m' ⟨x2, x3, x4, x5, x6, rfl, hd, G⟩
    rw [List.length_map, List.take_of_length_le (by unfold rk; rw [List.length_map]; exact Nat.le_refl _)] at hd
    walk_at "w1"
    rw [sortD_r (seq_of_lst hd) rows_sortable, rows_sorted]
    walk_at "w1"
    exact ⟨_, rfl, get_new, G.len, G.push _⟩
/-! ## the list of a race -/
def frO : PV → Option (Int × Int)
  | .tup [.int a, .int d] => some (a, d)
  | _ => none
def prO (L : List Loft) (B : List Bird) (R : List Race) (cs : List Clk) (i : Nat) (s : Slp) : Option Pr := if s.race = i then (frO (spS L B R cs s)).map fun p => ⟨s.ring, p.1, p.2⟩ else none
abbrev cntS (ss : List Slp) : List Slp := cntL (k2 (fun s : Slp => ((s.race : Nat) : Int)) Slp.ring) ss
/-- the list of a race -/
def listR (L : List Loft) (B : List Bird) (R : List Race) (cs : List Clk) (ss : List Slp) (i : Nat) : List Rw := rowsS (rk ((cntS ss).filterMap (prO L B R cs i)))
theorem frO_f {a d : Int} : frO (fpv a d) = some (a, d) := rfl
theorem slp_pv (s : Slp) : s.pv = .tup (.int ((s.race : Nat) : Int) :: .int s.ring :: [s.rd]) := rfl
theorem prO_ok {L : List Loft} {B : List Bird} {R : List Race} {cs : List Clk} {i : Nat} {s : Slp} {p : Pr} (hcs : ∀ c ∈ cs, ClkG L R c) (hR : ∀ r ∈ R, RaceOk L r) (h : prO L B R cs i s = some p) : PrOk p := by
  unfold prO at h
  split at h
  · rcases spS_shape (B := B) (s := s) hcs hR with e | ⟨a, d, e, d1, d2⟩
    · rw [e] at h; cases h
    · rw [e, frO_f] at h
      cases h
      exact ⟨d1, d2⟩
  · cases h
theorem filterMap_snoc {α β : Type} {f : α → Option β} {xs : List α} {x : α} : (xs ++ [x]).filterMap f = xs.filterMap f ++ (f x).toList := by
  rw [List.filterMap_append]
  cases h : f x <;> simp [h]
theorem filterMap_le {α β : Type} {f : α → Option β} {xs : List α} : (xs.filterMap f).length ≤ xs.length := List.length_filterMap_le _ _
section
variable {L : List Loft} {B : List Bird} {R : List Race} {cs : List Clk} {n : Nat}
theorem racelist_okX {m : MH} {q : Nat} {i : Nat} {ss : List Slp} (hn : m[n]? = some (.lst (cs.map Clk.pv))) (hq : m[q]? = some (.lst (ss.map Slp.pv))) (hcs : ∀ c ∈ cs, ClkG L R c) (hL : ∀ l ∈ L, LoftOk l) (hR : ∀ r ∈ R, RaceOk L r) (nd : (B.map Bird.ring).Nodup)
    (hss : ∀ s ∈ ss, SlG B s) (hsl : ss.length ≤ 900) :
    WP (f_race_list [clubPV L B R, .ref n, .ref q, .int (i : Nat)] m) (fun x m' => ∃ k, x = .ref k ∧ m'[k]? = some (.lst ((listR L B R cs ss i).map Rw.pv)) ∧ m.length ≤ k ∧ Gr m m') NoE := by
  unfold f_race_list b_race_list
  walk_at "w1"
  rw [s_seq]
  walk_at "w1"
  rw [s_seq]
  refine s_forLW ?_
  walk_at "w1"
  refine (counting_okG slp_pv (get_old hq) (by omega)).mono ?_
  rintro _ m1 ⟨k, rfl, hk, hkl, G1⟩
  have hnm : n < m.length := (List.getElem?_eq_some_iff.mp hn).1
  have hkl : m.length + 1 ≤ k := by simpa using hkl
  unfold listR
  have hol : (cntS ss).length ≤ ss.length := cntL_len
  have hom : ∀ s ∈ cntS ss, s ∈ ss := fun s h => cntL_mem h
  change m1[k]? = some (.lst ((cntS ss).map Slp.pv)) at hk
  generalize cntS ss = out at *
  refine ⟨_, _, rfl, seq_of_lst hk, fun j l m' => ∃ x5 x6, l = [some (clubPV L B R), some (.ref n), some (.ref q), some (.int (i : Nat)), some (.ref m.length), x5, x6] ∧ m'[m.length]? = some (.lst (((out.take j).filterMap (prO L B R cs i)).map Pr.pv)) ∧ m'[k]? = some (.lst (out.map Slp.pv)) ∧ Gr m m', ⟨_, _, rfl, G1.new, hk, Gr.one.trans G1⟩, ?_, ?_, ?_⟩
  · rintro j l m' ⟨x5, x6, rfl, hd, hk2, G⟩
    exact seq_of_lst hk2
  · clear hk G1
    rintro j x l m' hx ⟨x5, x6, rfl, hd, hk2, G⟩
    rw [List.getElem?_map] at hx
    cases es : out[j]? with
    | none => rw [es] at hx; cases hx
    | some s =>
    rw [es] at hx
    cases hx
    have hj := (List.getElem?_eq_some_iff.mp es).1
    have et : out.take (j + 1) = out.take j ++ [s] := by rw [List.take_succ, es]; rfl
    have hps : ((out.take j).filterMap (prO L B R cs i)).length ≤ 1000 := Nat.le_trans filterMap_le (by rw [List.length_take]; omega)
    have so := fun (m : MH) (h : m[n]? = some (.lst (cs.map Clk.pv))) => speedof_okX (m := m) (s := s) (B := B) h hcs hL hR nd (hss s (hom s (List.mem_of_getElem? es)))
    have sh := spS_shape (B := B) (s := s) hcs hR
    unfold race_list_l1 Slp.pv
    try simp -dsimp only [at0, at1, at2, at3, at4, at5, at6, wp_fn, s_nil, s_brk, s_cnt, s_expr, s_ret, s_retN, s_if, s_asn, s_par, s_asg, g_nm, g_nil, g_cons, g_tupT, g_subW, w_v0, w_vS, w_c, w_op, w_un, w_anil, w_acons, w_tup, w_lst, w_call, w_callU, w_isi, w_meth, w_tru, w_bool, w_notS, w_andS, w_orS, w_ifx, w_andV, w_orV, w_notV, w_chain, wp_ok, wp_bad, wp_some, wp_none, wp_liftif, wp_if, asB_b, wp_noex, add_ii, sub_ii, mul_ii, fdiv_ii, mod_ii, pow_ii, neg_i, cmp_ii, lt_ii, le_ii, gt_ii, ge_ii, le_cc, muls_ii, muls_si, ins_cs, iadd_ii, isub_ii, w_onone, w_osome, w_sl, sl_s, sl_t, s_aug, eq_ss, len_s, ix_s, add_ss, str_s, tuple_t, list_t, is_n, not_n, non_n, non_i, non_b, non_s, non_t, non_r, abs_i, max_ii, min_ii, int_i, int_b, gcd_ii, len_t, ix_t, eq_v, ne_v, eq_ii, eq_bb, eq_nn, eq_in, eq_ni, iv_n_list, iv_n_tuple, iv_n_bool, iv_n_str, iv_n_int, okt_n, iv_b_list, iv_b_tuple, iv_b_bool, iv_b_str, iv_b_int, okt_b, iv_i_list, iv_i_tuple, iv_i_bool, iv_i_str, iv_i_int, okt_i, iv_s_list, iv_s_tuple, iv_s_bool, iv_s_str, iv_s_int, okt_s, iv_t_list, iv_t_tuple, iv_t_bool, iv_t_str, iv_t_int, okt_t, iv_r_list, iv_r_tuple, iv_r_bool, iv_r_str, iv_r_int, tru_b, tru_i, tru_n, tru_t, Option.map_some, Option.map_none, List.map_cons, List.map_nil, List.length_cons, List.length_nil, List.set_cons_zero, List.set_cons_succ, List.cons_append, List.nil_append, List.replicate, Nat.reduceAdd, Nat.reduceSub, Nat.reduceLeDiff, true_and, and_true, decide_eq_true_eq, reduceIte, Bool.false_eq_true, Bool.not_true, Bool.not_false, decide_true, decide_false]
    by_cases c : s.race = i
    · rw [if_pos (show ((s.race : Nat) : Int) = ((i : Nat) : Int) by omega)]
      have c' : s.race = i := c
      rw [s_seq]
      try simp -dsimp only [at0, at1, at2, at3, at4, at5, at6, wp_fn, s_nil, s_brk, s_cnt, s_expr, s_ret, s_retN, s_if, s_asn, s_par, s_asg, g_nm, g_nil, g_cons, g_tupT, g_subW, w_v0, w_vS, w_c, w_op, w_un, w_anil, w_acons, w_tup, w_lst, w_call, w_callU, w_isi, w_meth, w_tru, w_bool, w_notS, w_andS, w_orS, w_ifx, w_andV, w_orV, w_notV, w_chain, wp_ok, wp_bad, wp_some, wp_none, wp_liftif, wp_if, asB_b, wp_noex, add_ii, sub_ii, mul_ii, fdiv_ii, mod_ii, pow_ii, neg_i, cmp_ii, lt_ii, le_ii, gt_ii, ge_ii, le_cc, muls_ii, muls_si, ins_cs, iadd_ii, isub_ii, w_onone, w_osome, w_sl, sl_s, sl_t, s_aug, eq_ss, len_s, ix_s, add_ss, str_s, tuple_t, list_t, is_n, not_n, non_n, non_i, non_b, non_s, non_t, non_r, abs_i, max_ii, min_ii, int_i, int_b, gcd_ii, len_t, ix_t, eq_v, ne_v, eq_ii, eq_bb, eq_nn, eq_in, eq_ni, iv_n_list, iv_n_tuple, iv_n_bool, iv_n_str, iv_n_int, okt_n, iv_b_list, iv_b_tuple, iv_b_bool, iv_b_str, iv_b_int, okt_b, iv_i_list, iv_i_tuple, iv_i_bool, iv_i_str, iv_i_int, okt_i, iv_s_list, iv_s_tuple, iv_s_bool, iv_s_str, iv_s_int, okt_s, iv_t_list, iv_t_tuple, iv_t_bool, iv_t_str, iv_t_int, okt_t, iv_r_list, iv_r_tuple, iv_r_bool, iv_r_str, iv_r_int, tru_b, tru_i, tru_n, tru_t, Option.map_some, Option.map_none, List.map_cons, List.map_nil, List.length_cons, List.length_nil, List.set_cons_zero, List.set_cons_succ, List.cons_append, List.nil_append, List.replicate, Nat.reduceAdd, Nat.reduceSub, Nat.reduceLeDiff, true_and, and_true, decide_eq_true_eq, reduceIte, Bool.false_eq_true, Bool.not_true, Bool.not_false, decide_true, decide_false]
      refine (so _ (G.get _ _ hn)).mono ?_
      rintro _ m' ⟨rfl, rfl⟩
      rcases sh with e | ⟨a, d, e, d1, d2⟩
      · rw [e]
        walk_at "w1"
        have ep : prO L B R cs i s = none := by unfold prO; rw [if_pos c', e]; rfl
        exact ⟨_, _, rfl, by rw [et, filterMap_snoc, ep]; simpa using hd, hk2, G⟩
      · rw [e]
        have ep : prO L B R cs i s = some ⟨s.ring, a, d⟩ := by unfold prO; rw [if_pos c', e]; rfl
        unfold fpv
        try simp -dsimp only [at0, at1, at2, at3, at4, at5, at6, wp_fn, s_nil, s_brk, s_cnt, s_expr, s_ret, s_retN, s_if, s_asn, s_par, s_asg, g_nm, g_nil, g_cons, g_tupT, g_subW, w_v0, w_vS, w_c, w_op, w_un, w_anil, w_acons, w_tup, w_lst, w_call, w_callU, w_isi, w_meth, w_tru, w_bool, w_notS, w_andS, w_orS, w_ifx, w_andV, w_orV, w_notV, w_chain, wp_ok, wp_bad, wp_some, wp_none, wp_liftif, wp_if, asB_b, wp_noex, add_ii, sub_ii, mul_ii, fdiv_ii, mod_ii, pow_ii, neg_i, cmp_ii, lt_ii, le_ii, gt_ii, ge_ii, le_cc, muls_ii, muls_si, ins_cs, iadd_ii, isub_ii, w_onone, w_osome, w_sl, sl_s, sl_t, s_aug, eq_ss, len_s, ix_s, add_ss, str_s, tuple_t, list_t, is_n, not_n, non_n, non_i, non_b, non_s, non_t, non_r, abs_i, max_ii, min_ii, int_i, int_b, gcd_ii, len_t, ix_t, eq_v, ne_v, eq_ii, eq_bb, eq_nn, eq_in, eq_ni, iv_n_list, iv_n_tuple, iv_n_bool, iv_n_str, iv_n_int, okt_n, iv_b_list, iv_b_tuple, iv_b_bool, iv_b_str, iv_b_int, okt_b, iv_i_list, iv_i_tuple, iv_i_bool, iv_i_str, iv_i_int, okt_i, iv_s_list, iv_s_tuple, iv_s_bool, iv_s_str, iv_s_int, okt_s, iv_t_list, iv_t_tuple, iv_t_bool, iv_t_str, iv_t_int, okt_t, iv_r_list, iv_r_tuple, iv_r_bool, iv_r_str, iv_r_int, tru_b, tru_i, tru_n, tru_t, Option.map_some, Option.map_none, List.map_cons, List.map_nil, List.length_cons, List.length_nil, List.set_cons_zero, List.set_cons_succ, List.cons_append, List.nil_append, List.replicate, Nat.reduceAdd, Nat.reduceSub, Nat.reduceLeDiff, true_and, and_true, decide_eq_true_eq, reduceIte, Bool.false_eq_true, Bool.not_true, Bool.not_false, decide_true, decide_false]
        refine ⟨isLst_r hd, ?_⟩
        rw [append_r hd (by rw [List.length_map]; omega)]
        walk_at "w1"
        refine ⟨_, _, rfl, (get_set_eq hd).trans ?_, by rw [List.getElem?_set_ne (by omega)]; exact hk2, G.set (Nat.le_refl _)⟩
        rw [et, filterMap_snoc, ep, Option.toList_some, List.map_append]
        rfl
    · rw [if_neg (show ¬ ((s.race : Nat) : Int) = ((i : Nat) : Int) by omega)]
      have ep : prO L B R cs i s = none := by unfold prO; rw [if_neg (by omega)]
      exact ⟨_, _, rfl, by rw [et, filterMap_snoc, ep]; simpa using hd, hk2, G⟩
  · rintro l m' ⟨x5, x6, rfl, hd, hk2, G⟩
    rw [List.length_map, List.take_length] at hd
    walk_at "w1"
    refine (ranked_okX hd (fun p hp => ?_) (Nat.le_trans filterMap_le (by omega))).mono ?_
    · obtain ⟨s, _, e⟩ := List.mem_filterMap.mp hp
      exact prO_ok hcs hR e
    · rintro _ m2 ⟨z, rfl, hz, hzl, G2⟩
      exact ⟨z, rfl, hz, by have := G.len; omega, G.trans G2⟩
end
theorem listR_len {L : List Loft} {B : List Bird} {R : List Race} {cs : List Clk} {ss : List Slp} {i : Nat} : (listR L B R cs ss i).length ≤ ss.length := by
  unfold listR rowsS
  rw [List.length_mergeSort]
  unfold rk
  rw [List.length_map]
  exact Nat.le_trans filterMap_le cntL_len
/-! ## the law's own: fractions -/
theorem lowv_of {p q g a b : Int} (hg : 0 < g) (hb : 0 < b) (ep : p = a * g) (eq : q = b * g) (h : Nat.gcd a.natAbs b.natAbs = 1) : lowv p q = fpv a b := by
  have hq : 0 < q := by rw [eq]; exact Int.mul_pos hb hg
  obtain ⟨c, d, e1, e2, e3, _, _⟩ := lowv_red (p := p) (q := q) hq
  have e4 : a * d = c * b := by
    have : (a * d) * g = (c * b) * g := by
      have h1 : c * (b * g) = (a * g) * d := by rw [← eq, ← ep]; exact e3
      grind
    exact Int.eq_of_mul_eq_mul_right (by omega) this
  obtain ⟨rfl, rfl⟩ := Fq.uniq (a := a) (b := b) (c := c) (d := d) ⟨hb, h⟩ e2 e4
  exact e1
def NoD (n p q : Int) : Prop := p = 0 ∨ ∀ d : Int, 2 ≤ d → d < n → ¬ (d ∣ p ∧ d ∣ q)
structure FrI (p q p' q' : Int) : Prop where
  ex : ∃ g : Int, 0 < g ∧ p = p' * g ∧ q = q' * g
  p0 : 0 ≤ p'
  q0 : 0 < q'
theorem FrI.le {p q p' q' : Int} (h : FrI p q p' q') : p' ≤ p ∧ q' ≤ q := by
  obtain ⟨g, hg, rfl, rfl⟩ := h.ex
  have h1 := Int.mul_le_mul_of_nonneg_left (show (1 : Int) ≤ g by omega) h.p0
  have h2 := Int.mul_le_mul_of_nonneg_left (show (1 : Int) ≤ g by omega) (Int.le_of_lt h.q0)
  omega
theorem FrI.low {p q p' q' n : Int} (h : FrI p q p' q') (hd : NoD n p' q') (hn : p' < n ∨ q' < n) (hp : p' ≠ 0) : lowv p q = fpv p' q' := by
  obtain ⟨g, hg, e1, e2⟩ := h.ex
  refine lowv_of hg h.q0 e1 e2 ?_
  have h0 := h.p0
  have hq := h.q0
  have hG : 0 < Nat.gcd p'.natAbs q'.natAbs := Nat.gcd_pos_of_pos_right _ (by omega)
  have l1 : Nat.gcd p'.natAbs q'.natAbs ≤ p'.natAbs := Nat.gcd_le_left _ (by omega)
  have l2 : Nat.gcd p'.natAbs q'.natAbs ≤ q'.natAbs := Nat.gcd_le_right _ (by omega)
  refine Nat.le_antisymm (Nat.le_of_not_lt fun hlt => ?_) hG
  rcases hd with hd | hd
  · exact hp hd
  · exact hd (Nat.gcd p'.natAbs q'.natAbs : Nat) (by omega) (by omega) ⟨Int.ofNat_dvd_left.mpr (Nat.gcd_dvd_left _ _), Int.ofNat_dvd_left.mpr (Nat.gcd_dvd_right _ _)⟩
theorem FrI.step {p q p' q' d : Int} (h : FrI p q p' q') (hd : 2 ≤ d) (h1 : p' % d = 0) (h2 : q' % d = 0) (hp : p' ≠ 0) : FrI p q (p' / d) (q' / d) ∧ (p' / d).natAbs < p'.natAbs := by
  obtain ⟨a, rfl⟩ := Int.dvd_of_emod_eq_zero h1
  obtain ⟨b, rfl⟩ := Int.dvd_of_emod_eq_zero h2
  obtain ⟨g, hg, e1, e2⟩ := h.ex
  have hp0 := h.p0
  have hq0 := h.q0
  rw [Int.mul_ediv_cancel_left _ (by omega), Int.mul_ediv_cancel_left _ (by omega)]
  have hb : 0 < b := Int.pos_of_mul_pos_right hq0 (by omega) |> fun h => h
  have ha : 0 ≤ a := by
    rcases Int.lt_or_le a 0 with h | h
    · have := Int.mul_neg_of_pos_of_neg (show 0 < d by omega) h
      omega
    · exact h
  have ha2 : a ≠ 0 := by rintro rfl; exact hp (by simp)
  refine ⟨⟨⟨d * g, Int.mul_pos (by omega) hg, by rw [e1]; grind, by rw [e2]; grind⟩, ha, hb⟩, ?_⟩
  have h3 : 2 * a ≤ d * a := Int.mul_le_mul_of_nonneg_right hd ha
  omega
theorem NoD.step {n p q d : Int} (hd : 2 ≤ d) (h : NoD n p q) (h1 : p % d = 0) (h2 : q % d = 0) : NoD n (p / d) (q / d) := by
  rcases h with rfl | h
  · exact .inl (by simp)
  · refine .inr fun e he hn ⟨x, y⟩ => h e he hn ⟨?_, ?_⟩
    · obtain ⟨a, rfl⟩ := Int.dvd_of_emod_eq_zero h1
      rw [Int.mul_ediv_cancel_left _ (by omega)] at x
      exact Int.dvd_trans x (Int.dvd_mul_left _ _)
    · obtain ⟨a, rfl⟩ := Int.dvd_of_emod_eq_zero h2
      rw [Int.mul_ediv_cancel_left _ (by omega)] at y
      exact Int.dvd_trans y (Int.dvd_mul_left _ _)
theorem NoD.next {n p q : Int} (h : NoD n p q) (hn : ¬ (p % n = 0 ∧ q % n = 0 ∧ p ≠ 0)) : NoD (n + 1) p q := by
  rcases h with h | h
  · exact .inl h
  · by_cases hp : p = 0
    · exact .inl hp
    · refine .inr fun d h1 h2 h3 => ?_
      by_cases e : d = n
      · subst e
        exact hn ⟨Int.emod_eq_zero_of_dvd h3.1, Int.emod_eq_zero_of_dvd h3.2, hp⟩
      · exact h d h1 (by omega) h3
theorem lfrac_ok {p q : Int} {m : MH} (hp : 0 ≤ p) (hp2 : p ≤ 100000) (hq : 0 < q) (hq2 : q ≤ 100000) : WP (f_law_fraction [.int p, .int q] m) (fun x m' => x = lowv p q ∧ m' = m) NoE := by
  unfold f_law_fraction b_law_fraction
  walk_at "w1"
  rw [s_seq]
  refine s_for2W ?_
  walk_at "w1"
  refine ⟨2, _, rfl, rfl, ?_, fun k l m' => ∃ p' q' x2, l = [some (.int p'), some (.int q'), x2] ∧ m' = m ∧ FrI p q p' q' ∧ NoD (2 + k) p' q', ⟨p, q, _, rfl, rfl, ⟨⟨1, by decide, by omega, by omega⟩, hp, hq⟩, .inr fun d h1 h2 => by omega⟩, ?_, ?_⟩
  · refine ⟨by decide, by decide, ?_, ?_⟩
    all_goals
      repeat' split
      all_goals omega
  · rintro k l m hk ⟨p', q', x2, rfl, rfl, hF, hN⟩
    unfold law_fraction_l2
    walk_at "w1"
    have hle := hF.le
    refine s_while p'.natAbs (by have := hF.p0; omega) (fun z l m' => ∃ p' q', l = [some (.int p'), some (.int q'), some (.int (2 + (k : Nat)))] ∧ m' = m ∧ FrI p q p' q' ∧ NoD (2 + k) p' q' ∧ p'.natAbs ≤ z) ⟨p', q', rfl, rfl, hF, hN, Nat.le_refl _⟩ ?_
    clear hF hN hle
    rintro z l m ⟨p', q', rfl, rfl, hF, hN, hz⟩
    have h0 := hF.p0
    have hq0 := hF.q0
    have d2 : (2 : Int) ≤ 2 + (k : Nat) := by omega
    have hdb : (2 + ((k : Nat) : Int)).natAbs < big := big_of (by
      repeat' split at hk
      all_goals omega)
    generalize hd : (2 : Int) + ((k : Nat) : Int) = d at *
    have dn : d ≠ 0 := by omega
    walk_at "w1"
    rw [if_pos dn, fmod_pos (by omega)]
    walk_at "w1"
    by_cases h1 : p' % d = 0
    · rw [if_pos h1, if_pos dn, fmod_pos (by omega)]
      by_cases h2 : q' % d = 0
      · rw [if_pos h2]
        by_cases h3 : p' = 0
        · rw [if_neg (by simp [h3])]
          exact ⟨p', q', _, rfl, hF, by rw [show (2 : Int) + ((k + 1 : Nat) : Int) = d + 1 by omega]; exact hN.next fun z => z.2.2 h3⟩
        · rw [if_pos (by simp [h3])]
          obtain ⟨f1, f2⟩ := hF.step d2 h1 h2 h3
          refine ⟨by omega, ?_⟩
          unfold law_fraction_l1
          walk_at "w1"
          rw [s_seq]
          walk_at "w1"
          rw [if_pos ⟨dn, hdb⟩, fdiv_pos (by omega)]
          walk_at "w1"
          rw [if_pos ⟨dn, hdb⟩, fdiv_pos (by omega)]
          walk_at "w1"
          exact ⟨_, _, rfl, f1, hN.step d2 h1 h2, by omega⟩
      · rw [if_neg h2]
        exact ⟨p', q', _, rfl, hF, by rw [show (2 : Int) + ((k + 1 : Nat) : Int) = d + 1 by omega]; exact hN.next fun z => h2 z.2.1⟩
    · rw [if_neg h1]
      exact ⟨p', q', _, rfl, hF, by rw [show (2 : Int) + ((k + 1 : Nat) : Int) = d + 1 by omega]; exact hN.next fun z => h1 z.1⟩
  · rintro l m ⟨p', q', x2, rfl, rfl, hF, hN⟩
    rw [s_seq]
    walk_at "w1"
    by_cases c : p' = 0
    · rw [if_pos c]
      obtain ⟨g, hg, e1, e2⟩ := hF.ex
      rw [c] at e1
      have : p = 0 := by rw [e1]; simp
      exact (lowv_of (g := q) (a := 0) (b := 1) hq (by decide) (by omega) (by omega) (by decide)).symm
    · rw [if_neg c]
      have hle := hF.le
      have h0 := hF.p0
      have hq0 := hF.q0
      refine (hF.low hN ?_ c).symm
      repeat' split
      all_goals omega
/-! ## the law's own: digits -/
theorem digits_ok {m : MH} {c k : Int} (hk : 0 ≤ k) (hk2 : k ≤ 100) :
    WP (f_law_digits [.int c, .int k, .int 20] m) (fun x m' => ∃ ds, x = .ref m.length ∧ m' = m ++ [.lst (ds.map .int)] ∧ Dig ds ∧ ds.length ≤ 20) NoE := by
  unfold f_law_digits b_law_digits
  walk_at "w1"
  walk_at "sq"
  refine s_cut (mid := fun l m' => ∃ c, 0 ≤ c ∧ l = [some (.int c), some (.int k), some (.int 20), some (.ref m.length), none, none] ∧ m' = m ++ [.lst []]) ?_ ?_
  · walk_at "w1"
    by_cases h0 : c < 0
    · rw [if_pos h0]
      walk_at "w1"
      exact ⟨-1 - c, by omega, rfl⟩
    · rw [if_neg h0]
      exact ⟨c, by omega, rfl⟩
  rintro _ _ ⟨c, hc, rfl, rfl⟩
  rw [s_seq]
  walk_at "w1"
  rw [if_pos (by decide)]
  simp only [Int.reduceToNat, Int.reducePow]
  by_cases hbig : 1000000000000000000 ≤ c
  · rw [if_pos hbig]
    refine s_for1 (j := 60) 60 rfl rfl (by decide) (by decide) (fun j l m' => ∃ ds' c' x4, l = [some (.int c'), some (.int k), some (.int 20), some (.ref m.length), x4, none] ∧ m' = m ++ [.lst (ds'.map .int)] ∧ Dig ds' ∧ ds'.length ≤ 20 ∧ 0 ≤ c') ⟨[], c, none, rfl, rfl, (fun _ h => by cases h), by simp, hc⟩ ?_ ?_
    · rintro j l m' hj ⟨ds', c', x4, rfl, rfl, hd', hl', hc'⟩
      unfold law_digits_l1
      walk_at "w1"
      by_cases h0 : 0 < c'
      · rw [if_pos h0]
        rw [len_r (seq_of_lst get_new), List.length_map]
        walk_at "w1"
        by_cases h1 : ((ds'.length : Nat) : Int) < 20
        · rw [if_pos h1]
          walk_at "sq"
          refine ⟨isLst_new, ?_⟩
          rw [if_pos (by decide), fmod_pos (by decide), append_new (by omega)]
          walk_at "wp"
          rw [if_pos ⟨by decide, big_of (by decide)⟩, fdiv_pos (by decide)]
          exact ⟨ds' ++ [c' % 1000], c' / 1000, _, rfl, rfl, hd'.snoc c', by simp; omega, Int.ediv_nonneg hc' (by decide)⟩
        · rw [if_neg h1]
          exact ⟨ds', c', _, rfl, rfl, hd', by omega, hc'⟩
      · rw [if_neg h0]
        exact ⟨ds', c', _, rfl, rfl, hd', by omega, hc'⟩
    · rintro l m' ⟨ds', c', x4, rfl, rfl, hd', hl', hc'⟩
      walk_at "w1"
      exact ⟨ds', rfl, hd', hl'⟩
  · rw [if_neg hbig]
    have hlt : c < 1000000000000000000 := by omega
    walk_at "sq"
    rw [if_pos (.inl (.inl (by omega))), if_pos (.inl (.inl (by omega))), if_pos (by decide), fmod_pos (by decide)]
    refine s_for1 (j := 20) 20 rfl rfl (by decide) (by decide) (fun j l m' => ∃ ds' sd x4, l = [some (.int c), some (.int k), some (.int 20), some (.ref m.length), x4, some (.int sd)] ∧ m' = m ++ [.lst (ds'.map .int)] ∧ Dig ds' ∧ ds'.length ≤ j ∧ 0 ≤ sd ∧ sd < 2147483647) ⟨[], _, none, rfl, rfl, (fun _ h => by cases h), by simp, Int.emod_nonneg _ (by decide), Int.emod_lt_of_pos _ (by decide)⟩ ?_ ?_
    · rintro j l m' hj ⟨ds', sd, x4, rfl, rfl, hd', hl', hs1, hs2⟩
      unfold law_digits_l2
      walk_at "w1"
      walk_at "sq"
      rw [if_pos (.inl (.inl (by omega))), if_pos (.inl (.inl (by decide))), if_pos (by decide)]
      walk_at "w1"
      refine ⟨isLst_new, ?_⟩
      rw [if_pos ⟨by decide, big_of (by decide)⟩, if_pos (by decide), fmod_pos (by decide), fmod_pos (by decide), append_new (by omega)]
      walk_at "w1"
      exact ⟨_, _, _, rfl, rfl, hd'.snoc _, by simp; omega, Int.emod_nonneg _ (by decide), Int.emod_lt_of_pos _ (by decide)⟩
    · rintro l m' ⟨ds', sd, x4, rfl, rfl, hd', hl', _⟩
      walk_at "w1"
      exact ⟨ds', rfl, hd', by omega⟩
/-- a list of 20 digits at least -/
structure Pd (ds : List Int) : Prop where
  dg : Dig ds
  lo : 20 ≤ ds.length
theorem Pd.at {ds : List Int} (h : Pd ds) {i : Int} (h0 : 0 ≤ i) (h1 : i < 20) : ∃ d, atI (ds.map PV.int) i = some (.int d) ∧ 0 ≤ d ∧ d < 1000 := by
  have hl := h.lo
  obtain ⟨i, rfl⟩ := Int.eq_ofNat_of_zero_le h0
  have e : ds[i]? = some (ds[i]'(by omega)) := List.getElem?_eq_getElem (by omega)
  exact ⟨_, at_map e, h.dg _ (List.mem_of_getElem? e)⟩
theorem padded_ok {m : MH} {c k : Int} (hk : 0 ≤ k) (hk2 : k ≤ 100) :
    WP (f_law_padded [.int c, .int k] m) (fun x m' => ∃ ds, x = .ref m.length ∧ m' = m ++ [.lst (ds.map .int)] ∧ Pd ds) NoE := by
  unfold f_law_padded b_law_padded
  walk_at "w1"
  rw [s_seq]
  walk_at "w1"
  refine (digits_ok hk hk2).mono ?_
  rintro _ _ ⟨ds, rfl, rfl, hd, hl⟩
  walk_at "w1"
  rw [s_seq]
  refine s_for1 (j := 20) 20 rfl rfl (by decide) (by decide) (fun i l m' => ∃ ds x3, l = [some (.int c), some (.int k), some (.ref m.length), x3] ∧ m' = m ++ [.lst (ds.map .int)] ∧ Dig ds ∧ i ≤ ds.length ∧ ds.length ≤ 20 + i) ⟨ds, _, rfl, rfl, hd, Nat.zero_le _, by omega⟩ ?_ ?_
  · rintro i l m' hi ⟨ds, x3, rfl, rfl, hd, h1, h2⟩
    unfold law_padded_l1
    walk_at "w1"
    refine ⟨isLst_new, ?_⟩
    rw [append_new (by omega)]
    walk_at "w1"
    refine ⟨ds ++ [((i : Nat) : Int)], _, rfl, rfl, fun d hm => (List.mem_append.mp hm).elim (hd d) fun e => by rw [List.mem_singleton.mp e]; omega, by simp; omega, by simp; omega⟩
  · rintro l m' ⟨ds, x3, rfl, rfl, hd, h1, h2⟩
    walk_at "w1"
    exact ⟨ds, rfl, hd, h1⟩
/-! ## the law's own: the club -/
structure ClubG (L : List Loft) (B : List Bird) (R : List Race) : Prop where
  l1 : 1 ≤ L.length
  l2 : L.length ≤ 3
  b1 : 1 ≤ B.length
  b2 : B.length ≤ 5
  r1 : 1 ≤ R.length
  r2 : R.length ≤ 2
  lx : ∀ l ∈ L, LoftOk l
  bx : ∀ b ∈ B, 0 ≤ b.loft ∧ b.loft < L.length
  bn : (B.map Bird.ring).Nodup
  rx : ∀ r ∈ R, RaceOk L r
  rs : ∀ r ∈ R, 300 ≤ r.start ∧ r.close ≤ 3000
theorem pick4 {m : MH} {n : Nat} {a b c d v : Int} (h : m[n]? = some (.lst [.int a, .int b, .int c, .int d])) (h0 : 0 ≤ v) (h1 : v < 4) : ∃ w, ixv (.ref n) (.int v) m = some (.int w, m) ∧ (w = a ∨ w = b ∨ w = c ∨ w = d) := by
  rcases (by omega : v = 0 ∨ v = 1 ∨ v = 2 ∨ v = 3) with rfl | rfl | rfl | rfl
  · exact ⟨a, by rw [ix_r (seq_of_lst h), at0]; rfl, .inl rfl⟩
  · exact ⟨b, by rw [ix_r (seq_of_lst h), at1]; rfl, .inr (.inl rfl)⟩
  · exact ⟨c, by rw [ix_r (seq_of_lst h), at2]; rfl, .inr (.inr (.inl rfl))⟩
  · exact ⟨d, by rw [ix_r (seq_of_lst h), at3]; rfl, .inr (.inr (.inr rfl))⟩
theorem pick3 {m : MH} {n : Nat} {a c e v : Int} (h : m[n]? = some (.lst [.int a, .int c, .int e])) (h0 : 0 ≤ v) (h1 : v < 3) : ∃ w, ixv (.ref n) (.int v) m = some (.int w, m) ∧ (w = a ∨ w = c ∨ w = e) := by
  rcases (by omega : v = 0 ∨ v = 1 ∨ v = 2) with rfl | rfl | rfl
  · exact ⟨a, by rw [ix_r (seq_of_lst h), at0]; rfl, .inl rfl⟩
  · exact ⟨c, by rw [ix_r (seq_of_lst h), at1]; rfl, .inr (.inl rfl)⟩
  · exact ⟨e, by rw [ix_r (seq_of_lst h), at2]; rfl, .inr (.inr rfl)⟩
theorem pix {m : MH} {n : Nat} {ds : List Int} {i d : Int} (h : m[n]? = some (.lst (ds.map .int))) (e : atI (ds.map PV.int) i = some (.int d)) : ixv (.ref n) (.int i) m = some (.int d, m) := by rw [ix_r (seq_of_lst h), e]; rfl
theorem club_ok {m : MH} {ns : List Int} (h : m[0]? = some (.frz (ns.map .int))) :
    WP (f_law_club [.ref 0] m) (fun x m' => ∃ L B R, x = clubPV L B R ∧ ClubG L B R ∧ Gr m m') NoE := by
  have hm := (List.getElem?_eq_some_iff.mp h).1
  unfold f_law_club b_law_club
  walk_at "w1"
  rw [s_seq]
  walk_at "w1"
  refine (cell_ok (seq_of_frz h) (by decide)).mono ?_
  rintro _ m ⟨rfl, rfl⟩
  generalize ns.getD (0 : Int).toNat 0 = c0
  walk_at "w1"
  refine (padded_ok (by decide) (by decide)).mono ?_
  rintro _ _ ⟨ds, rfl, rfl, hp⟩
  walk_at "w1"
  have PD0 : (m ++ [MO.lst (ds.map PV.int)])[m.length]? = some (MO.lst (ds.map PV.int)) := get_new
  have G0 : Gr m (m ++ [MO.lst (ds.map PV.int)]) := Gr.one
  have hdn : m.length < (m ++ [MO.lst (ds.map PV.int)]).length := by simp
  have hmd : m.length ≤ m.length := Nat.le_refl _
  generalize m ++ [MO.lst (ds.map PV.int)] = m1 at *
  obtain ⟨dn, edn⟩ : ∃ dn, dn = m.length := ⟨_, rfl⟩
  rw [← edn] at PD0 hdn ⊢
  obtain ⟨d0, e0, a0, b0⟩ := hp.at (i := 0) (by decide) (by decide)
  obtain ⟨d7, e7, a7, b7⟩ := hp.at (i := 7) (by decide) (by decide)
  obtain ⟨d13, e13, a13, b13⟩ := hp.at (i := 13) (by decide) (by decide)
  obtain ⟨d18, e18, a18, b18⟩ := hp.at (i := 18) (by decide) (by decide)
  obtain ⟨d19, e19, a19, b19⟩ := hp.at (i := 19) (by decide) (by decide)
  rw [s_seq]
  walk_at "w1"
  have PD1 := get_old (o := .lst []) PD0
  have PL1 := get_new (m := m1) (o := .lst [])
  have G1 := G0.push (.lst [])
  have hlf : m1.length < (m1 ++ [MO.lst []]).length := by simp
  generalize m1 ++ [MO.lst []] = m2 at *
  generalize m1.length = lf at *
  rw [s_seq]
  refine s_for1W ?_
  try simp -dsimp only [pix PD1 e0, at0, at1, at2, at3, at4, at5, at6, wp_fn, s_nil, s_brk, s_cnt, s_expr, s_ret, s_retN, s_if, s_asn, s_par, s_asg, g_nm, g_nil, g_cons, g_tupT, g_subW, w_v0, w_vS, w_c, w_op, w_un, w_anil, w_acons, w_tup, w_lst, w_call, w_callU, w_isi, w_meth, w_tru, w_bool, w_notS, w_andS, w_orS, w_ifx, w_andV, w_orV, w_notV, w_chain, wp_ok, wp_bad, wp_some, wp_none, wp_liftif, wp_if, asB_b, wp_noex, add_ii, sub_ii, mul_ii, fdiv_ii, mod_ii, pow_ii, neg_i, cmp_ii, lt_ii, le_ii, gt_ii, ge_ii, le_cc, muls_ii, muls_si, ins_cs, iadd_ii, isub_ii, w_onone, w_osome, w_sl, sl_s, sl_t, s_aug, eq_ss, len_s, ix_s, add_ss, str_s, tuple_t, list_t, is_n, not_n, non_n, non_i, non_b, non_s, non_t, non_r, abs_i, max_ii, min_ii, int_i, int_b, gcd_ii, len_t, ix_t, eq_v, ne_v, eq_ii, eq_bb, eq_nn, eq_in, eq_ni, iv_n_list, iv_n_tuple, iv_n_bool, iv_n_str, iv_n_int, okt_n, iv_b_list, iv_b_tuple, iv_b_bool, iv_b_str, iv_b_int, okt_b, iv_i_list, iv_i_tuple, iv_i_bool, iv_i_str, iv_i_int, okt_i, iv_s_list, iv_s_tuple, iv_s_bool, iv_s_str, iv_s_int, okt_s, iv_t_list, iv_t_tuple, iv_t_bool, iv_t_str, iv_t_int, okt_t, iv_r_list, iv_r_tuple, iv_r_bool, iv_r_str, iv_r_int, tru_b, tru_i, tru_n, tru_t, Option.map_some, Option.map_none, List.map_cons, List.map_nil, List.length_cons, List.length_nil, List.set_cons_zero, List.set_cons_succ, List.cons_append, List.nil_append, List.replicate, Nat.reduceAdd, Nat.reduceSub, Nat.reduceLeDiff, true_and, and_true, decide_eq_true_eq, reduceIte, Bool.false_eq_true, Bool.not_true, Bool.not_false, decide_true, decide_false]
  (repeat first | rw [if_pos (by decide)] | rw [fmod_pos (by omega)])
  try simp -dsimp only [at0, at1, at2, at3, at4, at5, at6, wp_fn, s_nil, s_brk, s_cnt, s_expr, s_ret, s_retN, s_if, s_asn, s_par, s_asg, g_nm, g_nil, g_cons, g_tupT, g_subW, w_v0, w_vS, w_c, w_op, w_un, w_anil, w_acons, w_tup, w_lst, w_call, w_callU, w_isi, w_meth, w_tru, w_bool, w_notS, w_andS, w_orS, w_ifx, w_andV, w_orV, w_notV, w_chain, wp_ok, wp_bad, wp_some, wp_none, wp_liftif, wp_if, asB_b, wp_noex, add_ii, sub_ii, mul_ii, fdiv_ii, mod_ii, pow_ii, neg_i, cmp_ii, lt_ii, le_ii, gt_ii, ge_ii, le_cc, muls_ii, muls_si, ins_cs, iadd_ii, isub_ii, w_onone, w_osome, w_sl, sl_s, sl_t, s_aug, eq_ss, len_s, ix_s, add_ss, str_s, tuple_t, list_t, is_n, not_n, non_n, non_i, non_b, non_s, non_t, non_r, abs_i, max_ii, min_ii, int_i, int_b, gcd_ii, len_t, ix_t, eq_v, ne_v, eq_ii, eq_bb, eq_nn, eq_in, eq_ni, iv_n_list, iv_n_tuple, iv_n_bool, iv_n_str, iv_n_int, okt_n, iv_b_list, iv_b_tuple, iv_b_bool, iv_b_str, iv_b_int, okt_b, iv_i_list, iv_i_tuple, iv_i_bool, iv_i_str, iv_i_int, okt_i, iv_s_list, iv_s_tuple, iv_s_bool, iv_s_str, iv_s_int, okt_s, iv_t_list, iv_t_tuple, iv_t_bool, iv_t_str, iv_t_int, okt_t, iv_r_list, iv_r_tuple, iv_r_bool, iv_r_str, iv_r_int, tru_b, tru_i, tru_n, tru_t, Option.map_some, Option.map_none, List.map_cons, List.map_nil, List.length_cons, List.length_nil, List.set_cons_zero, List.set_cons_succ, List.cons_append, List.nil_append, List.replicate, Nat.reduceAdd, Nat.reduceSub, Nat.reduceLeDiff, true_and, and_true, decide_eq_true_eq, reduceIte, Bool.false_eq_true, Bool.not_true, Bool.not_false, decide_true, decide_false]
  refine ⟨_, rfl, by omega, by omega, fun i l m' => ∃ (L : List Loft) (x3 : Option PV), l = [some (.ref 0), some (.ref dn), some (.ref lf), x3, none, none, none, none, none] ∧ m'[lf]? = some (MO.lst (L.map Loft.pv)) ∧ (∀ l ∈ L, LoftOk l ∧ l.x ≤ 3) ∧ L.length = i ∧ m'[dn]? = some (MO.lst (ds.map PV.int)) ∧ Gr m m' ∧ lf < m'.length, ⟨[], _, rfl, PL1, no_mem1, rfl, PD1, G1, hlf⟩, ?_, ?_⟩
  · clear PD0 PD1 PL1 G0 G1 hlf
    rintro i l m' hi ⟨L, x3, rfl, P, hL, hLl, PD, G, hlf⟩
    obtain ⟨u, eu, au, bu⟩ := hp.at (i := 1 + (i : Nat)) (by omega) (by omega)
    obtain ⟨v, ev, av, bv⟩ := hp.at (i := 4 + (i : Nat)) (by omega) (by omega)
    obtain ⟨c, ec, _⟩ := atI_in (xs := [97, 98, 99]) (i := (i : Nat)) (by omega) (by show ((i : Nat) : Int) < 3; omega)
    unfold law_club_l1
    try simp -dsimp only [ec, pix PD eu, pix PD ev, at0, at1, at2, at3, at4, at5, at6, wp_fn, s_nil, s_brk, s_cnt, s_expr, s_ret, s_retN, s_if, s_asn, s_par, s_asg, g_nm, g_nil, g_cons, g_tupT, g_subW, w_v0, w_vS, w_c, w_op, w_un, w_anil, w_acons, w_tup, w_lst, w_call, w_callU, w_isi, w_meth, w_tru, w_bool, w_notS, w_andS, w_orS, w_ifx, w_andV, w_orV, w_notV, w_chain, wp_ok, wp_bad, wp_some, wp_none, wp_liftif, wp_if, asB_b, wp_noex, add_ii, sub_ii, mul_ii, fdiv_ii, mod_ii, pow_ii, neg_i, cmp_ii, lt_ii, le_ii, gt_ii, ge_ii, le_cc, muls_ii, muls_si, ins_cs, iadd_ii, isub_ii, w_onone, w_osome, w_sl, sl_s, sl_t, s_aug, eq_ss, len_s, ix_s, add_ss, str_s, tuple_t, list_t, is_n, not_n, non_n, non_i, non_b, non_s, non_t, non_r, abs_i, max_ii, min_ii, int_i, int_b, gcd_ii, len_t, ix_t, eq_v, ne_v, eq_ii, eq_bb, eq_nn, eq_in, eq_ni, iv_n_list, iv_n_tuple, iv_n_bool, iv_n_str, iv_n_int, okt_n, iv_b_list, iv_b_tuple, iv_b_bool, iv_b_str, iv_b_int, okt_b, iv_i_list, iv_i_tuple, iv_i_bool, iv_i_str, iv_i_int, okt_i, iv_s_list, iv_s_tuple, iv_s_bool, iv_s_str, iv_s_int, okt_s, iv_t_list, iv_t_tuple, iv_t_bool, iv_t_str, iv_t_int, okt_t, iv_r_list, iv_r_tuple, iv_r_bool, iv_r_str, iv_r_int, tru_b, tru_i, tru_n, tru_t, Option.map_some, Option.map_none, List.map_cons, List.map_nil, List.length_cons, List.length_nil, List.set_cons_zero, List.set_cons_succ, List.cons_append, List.nil_append, List.replicate, Nat.reduceAdd, Nat.reduceSub, Nat.reduceLeDiff, true_and, and_true, decide_eq_true_eq, reduceIte, Bool.false_eq_true, Bool.not_true, Bool.not_false, decide_true, decide_false]
    refine ⟨isLst_r P, ?_⟩
    (repeat first | rw [if_pos (by decide)] | rw [fmod_pos (by omega)])
    try simp -dsimp only [at0, at1, at2, at3, at4, at5, at6, wp_fn, s_nil, s_brk, s_cnt, s_expr, s_ret, s_retN, s_if, s_asn, s_par, s_asg, g_nm, g_nil, g_cons, g_tupT, g_subW, w_v0, w_vS, w_c, w_op, w_un, w_anil, w_acons, w_tup, w_lst, w_call, w_callU, w_isi, w_meth, w_tru, w_bool, w_notS, w_andS, w_orS, w_ifx, w_andV, w_orV, w_notV, w_chain, wp_ok, wp_bad, wp_some, wp_none, wp_liftif, wp_if, asB_b, wp_noex, add_ii, sub_ii, mul_ii, fdiv_ii, mod_ii, pow_ii, neg_i, cmp_ii, lt_ii, le_ii, gt_ii, ge_ii, le_cc, muls_ii, muls_si, ins_cs, iadd_ii, isub_ii, w_onone, w_osome, w_sl, sl_s, sl_t, s_aug, eq_ss, len_s, ix_s, add_ss, str_s, tuple_t, list_t, is_n, not_n, non_n, non_i, non_b, non_s, non_t, non_r, abs_i, max_ii, min_ii, int_i, int_b, gcd_ii, len_t, ix_t, eq_v, ne_v, eq_ii, eq_bb, eq_nn, eq_in, eq_ni, iv_n_list, iv_n_tuple, iv_n_bool, iv_n_str, iv_n_int, okt_n, iv_b_list, iv_b_tuple, iv_b_bool, iv_b_str, iv_b_int, okt_b, iv_i_list, iv_i_tuple, iv_i_bool, iv_i_str, iv_i_int, okt_i, iv_s_list, iv_s_tuple, iv_s_bool, iv_s_str, iv_s_int, okt_s, iv_t_list, iv_t_tuple, iv_t_bool, iv_t_str, iv_t_int, okt_t, iv_r_list, iv_r_tuple, iv_r_bool, iv_r_str, iv_r_int, tru_b, tru_i, tru_n, tru_t, Option.map_some, Option.map_none, List.map_cons, List.map_nil, List.length_cons, List.length_nil, List.set_cons_zero, List.set_cons_succ, List.cons_append, List.nil_append, List.replicate, Nat.reduceAdd, Nat.reduceSub, Nat.reduceLeDiff, true_and, and_true, decide_eq_true_eq, reduceIte, Bool.false_eq_true, Bool.not_true, Bool.not_false, decide_true, decide_false]
    rw [append_r P (by rw [List.length_map]; omega)]
    try simp -dsimp only [at0, at1, at2, at3, at4, at5, at6, wp_fn, s_nil, s_brk, s_cnt, s_expr, s_ret, s_retN, s_if, s_asn, s_par, s_asg, g_nm, g_nil, g_cons, g_tupT, g_subW, w_v0, w_vS, w_c, w_op, w_un, w_anil, w_acons, w_tup, w_lst, w_call, w_callU, w_isi, w_meth, w_tru, w_bool, w_notS, w_andS, w_orS, w_ifx, w_andV, w_orV, w_notV, w_chain, wp_ok, wp_bad, wp_some, wp_none, wp_liftif, wp_if, asB_b, wp_noex, add_ii, sub_ii, mul_ii, fdiv_ii, mod_ii, pow_ii, neg_i, cmp_ii, lt_ii, le_ii, gt_ii, ge_ii, le_cc, muls_ii, muls_si, ins_cs, iadd_ii, isub_ii, w_onone, w_osome, w_sl, sl_s, sl_t, s_aug, eq_ss, len_s, ix_s, add_ss, str_s, tuple_t, list_t, is_n, not_n, non_n, non_i, non_b, non_s, non_t, non_r, abs_i, max_ii, min_ii, int_i, int_b, gcd_ii, len_t, ix_t, eq_v, ne_v, eq_ii, eq_bb, eq_nn, eq_in, eq_ni, iv_n_list, iv_n_tuple, iv_n_bool, iv_n_str, iv_n_int, okt_n, iv_b_list, iv_b_tuple, iv_b_bool, iv_b_str, iv_b_int, okt_b, iv_i_list, iv_i_tuple, iv_i_bool, iv_i_str, iv_i_int, okt_i, iv_s_list, iv_s_tuple, iv_s_bool, iv_s_str, iv_s_int, okt_s, iv_t_list, iv_t_tuple, iv_t_bool, iv_t_str, iv_t_int, okt_t, iv_r_list, iv_r_tuple, iv_r_bool, iv_r_str, iv_r_int, tru_b, tru_i, tru_n, tru_t, Option.map_some, Option.map_none, List.map_cons, List.map_nil, List.length_cons, List.length_nil, List.set_cons_zero, List.set_cons_succ, List.cons_append, List.nil_append, List.replicate, Nat.reduceAdd, Nat.reduceSub, Nat.reduceLeDiff, true_and, and_true, decide_eq_true_eq, reduceIte, Bool.false_eq_true, Bool.not_true, Bool.not_false, decide_true, decide_false]
    refine ⟨L ++ [⟨[c], u % 4, v % 3⟩], _, rfl, (get_set_eq P).trans ?_, fun z hz => (List.mem_append.mp hz).elim (hL z) fun e => ?_, by simp [hLl], by rw [List.getElem?_set_ne (by omega)]; exact PD, G.set (by omega), by simpa using hlf⟩
    · rw [List.map_append]; rfl
    · rw [List.mem_singleton.mp e]
      exact ⟨⟨⟨by show -9999 ≤ u % 4; omega, by show u % 4 ≤ 9999; omega⟩, ⟨by show -9999 ≤ v % 3; omega, by show v % 3 ≤ 9999; omega⟩⟩, by show u % 4 ≤ 3; omega⟩
  clear PD0 PD1 PL1 G0 G1 hlf
  rintro l m3 ⟨L, x3, rfl, PL, hL, hLl, PD, G, hlf⟩
  have hL1 : 1 ≤ L.length := by omega
  have hL2 : L.length ≤ 3 := by omega
  walk_at "w1"
  rw [s_seq]
  walk_at "w1"
  have PD1 := get_old (o := .lst []) PD
  have PL1 := get_old (o := .lst []) PL
  have PB1 := get_new (m := m3) (o := .lst [])
  have G1 := G.push (.lst [])
  have hbf : m3.length < (m3 ++ [MO.lst []]).length := by simp
  have hne : lf < m3.length ∧ dn < m3.length := by have := G.len; omega
  generalize m3 ++ [MO.lst []] = m4 at *
  generalize m3.length = bf at *
  rw [s_seq]
  refine s_for1W ?_
  try simp -dsimp only [pix PD1 e7, at0, at1, at2, at3, at4, at5, at6, wp_fn, s_nil, s_brk, s_cnt, s_expr, s_ret, s_retN, s_if, s_asn, s_par, s_asg, g_nm, g_nil, g_cons, g_tupT, g_subW, w_v0, w_vS, w_c, w_op, w_un, w_anil, w_acons, w_tup, w_lst, w_call, w_callU, w_isi, w_meth, w_tru, w_bool, w_notS, w_andS, w_orS, w_ifx, w_andV, w_orV, w_notV, w_chain, wp_ok, wp_bad, wp_some, wp_none, wp_liftif, wp_if, asB_b, wp_noex, add_ii, sub_ii, mul_ii, fdiv_ii, mod_ii, pow_ii, neg_i, cmp_ii, lt_ii, le_ii, gt_ii, ge_ii, le_cc, muls_ii, muls_si, ins_cs, iadd_ii, isub_ii, w_onone, w_osome, w_sl, sl_s, sl_t, s_aug, eq_ss, len_s, ix_s, add_ss, str_s, tuple_t, list_t, is_n, not_n, non_n, non_i, non_b, non_s, non_t, non_r, abs_i, max_ii, min_ii, int_i, int_b, gcd_ii, len_t, ix_t, eq_v, ne_v, eq_ii, eq_bb, eq_nn, eq_in, eq_ni, iv_n_list, iv_n_tuple, iv_n_bool, iv_n_str, iv_n_int, okt_n, iv_b_list, iv_b_tuple, iv_b_bool, iv_b_str, iv_b_int, okt_b, iv_i_list, iv_i_tuple, iv_i_bool, iv_i_str, iv_i_int, okt_i, iv_s_list, iv_s_tuple, iv_s_bool, iv_s_str, iv_s_int, okt_s, iv_t_list, iv_t_tuple, iv_t_bool, iv_t_str, iv_t_int, okt_t, iv_r_list, iv_r_tuple, iv_r_bool, iv_r_str, iv_r_int, tru_b, tru_i, tru_n, tru_t, Option.map_some, Option.map_none, List.map_cons, List.map_nil, List.length_cons, List.length_nil, List.set_cons_zero, List.set_cons_succ, List.cons_append, List.nil_append, List.replicate, Nat.reduceAdd, Nat.reduceSub, Nat.reduceLeDiff, true_and, and_true, decide_eq_true_eq, reduceIte, Bool.false_eq_true, Bool.not_true, Bool.not_false, decide_true, decide_false]
  (repeat first | rw [if_pos (by decide)] | rw [fmod_pos (by omega)])
  try simp -dsimp only [at0, at1, at2, at3, at4, at5, at6, wp_fn, s_nil, s_brk, s_cnt, s_expr, s_ret, s_retN, s_if, s_asn, s_par, s_asg, g_nm, g_nil, g_cons, g_tupT, g_subW, w_v0, w_vS, w_c, w_op, w_un, w_anil, w_acons, w_tup, w_lst, w_call, w_callU, w_isi, w_meth, w_tru, w_bool, w_notS, w_andS, w_orS, w_ifx, w_andV, w_orV, w_notV, w_chain, wp_ok, wp_bad, wp_some, wp_none, wp_liftif, wp_if, asB_b, wp_noex, add_ii, sub_ii, mul_ii, fdiv_ii, mod_ii, pow_ii, neg_i, cmp_ii, lt_ii, le_ii, gt_ii, ge_ii, le_cc, muls_ii, muls_si, ins_cs, iadd_ii, isub_ii, w_onone, w_osome, w_sl, sl_s, sl_t, s_aug, eq_ss, len_s, ix_s, add_ss, str_s, tuple_t, list_t, is_n, not_n, non_n, non_i, non_b, non_s, non_t, non_r, abs_i, max_ii, min_ii, int_i, int_b, gcd_ii, len_t, ix_t, eq_v, ne_v, eq_ii, eq_bb, eq_nn, eq_in, eq_ni, iv_n_list, iv_n_tuple, iv_n_bool, iv_n_str, iv_n_int, okt_n, iv_b_list, iv_b_tuple, iv_b_bool, iv_b_str, iv_b_int, okt_b, iv_i_list, iv_i_tuple, iv_i_bool, iv_i_str, iv_i_int, okt_i, iv_s_list, iv_s_tuple, iv_s_bool, iv_s_str, iv_s_int, okt_s, iv_t_list, iv_t_tuple, iv_t_bool, iv_t_str, iv_t_int, okt_t, iv_r_list, iv_r_tuple, iv_r_bool, iv_r_str, iv_r_int, tru_b, tru_i, tru_n, tru_t, Option.map_some, Option.map_none, List.map_cons, List.map_nil, List.length_cons, List.length_nil, List.set_cons_zero, List.set_cons_succ, List.cons_append, List.nil_append, List.replicate, Nat.reduceAdd, Nat.reduceSub, Nat.reduceLeDiff, true_and, and_true, decide_eq_true_eq, reduceIte, Bool.false_eq_true, Bool.not_true, Bool.not_false, decide_true, decide_false]
  refine ⟨_, rfl, by omega, by omega, fun i l m' => ∃ (B : List Bird) (x3 : Option PV), l = [some (.ref 0), some (.ref dn), some (.ref lf), x3, some (.ref bf), none, none, none, none] ∧ m'[bf]? = some (MO.lst (B.map Bird.pv)) ∧ (∀ (j : Nat) b, B[j]? = some b → (9 * (j : Int) + 1 ≤ b.ring ∧ b.ring ≤ 9 * j + 9) ∧ 0 ≤ b.loft ∧ b.loft < L.length) ∧ B.length = i ∧ m'[dn]? = some (MO.lst (ds.map PV.int)) ∧ m'[lf]? = some (MO.lst (L.map Loft.pv)) ∧ Gr m m' ∧ bf < m'.length, ⟨[], _, rfl, PB1, fun j b e => by simp at e, rfl, PD1, PL1, G1, hbf⟩, ?_, ?_⟩
  · clear PD PL PD1 PL1 PB1 G G1 hbf
    rintro i l m' hi ⟨B, x3, rfl, P, hB, hBl, PD, PL, G, hbf⟩
    obtain ⟨u, eu, au, bu⟩ := hp.at (i := 8 + (i : Nat)) (by omega) (by omega)
    unfold law_club_l2
    try simp -dsimp only [pix PD eu, at0, at1, at2, at3, at4, at5, at6, wp_fn, s_nil, s_brk, s_cnt, s_expr, s_ret, s_retN, s_if, s_asn, s_par, s_asg, g_nm, g_nil, g_cons, g_tupT, g_subW, w_v0, w_vS, w_c, w_op, w_un, w_anil, w_acons, w_tup, w_lst, w_call, w_callU, w_isi, w_meth, w_tru, w_bool, w_notS, w_andS, w_orS, w_ifx, w_andV, w_orV, w_notV, w_chain, wp_ok, wp_bad, wp_some, wp_none, wp_liftif, wp_if, asB_b, wp_noex, add_ii, sub_ii, mul_ii, fdiv_ii, mod_ii, pow_ii, neg_i, cmp_ii, lt_ii, le_ii, gt_ii, ge_ii, le_cc, muls_ii, muls_si, ins_cs, iadd_ii, isub_ii, w_onone, w_osome, w_sl, sl_s, sl_t, s_aug, eq_ss, len_s, ix_s, add_ss, str_s, tuple_t, list_t, is_n, not_n, non_n, non_i, non_b, non_s, non_t, non_r, abs_i, max_ii, min_ii, int_i, int_b, gcd_ii, len_t, ix_t, eq_v, ne_v, eq_ii, eq_bb, eq_nn, eq_in, eq_ni, iv_n_list, iv_n_tuple, iv_n_bool, iv_n_str, iv_n_int, okt_n, iv_b_list, iv_b_tuple, iv_b_bool, iv_b_str, iv_b_int, okt_b, iv_i_list, iv_i_tuple, iv_i_bool, iv_i_str, iv_i_int, okt_i, iv_s_list, iv_s_tuple, iv_s_bool, iv_s_str, iv_s_int, okt_s, iv_t_list, iv_t_tuple, iv_t_bool, iv_t_str, iv_t_int, okt_t, iv_r_list, iv_r_tuple, iv_r_bool, iv_r_str, iv_r_int, tru_b, tru_i, tru_n, tru_t, Option.map_some, Option.map_none, List.map_cons, List.map_nil, List.length_cons, List.length_nil, List.set_cons_zero, List.set_cons_succ, List.cons_append, List.nil_append, List.replicate, Nat.reduceAdd, Nat.reduceSub, Nat.reduceLeDiff, true_and, and_true, decide_eq_true_eq, reduceIte, Bool.false_eq_true, Bool.not_true, Bool.not_false, decide_true, decide_false]
    refine ⟨isLst_r P, ?_⟩
    rw [len_r (seq_of_lst PL), List.length_map]
    rw [if_pos (.inl (.inl (by omega))), if_pos (by decide), fmod_pos (by decide)]
    try simp -dsimp only [at0, at1, at2, at3, at4, at5, at6, wp_fn, s_nil, s_brk, s_cnt, s_expr, s_ret, s_retN, s_if, s_asn, s_par, s_asg, g_nm, g_nil, g_cons, g_tupT, g_subW, w_v0, w_vS, w_c, w_op, w_un, w_anil, w_acons, w_tup, w_lst, w_call, w_callU, w_isi, w_meth, w_tru, w_bool, w_notS, w_andS, w_orS, w_ifx, w_andV, w_orV, w_notV, w_chain, wp_ok, wp_bad, wp_some, wp_none, wp_liftif, wp_if, asB_b, wp_noex, add_ii, sub_ii, mul_ii, fdiv_ii, mod_ii, pow_ii, neg_i, cmp_ii, lt_ii, le_ii, gt_ii, ge_ii, le_cc, muls_ii, muls_si, ins_cs, iadd_ii, isub_ii, w_onone, w_osome, w_sl, sl_s, sl_t, s_aug, eq_ss, len_s, ix_s, add_ss, str_s, tuple_t, list_t, is_n, not_n, non_n, non_i, non_b, non_s, non_t, non_r, abs_i, max_ii, min_ii, int_i, int_b, gcd_ii, len_t, ix_t, eq_v, ne_v, eq_ii, eq_bb, eq_nn, eq_in, eq_ni, iv_n_list, iv_n_tuple, iv_n_bool, iv_n_str, iv_n_int, okt_n, iv_b_list, iv_b_tuple, iv_b_bool, iv_b_str, iv_b_int, okt_b, iv_i_list, iv_i_tuple, iv_i_bool, iv_i_str, iv_i_int, okt_i, iv_s_list, iv_s_tuple, iv_s_bool, iv_s_str, iv_s_int, okt_s, iv_t_list, iv_t_tuple, iv_t_bool, iv_t_str, iv_t_int, okt_t, iv_r_list, iv_r_tuple, iv_r_bool, iv_r_str, iv_r_int, tru_b, tru_i, tru_n, tru_t, Option.map_some, Option.map_none, List.map_cons, List.map_nil, List.length_cons, List.length_nil, List.set_cons_zero, List.set_cons_succ, List.cons_append, List.nil_append, List.replicate, Nat.reduceAdd, Nat.reduceSub, Nat.reduceLeDiff, true_and, and_true, decide_eq_true_eq, reduceIte, Bool.false_eq_true, Bool.not_true, Bool.not_false, decide_true, decide_false]
    rw [if_pos ⟨by decide, big_of (by decide)⟩, fdiv_pos (by decide)]
    try simp -dsimp only [at0, at1, at2, at3, at4, at5, at6, wp_fn, s_nil, s_brk, s_cnt, s_expr, s_ret, s_retN, s_if, s_asn, s_par, s_asg, g_nm, g_nil, g_cons, g_tupT, g_subW, w_v0, w_vS, w_c, w_op, w_un, w_anil, w_acons, w_tup, w_lst, w_call, w_callU, w_isi, w_meth, w_tru, w_bool, w_notS, w_andS, w_orS, w_ifx, w_andV, w_orV, w_notV, w_chain, wp_ok, wp_bad, wp_some, wp_none, wp_liftif, wp_if, asB_b, wp_noex, add_ii, sub_ii, mul_ii, fdiv_ii, mod_ii, pow_ii, neg_i, cmp_ii, lt_ii, le_ii, gt_ii, ge_ii, le_cc, muls_ii, muls_si, ins_cs, iadd_ii, isub_ii, w_onone, w_osome, w_sl, sl_s, sl_t, s_aug, eq_ss, len_s, ix_s, add_ss, str_s, tuple_t, list_t, is_n, not_n, non_n, non_i, non_b, non_s, non_t, non_r, abs_i, max_ii, min_ii, int_i, int_b, gcd_ii, len_t, ix_t, eq_v, ne_v, eq_ii, eq_bb, eq_nn, eq_in, eq_ni, iv_n_list, iv_n_tuple, iv_n_bool, iv_n_str, iv_n_int, okt_n, iv_b_list, iv_b_tuple, iv_b_bool, iv_b_str, iv_b_int, okt_b, iv_i_list, iv_i_tuple, iv_i_bool, iv_i_str, iv_i_int, okt_i, iv_s_list, iv_s_tuple, iv_s_bool, iv_s_str, iv_s_int, okt_s, iv_t_list, iv_t_tuple, iv_t_bool, iv_t_str, iv_t_int, okt_t, iv_r_list, iv_r_tuple, iv_r_bool, iv_r_str, iv_r_int, tru_b, tru_i, tru_n, tru_t, Option.map_some, Option.map_none, List.map_cons, List.map_nil, List.length_cons, List.length_nil, List.set_cons_zero, List.set_cons_succ, List.cons_append, List.nil_append, List.replicate, Nat.reduceAdd, Nat.reduceSub, Nat.reduceLeDiff, true_and, and_true, decide_eq_true_eq, reduceIte, Bool.false_eq_true, Bool.not_true, Bool.not_false, decide_true, decide_false]
    rw [if_pos (by omega), fmod_pos (by omega)]
    try simp -dsimp only [at0, at1, at2, at3, at4, at5, at6, wp_fn, s_nil, s_brk, s_cnt, s_expr, s_ret, s_retN, s_if, s_asn, s_par, s_asg, g_nm, g_nil, g_cons, g_tupT, g_subW, w_v0, w_vS, w_c, w_op, w_un, w_anil, w_acons, w_tup, w_lst, w_call, w_callU, w_isi, w_meth, w_tru, w_bool, w_notS, w_andS, w_orS, w_ifx, w_andV, w_orV, w_notV, w_chain, wp_ok, wp_bad, wp_some, wp_none, wp_liftif, wp_if, asB_b, wp_noex, add_ii, sub_ii, mul_ii, fdiv_ii, mod_ii, pow_ii, neg_i, cmp_ii, lt_ii, le_ii, gt_ii, ge_ii, le_cc, muls_ii, muls_si, ins_cs, iadd_ii, isub_ii, w_onone, w_osome, w_sl, sl_s, sl_t, s_aug, eq_ss, len_s, ix_s, add_ss, str_s, tuple_t, list_t, is_n, not_n, non_n, non_i, non_b, non_s, non_t, non_r, abs_i, max_ii, min_ii, int_i, int_b, gcd_ii, len_t, ix_t, eq_v, ne_v, eq_ii, eq_bb, eq_nn, eq_in, eq_ni, iv_n_list, iv_n_tuple, iv_n_bool, iv_n_str, iv_n_int, okt_n, iv_b_list, iv_b_tuple, iv_b_bool, iv_b_str, iv_b_int, okt_b, iv_i_list, iv_i_tuple, iv_i_bool, iv_i_str, iv_i_int, okt_i, iv_s_list, iv_s_tuple, iv_s_bool, iv_s_str, iv_s_int, okt_s, iv_t_list, iv_t_tuple, iv_t_bool, iv_t_str, iv_t_int, okt_t, iv_r_list, iv_r_tuple, iv_r_bool, iv_r_str, iv_r_int, tru_b, tru_i, tru_n, tru_t, Option.map_some, Option.map_none, List.map_cons, List.map_nil, List.length_cons, List.length_nil, List.set_cons_zero, List.set_cons_succ, List.cons_append, List.nil_append, List.replicate, Nat.reduceAdd, Nat.reduceSub, Nat.reduceLeDiff, true_and, and_true, decide_eq_true_eq, reduceIte, Bool.false_eq_true, Bool.not_true, Bool.not_false, decide_true, decide_false]
    rw [append_r P (by rw [List.length_map]; omega)]
    try simp -dsimp only [at0, at1, at2, at3, at4, at5, at6, wp_fn, s_nil, s_brk, s_cnt, s_expr, s_ret, s_retN, s_if, s_asn, s_par, s_asg, g_nm, g_nil, g_cons, g_tupT, g_subW, w_v0, w_vS, w_c, w_op, w_un, w_anil, w_acons, w_tup, w_lst, w_call, w_callU, w_isi, w_meth, w_tru, w_bool, w_notS, w_andS, w_orS, w_ifx, w_andV, w_orV, w_notV, w_chain, wp_ok, wp_bad, wp_some, wp_none, wp_liftif, wp_if, asB_b, wp_noex, add_ii, sub_ii, mul_ii, fdiv_ii, mod_ii, pow_ii, neg_i, cmp_ii, lt_ii, le_ii, gt_ii, ge_ii, le_cc, muls_ii, muls_si, ins_cs, iadd_ii, isub_ii, w_onone, w_osome, w_sl, sl_s, sl_t, s_aug, eq_ss, len_s, ix_s, add_ss, str_s, tuple_t, list_t, is_n, not_n, non_n, non_i, non_b, non_s, non_t, non_r, abs_i, max_ii, min_ii, int_i, int_b, gcd_ii, len_t, ix_t, eq_v, ne_v, eq_ii, eq_bb, eq_nn, eq_in, eq_ni, iv_n_list, iv_n_tuple, iv_n_bool, iv_n_str, iv_n_int, okt_n, iv_b_list, iv_b_tuple, iv_b_bool, iv_b_str, iv_b_int, okt_b, iv_i_list, iv_i_tuple, iv_i_bool, iv_i_str, iv_i_int, okt_i, iv_s_list, iv_s_tuple, iv_s_bool, iv_s_str, iv_s_int, okt_s, iv_t_list, iv_t_tuple, iv_t_bool, iv_t_str, iv_t_int, okt_t, iv_r_list, iv_r_tuple, iv_r_bool, iv_r_str, iv_r_int, tru_b, tru_i, tru_n, tru_t, Option.map_some, Option.map_none, List.map_cons, List.map_nil, List.length_cons, List.length_nil, List.set_cons_zero, List.set_cons_succ, List.cons_append, List.nil_append, List.replicate, Nat.reduceAdd, Nat.reduceSub, Nat.reduceLeDiff, true_and, and_true, decide_eq_true_eq, reduceIte, Bool.false_eq_true, Bool.not_true, Bool.not_false, decide_true, decide_false]
    refine ⟨B ++ [⟨9 * (i : Nat) + 1 + u % 9, u / 9 % (L.length : Nat), 20 + (i : Nat)⟩], _, rfl, (get_set_eq P).trans ?_, fun j b e => ?_, by simp [hBl], by rw [List.getElem?_set_ne (by omega)]; exact PD, by rw [List.getElem?_set_ne (by omega)]; exact PL, G.set (by have := G.len; omega), by simpa using hbf⟩
    · rw [List.map_append]; rfl
    · by_cases hj : j < B.length
      · rw [List.getElem?_append_left hj] at e
        exact hB j b e
      · rw [List.getElem?_append_right (by omega)] at e
        have hj2 : j = B.length := by
          have := (List.getElem?_eq_some_iff.mp e).1
          simp at this; omega
        subst hj2
        simp at e
        subst e
        have m1 := Int.emod_nonneg (u / 9) (show ((L.length : Nat) : Int) ≠ 0 by omega)
        have m2 := Int.emod_lt_of_pos (u / 9) (show (0 : Int) < (L.length : Nat) by omega)
        refine ⟨⟨?_, ?_⟩, m1, m2⟩
        · show 9 * ((B.length : Nat) : Int) + 1 ≤ 9 * (i : Nat) + 1 + u % 9; omega
        · show 9 * ((i : Nat) : Int) + 1 + u % 9 ≤ 9 * (B.length : Nat) + 9; omega
  clear PD PL PD1 PL1 PB1 G G1 hbf
  rintro l m5 ⟨B, x3, rfl, PB, hB, hBl, PD, PL, G, hbf⟩
  have hB1 : 1 ≤ B.length := by omega
  have hB2 : B.length ≤ 5 := by omega
  walk_at "w1"
  rw [s_seq]
  walk_at "w1"
  have PD1 := get_old (o := .lst []) PD
  have PL1 := get_old (o := .lst []) PL
  have PB1 := get_old (o := .lst []) PB
  have PR1 := get_new (m := m5) (o := .lst [])
  have G1 := G.push (.lst [])
  have hrf : m5.length < (m5 ++ [MO.lst []]).length := by simp
  have hne2 : bf < m5.length ∧ lf < m5.length ∧ dn < m5.length := by have := G.len; omega
  have hgm := G.len
  generalize m5 ++ [MO.lst []] = m6 at *
  generalize m5.length = rf at *
  rw [s_seq]
  refine s_for1W ?_
  try simp -dsimp only [pix PD1 e13, at0, at1, at2, at3, at4, at5, at6, wp_fn, s_nil, s_brk, s_cnt, s_expr, s_ret, s_retN, s_if, s_asn, s_par, s_asg, g_nm, g_nil, g_cons, g_tupT, g_subW, w_v0, w_vS, w_c, w_op, w_un, w_anil, w_acons, w_tup, w_lst, w_call, w_callU, w_isi, w_meth, w_tru, w_bool, w_notS, w_andS, w_orS, w_ifx, w_andV, w_orV, w_notV, w_chain, wp_ok, wp_bad, wp_some, wp_none, wp_liftif, wp_if, asB_b, wp_noex, add_ii, sub_ii, mul_ii, fdiv_ii, mod_ii, pow_ii, neg_i, cmp_ii, lt_ii, le_ii, gt_ii, ge_ii, le_cc, muls_ii, muls_si, ins_cs, iadd_ii, isub_ii, w_onone, w_osome, w_sl, sl_s, sl_t, s_aug, eq_ss, len_s, ix_s, add_ss, str_s, tuple_t, list_t, is_n, not_n, non_n, non_i, non_b, non_s, non_t, non_r, abs_i, max_ii, min_ii, int_i, int_b, gcd_ii, len_t, ix_t, eq_v, ne_v, eq_ii, eq_bb, eq_nn, eq_in, eq_ni, iv_n_list, iv_n_tuple, iv_n_bool, iv_n_str, iv_n_int, okt_n, iv_b_list, iv_b_tuple, iv_b_bool, iv_b_str, iv_b_int, okt_b, iv_i_list, iv_i_tuple, iv_i_bool, iv_i_str, iv_i_int, okt_i, iv_s_list, iv_s_tuple, iv_s_bool, iv_s_str, iv_s_int, okt_s, iv_t_list, iv_t_tuple, iv_t_bool, iv_t_str, iv_t_int, okt_t, iv_r_list, iv_r_tuple, iv_r_bool, iv_r_str, iv_r_int, tru_b, tru_i, tru_n, tru_t, Option.map_some, Option.map_none, List.map_cons, List.map_nil, List.length_cons, List.length_nil, List.set_cons_zero, List.set_cons_succ, List.cons_append, List.nil_append, List.replicate, Nat.reduceAdd, Nat.reduceSub, Nat.reduceLeDiff, true_and, and_true, decide_eq_true_eq, reduceIte, Bool.false_eq_true, Bool.not_true, Bool.not_false, decide_true, decide_false]
  (repeat first | rw [if_pos (by decide)] | rw [fmod_pos (by omega)])
  try simp -dsimp only [at0, at1, at2, at3, at4, at5, at6, wp_fn, s_nil, s_brk, s_cnt, s_expr, s_ret, s_retN, s_if, s_asn, s_par, s_asg, g_nm, g_nil, g_cons, g_tupT, g_subW, w_v0, w_vS, w_c, w_op, w_un, w_anil, w_acons, w_tup, w_lst, w_call, w_callU, w_isi, w_meth, w_tru, w_bool, w_notS, w_andS, w_orS, w_ifx, w_andV, w_orV, w_notV, w_chain, wp_ok, wp_bad, wp_some, wp_none, wp_liftif, wp_if, asB_b, wp_noex, add_ii, sub_ii, mul_ii, fdiv_ii, mod_ii, pow_ii, neg_i, cmp_ii, lt_ii, le_ii, gt_ii, ge_ii, le_cc, muls_ii, muls_si, ins_cs, iadd_ii, isub_ii, w_onone, w_osome, w_sl, sl_s, sl_t, s_aug, eq_ss, len_s, ix_s, add_ss, str_s, tuple_t, list_t, is_n, not_n, non_n, non_i, non_b, non_s, non_t, non_r, abs_i, max_ii, min_ii, int_i, int_b, gcd_ii, len_t, ix_t, eq_v, ne_v, eq_ii, eq_bb, eq_nn, eq_in, eq_ni, iv_n_list, iv_n_tuple, iv_n_bool, iv_n_str, iv_n_int, okt_n, iv_b_list, iv_b_tuple, iv_b_bool, iv_b_str, iv_b_int, okt_b, iv_i_list, iv_i_tuple, iv_i_bool, iv_i_str, iv_i_int, okt_i, iv_s_list, iv_s_tuple, iv_s_bool, iv_s_str, iv_s_int, okt_s, iv_t_list, iv_t_tuple, iv_t_bool, iv_t_str, iv_t_int, okt_t, iv_r_list, iv_r_tuple, iv_r_bool, iv_r_str, iv_r_int, tru_b, tru_i, tru_n, tru_t, Option.map_some, Option.map_none, List.map_cons, List.map_nil, List.length_cons, List.length_nil, List.set_cons_zero, List.set_cons_succ, List.cons_append, List.nil_append, List.replicate, Nat.reduceAdd, Nat.reduceSub, Nat.reduceLeDiff, true_and, and_true, decide_eq_true_eq, reduceIte, Bool.false_eq_true, Bool.not_true, Bool.not_false, decide_true, decide_false]
  refine ⟨_, rfl, by omega, by omega, fun i l m' => ∃ (R : List Race) (x3 x6 x7 x8 : Option PV), l = [some (.ref 0), some (.ref dn), some (.ref lf), x3, some (.ref bf), some (.ref rf), x6, x7, x8] ∧ m'[rf]? = some (MO.lst (R.map Race.pv)) ∧ (∀ r ∈ R, RaceOk L r ∧ 300 ≤ r.start ∧ r.close ≤ 3000) ∧ R.length = i ∧ m'[dn]? = some (MO.lst (ds.map PV.int)) ∧ m'[lf]? = some (MO.lst (L.map Loft.pv)) ∧ m'[bf]? = some (MO.lst (B.map Bird.pv)) ∧ Gr m m' ∧ rf < m'.length, ⟨[], _, _, _, _, rfl, PR1, no_mem1, rfl, PD1, PL1, PB1, G1, hrf⟩, ?_, ?_⟩
  · clear PD PL PB PD1 PL1 PB1 PR1 G G1 hrf
    rintro i l m' hi ⟨R, x3, x6, x7, x8, rfl, P, hR, hRl, PD, PL, PB, G, hrf⟩
    obtain ⟨u, eu, au, bu⟩ := hp.at (i := 14 + (i : Nat)) (by omega) (by omega)
    obtain ⟨v, ev, av, bv⟩ := hp.at (i := 16 + (i : Nat)) (by omega) (by omega)
    obtain ⟨c, ec, _⟩ := atI_in (xs := [112, 113]) (i := (i : Nat)) (by omega) (by show ((i : Nat) : Int) < 2; omega)
    unfold law_club_l3
    walk_at "w1"
    rw [s_seq]
    try simp -dsimp only [pix PD eu, at0, at1, at2, at3, at4, at5, at6, wp_fn, s_nil, s_brk, s_cnt, s_expr, s_ret, s_retN, s_if, s_asn, s_par, s_asg, g_nm, g_nil, g_cons, g_tupT, g_subW, w_v0, w_vS, w_c, w_op, w_un, w_anil, w_acons, w_tup, w_lst, w_call, w_callU, w_isi, w_meth, w_tru, w_bool, w_notS, w_andS, w_orS, w_ifx, w_andV, w_orV, w_notV, w_chain, wp_ok, wp_bad, wp_some, wp_none, wp_liftif, wp_if, asB_b, wp_noex, add_ii, sub_ii, mul_ii, fdiv_ii, mod_ii, pow_ii, neg_i, cmp_ii, lt_ii, le_ii, gt_ii, ge_ii, le_cc, muls_ii, muls_si, ins_cs, iadd_ii, isub_ii, w_onone, w_osome, w_sl, sl_s, sl_t, s_aug, eq_ss, len_s, ix_s, add_ss, str_s, tuple_t, list_t, is_n, not_n, non_n, non_i, non_b, non_s, non_t, non_r, abs_i, max_ii, min_ii, int_i, int_b, gcd_ii, len_t, ix_t, eq_v, ne_v, eq_ii, eq_bb, eq_nn, eq_in, eq_ni, iv_n_list, iv_n_tuple, iv_n_bool, iv_n_str, iv_n_int, okt_n, iv_b_list, iv_b_tuple, iv_b_bool, iv_b_str, iv_b_int, okt_b, iv_i_list, iv_i_tuple, iv_i_bool, iv_i_str, iv_i_int, okt_i, iv_s_list, iv_s_tuple, iv_s_bool, iv_s_str, iv_s_int, okt_s, iv_t_list, iv_t_tuple, iv_t_bool, iv_t_str, iv_t_int, okt_t, iv_r_list, iv_r_tuple, iv_r_bool, iv_r_str, iv_r_int, tru_b, tru_i, tru_n, tru_t, Option.map_some, Option.map_none, List.map_cons, List.map_nil, List.length_cons, List.length_nil, List.set_cons_zero, List.set_cons_succ, List.cons_append, List.nil_append, List.replicate, Nat.reduceAdd, Nat.reduceSub, Nat.reduceLeDiff, true_and, and_true, decide_eq_true_eq, reduceIte, Bool.false_eq_true, Bool.not_true, Bool.not_false, decide_true, decide_false]
    (repeat first | rw [if_pos (by decide)] | rw [fmod_pos (by omega)])
    try simp -dsimp only [at0, at1, at2, at3, at4, at5, at6, wp_fn, s_nil, s_brk, s_cnt, s_expr, s_ret, s_retN, s_if, s_asn, s_par, s_asg, g_nm, g_nil, g_cons, g_tupT, g_subW, w_v0, w_vS, w_c, w_op, w_un, w_anil, w_acons, w_tup, w_lst, w_call, w_callU, w_isi, w_meth, w_tru, w_bool, w_notS, w_andS, w_orS, w_ifx, w_andV, w_orV, w_notV, w_chain, wp_ok, wp_bad, wp_some, wp_none, wp_liftif, wp_if, asB_b, wp_noex, add_ii, sub_ii, mul_ii, fdiv_ii, mod_ii, pow_ii, neg_i, cmp_ii, lt_ii, le_ii, gt_ii, ge_ii, le_cc, muls_ii, muls_si, ins_cs, iadd_ii, isub_ii, w_onone, w_osome, w_sl, sl_s, sl_t, s_aug, eq_ss, len_s, ix_s, add_ss, str_s, tuple_t, list_t, is_n, not_n, non_n, non_i, non_b, non_s, non_t, non_r, abs_i, max_ii, min_ii, int_i, int_b, gcd_ii, len_t, ix_t, eq_v, ne_v, eq_ii, eq_bb, eq_nn, eq_in, eq_ni, iv_n_list, iv_n_tuple, iv_n_bool, iv_n_str, iv_n_int, okt_n, iv_b_list, iv_b_tuple, iv_b_bool, iv_b_str, iv_b_int, okt_b, iv_i_list, iv_i_tuple, iv_i_bool, iv_i_str, iv_i_int, okt_i, iv_s_list, iv_s_tuple, iv_s_bool, iv_s_str, iv_s_int, okt_s, iv_t_list, iv_t_tuple, iv_t_bool, iv_t_str, iv_t_int, okt_t, iv_r_list, iv_r_tuple, iv_r_bool, iv_r_str, iv_r_int, tru_b, tru_i, tru_n, tru_t, Option.map_some, Option.map_none, List.map_cons, List.map_nil, List.length_cons, List.length_nil, List.set_cons_zero, List.set_cons_succ, List.cons_append, List.nil_append, List.replicate, Nat.reduceAdd, Nat.reduceSub, Nat.reduceLeDiff, true_and, and_true, decide_eq_true_eq, reduceIte, Bool.false_eq_true, Bool.not_true, Bool.not_false, decide_true, decide_false]
    rw [s_seq]
    try simp -dsimp only [pix PD ev, at0, at1, at2, at3, at4, at5, at6, wp_fn, s_nil, s_brk, s_cnt, s_expr, s_ret, s_retN, s_if, s_asn, s_par, s_asg, g_nm, g_nil, g_cons, g_tupT, g_subW, w_v0, w_vS, w_c, w_op, w_un, w_anil, w_acons, w_tup, w_lst, w_call, w_callU, w_isi, w_meth, w_tru, w_bool, w_notS, w_andS, w_orS, w_ifx, w_andV, w_orV, w_notV, w_chain, wp_ok, wp_bad, wp_some, wp_none, wp_liftif, wp_if, asB_b, wp_noex, add_ii, sub_ii, mul_ii, fdiv_ii, mod_ii, pow_ii, neg_i, cmp_ii, lt_ii, le_ii, gt_ii, ge_ii, le_cc, muls_ii, muls_si, ins_cs, iadd_ii, isub_ii, w_onone, w_osome, w_sl, sl_s, sl_t, s_aug, eq_ss, len_s, ix_s, add_ss, str_s, tuple_t, list_t, is_n, not_n, non_n, non_i, non_b, non_s, non_t, non_r, abs_i, max_ii, min_ii, int_i, int_b, gcd_ii, len_t, ix_t, eq_v, ne_v, eq_ii, eq_bb, eq_nn, eq_in, eq_ni, iv_n_list, iv_n_tuple, iv_n_bool, iv_n_str, iv_n_int, okt_n, iv_b_list, iv_b_tuple, iv_b_bool, iv_b_str, iv_b_int, okt_b, iv_i_list, iv_i_tuple, iv_i_bool, iv_i_str, iv_i_int, okt_i, iv_s_list, iv_s_tuple, iv_s_bool, iv_s_str, iv_s_int, okt_s, iv_t_list, iv_t_tuple, iv_t_bool, iv_t_str, iv_t_int, okt_t, iv_r_list, iv_r_tuple, iv_r_bool, iv_r_str, iv_r_int, tru_b, tru_i, tru_n, tru_t, Option.map_some, Option.map_none, List.map_cons, List.map_nil, List.length_cons, List.length_nil, List.set_cons_zero, List.set_cons_succ, List.cons_append, List.nil_append, List.replicate, Nat.reduceAdd, Nat.reduceSub, Nat.reduceLeDiff, true_and, and_true, decide_eq_true_eq, reduceIte, Bool.false_eq_true, Bool.not_true, Bool.not_false, decide_true, decide_false]
    have PDa := get_old (o := .lst [.int 90, .int 700, .int 2000]) PD
    have q1 := get_new (m := m') (o := .lst [.int 90, .int 700, .int 2000])
    have Pa := get_old (o := .lst [.int 90, .int 700, .int 2000]) P
    have PLa := get_old (o := .lst [.int 90, .int 700, .int 2000]) PL
    have PBa := get_old (o := .lst [.int 90, .int 700, .int 2000]) PB
    have Ga := G.push (.lst [.int 90, .int 700, .int 2000])
    have hrfa : rf < (m' ++ [MO.lst [.int 90, .int 700, .int 2000]]).length := by simp; omega
    generalize m' ++ [MO.lst [.int 90, .int 700, .int 2000]] = ma at *
    generalize m'.length = ka at *
    try simp -dsimp only [pix PDa e18, at0, at1, at2, at3, at4, at5, at6, wp_fn, s_nil, s_brk, s_cnt, s_expr, s_ret, s_retN, s_if, s_asn, s_par, s_asg, g_nm, g_nil, g_cons, g_tupT, g_subW, w_v0, w_vS, w_c, w_op, w_un, w_anil, w_acons, w_tup, w_lst, w_call, w_callU, w_isi, w_meth, w_tru, w_bool, w_notS, w_andS, w_orS, w_ifx, w_andV, w_orV, w_notV, w_chain, wp_ok, wp_bad, wp_some, wp_none, wp_liftif, wp_if, asB_b, wp_noex, add_ii, sub_ii, mul_ii, fdiv_ii, mod_ii, pow_ii, neg_i, cmp_ii, lt_ii, le_ii, gt_ii, ge_ii, le_cc, muls_ii, muls_si, ins_cs, iadd_ii, isub_ii, w_onone, w_osome, w_sl, sl_s, sl_t, s_aug, eq_ss, len_s, ix_s, add_ss, str_s, tuple_t, list_t, is_n, not_n, non_n, non_i, non_b, non_s, non_t, non_r, abs_i, max_ii, min_ii, int_i, int_b, gcd_ii, len_t, ix_t, eq_v, ne_v, eq_ii, eq_bb, eq_nn, eq_in, eq_ni, iv_n_list, iv_n_tuple, iv_n_bool, iv_n_str, iv_n_int, okt_n, iv_b_list, iv_b_tuple, iv_b_bool, iv_b_str, iv_b_int, okt_b, iv_i_list, iv_i_tuple, iv_i_bool, iv_i_str, iv_i_int, okt_i, iv_s_list, iv_s_tuple, iv_s_bool, iv_s_str, iv_s_int, okt_s, iv_t_list, iv_t_tuple, iv_t_bool, iv_t_str, iv_t_int, okt_t, iv_r_list, iv_r_tuple, iv_r_bool, iv_r_str, iv_r_int, tru_b, tru_i, tru_n, tru_t, Option.map_some, Option.map_none, List.map_cons, List.map_nil, List.length_cons, List.length_nil, List.set_cons_zero, List.set_cons_succ, List.cons_append, List.nil_append, List.replicate, Nat.reduceAdd, Nat.reduceSub, Nat.reduceLeDiff, true_and, and_true, decide_eq_true_eq, reduceIte, Bool.false_eq_true, Bool.not_true, Bool.not_false, decide_true, decide_false]
    (repeat first | rw [if_pos (by decide)] | rw [fmod_pos (by omega)])
    try simp -dsimp only [at0, at1, at2, at3, at4, at5, at6, wp_fn, s_nil, s_brk, s_cnt, s_expr, s_ret, s_retN, s_if, s_asn, s_par, s_asg, g_nm, g_nil, g_cons, g_tupT, g_subW, w_v0, w_vS, w_c, w_op, w_un, w_anil, w_acons, w_tup, w_lst, w_call, w_callU, w_isi, w_meth, w_tru, w_bool, w_notS, w_andS, w_orS, w_ifx, w_andV, w_orV, w_notV, w_chain, wp_ok, wp_bad, wp_some, wp_none, wp_liftif, wp_if, asB_b, wp_noex, add_ii, sub_ii, mul_ii, fdiv_ii, mod_ii, pow_ii, neg_i, cmp_ii, lt_ii, le_ii, gt_ii, ge_ii, le_cc, muls_ii, muls_si, ins_cs, iadd_ii, isub_ii, w_onone, w_osome, w_sl, sl_s, sl_t, s_aug, eq_ss, len_s, ix_s, add_ss, str_s, tuple_t, list_t, is_n, not_n, non_n, non_i, non_b, non_s, non_t, non_r, abs_i, max_ii, min_ii, int_i, int_b, gcd_ii, len_t, ix_t, eq_v, ne_v, eq_ii, eq_bb, eq_nn, eq_in, eq_ni, iv_n_list, iv_n_tuple, iv_n_bool, iv_n_str, iv_n_int, okt_n, iv_b_list, iv_b_tuple, iv_b_bool, iv_b_str, iv_b_int, okt_b, iv_i_list, iv_i_tuple, iv_i_bool, iv_i_str, iv_i_int, okt_i, iv_s_list, iv_s_tuple, iv_s_bool, iv_s_str, iv_s_int, okt_s, iv_t_list, iv_t_tuple, iv_t_bool, iv_t_str, iv_t_int, okt_t, iv_r_list, iv_r_tuple, iv_r_bool, iv_r_str, iv_r_int, tru_b, tru_i, tru_n, tru_t, Option.map_some, Option.map_none, List.map_cons, List.map_nil, List.length_cons, List.length_nil, List.set_cons_zero, List.set_cons_succ, List.cons_append, List.nil_append, List.replicate, Nat.reduceAdd, Nat.reduceSub, Nat.reduceLeDiff, true_and, and_true, decide_eq_true_eq, reduceIte, Bool.false_eq_true, Bool.not_true, Bool.not_false, decide_true, decide_false]
    obtain ⟨w, ew, hw⟩ := pick3 q1 (v := d18 % 3) (by omega) (by omega)
    try simp -dsimp only [ew, at0, at1, at2, at3, at4, at5, at6, wp_fn, s_nil, s_brk, s_cnt, s_expr, s_ret, s_retN, s_if, s_asn, s_par, s_asg, g_nm, g_nil, g_cons, g_tupT, g_subW, w_v0, w_vS, w_c, w_op, w_un, w_anil, w_acons, w_tup, w_lst, w_call, w_callU, w_isi, w_meth, w_tru, w_bool, w_notS, w_andS, w_orS, w_ifx, w_andV, w_orV, w_notV, w_chain, wp_ok, wp_bad, wp_some, wp_none, wp_liftif, wp_if, asB_b, wp_noex, add_ii, sub_ii, mul_ii, fdiv_ii, mod_ii, pow_ii, neg_i, cmp_ii, lt_ii, le_ii, gt_ii, ge_ii, le_cc, muls_ii, muls_si, ins_cs, iadd_ii, isub_ii, w_onone, w_osome, w_sl, sl_s, sl_t, s_aug, eq_ss, len_s, ix_s, add_ss, str_s, tuple_t, list_t, is_n, not_n, non_n, non_i, non_b, non_s, non_t, non_r, abs_i, max_ii, min_ii, int_i, int_b, gcd_ii, len_t, ix_t, eq_v, ne_v, eq_ii, eq_bb, eq_nn, eq_in, eq_ni, iv_n_list, iv_n_tuple, iv_n_bool, iv_n_str, iv_n_int, okt_n, iv_b_list, iv_b_tuple, iv_b_bool, iv_b_str, iv_b_int, okt_b, iv_i_list, iv_i_tuple, iv_i_bool, iv_i_str, iv_i_int, okt_i, iv_s_list, iv_s_tuple, iv_s_bool, iv_s_str, iv_s_int, okt_s, iv_t_list, iv_t_tuple, iv_t_bool, iv_t_str, iv_t_int, okt_t, iv_r_list, iv_r_tuple, iv_r_bool, iv_r_str, iv_r_int, tru_b, tru_i, tru_n, tru_t, Option.map_some, Option.map_none, List.map_cons, List.map_nil, List.length_cons, List.length_nil, List.set_cons_zero, List.set_cons_succ, List.cons_append, List.nil_append, List.replicate, Nat.reduceAdd, Nat.reduceSub, Nat.reduceLeDiff, true_and, and_true, decide_eq_true_eq, reduceIte, Bool.false_eq_true, Bool.not_true, Bool.not_false, decide_true, decide_false]
    rw [if_pos (by omega), fmod_pos (by omega)]
    have hvw : 0 ≤ v % w ∧ v % w < 2000 := by
      have h1 := Int.emod_nonneg v (show w ≠ 0 by omega)
      have h2 := Int.emod_lt_of_pos v (show 0 < w by omega)
      omega
    try simp -dsimp only [at0, at1, at2, at3, at4, at5, at6, wp_fn, s_nil, s_brk, s_cnt, s_expr, s_ret, s_retN, s_if, s_asn, s_par, s_asg, g_nm, g_nil, g_cons, g_tupT, g_subW, w_v0, w_vS, w_c, w_op, w_un, w_anil, w_acons, w_tup, w_lst, w_call, w_callU, w_isi, w_meth, w_tru, w_bool, w_notS, w_andS, w_orS, w_ifx, w_andV, w_orV, w_notV, w_chain, wp_ok, wp_bad, wp_some, wp_none, wp_liftif, wp_if, asB_b, wp_noex, add_ii, sub_ii, mul_ii, fdiv_ii, mod_ii, pow_ii, neg_i, cmp_ii, lt_ii, le_ii, gt_ii, ge_ii, le_cc, muls_ii, muls_si, ins_cs, iadd_ii, isub_ii, w_onone, w_osome, w_sl, sl_s, sl_t, s_aug, eq_ss, len_s, ix_s, add_ss, str_s, tuple_t, list_t, is_n, not_n, non_n, non_i, non_b, non_s, non_t, non_r, abs_i, max_ii, min_ii, int_i, int_b, gcd_ii, len_t, ix_t, eq_v, ne_v, eq_ii, eq_bb, eq_nn, eq_in, eq_ni, iv_n_list, iv_n_tuple, iv_n_bool, iv_n_str, iv_n_int, okt_n, iv_b_list, iv_b_tuple, iv_b_bool, iv_b_str, iv_b_int, okt_b, iv_i_list, iv_i_tuple, iv_i_bool, iv_i_str, iv_i_int, okt_i, iv_s_list, iv_s_tuple, iv_s_bool, iv_s_str, iv_s_int, okt_s, iv_t_list, iv_t_tuple, iv_t_bool, iv_t_str, iv_t_int, okt_t, iv_r_list, iv_r_tuple, iv_r_bool, iv_r_str, iv_r_int, tru_b, tru_i, tru_n, tru_t, Option.map_some, Option.map_none, List.map_cons, List.map_nil, List.length_cons, List.length_nil, List.set_cons_zero, List.set_cons_succ, List.cons_append, List.nil_append, List.replicate, Nat.reduceAdd, Nat.reduceSub, Nat.reduceLeDiff, true_and, and_true, decide_eq_true_eq, reduceIte, Bool.false_eq_true, Bool.not_true, Bool.not_false, decide_true, decide_false]
    generalize hcl : (300 : Int) + u % 200 + 1 + v % w = cl
    generalize hst : (300 : Int) + u % 200 = st at *
    rw [s_seq]
    try simp -dsimp only [at0, at1, at2, at3, at4, at5, at6, wp_fn, s_nil, s_brk, s_cnt, s_expr, s_ret, s_retN, s_if, s_asn, s_par, s_asg, g_nm, g_nil, g_cons, g_tupT, g_subW, w_v0, w_vS, w_c, w_op, w_un, w_anil, w_acons, w_tup, w_lst, w_call, w_callU, w_isi, w_meth, w_tru, w_bool, w_notS, w_andS, w_orS, w_ifx, w_andV, w_orV, w_notV, w_chain, wp_ok, wp_bad, wp_some, wp_none, wp_liftif, wp_if, asB_b, wp_noex, add_ii, sub_ii, mul_ii, fdiv_ii, mod_ii, pow_ii, neg_i, cmp_ii, lt_ii, le_ii, gt_ii, ge_ii, le_cc, muls_ii, muls_si, ins_cs, iadd_ii, isub_ii, w_onone, w_osome, w_sl, sl_s, sl_t, s_aug, eq_ss, len_s, ix_s, add_ss, str_s, tuple_t, list_t, is_n, not_n, non_n, non_i, non_b, non_s, non_t, non_r, abs_i, max_ii, min_ii, int_i, int_b, gcd_ii, len_t, ix_t, eq_v, ne_v, eq_ii, eq_bb, eq_nn, eq_in, eq_ni, iv_n_list, iv_n_tuple, iv_n_bool, iv_n_str, iv_n_int, okt_n, iv_b_list, iv_b_tuple, iv_b_bool, iv_b_str, iv_b_int, okt_b, iv_i_list, iv_i_tuple, iv_i_bool, iv_i_str, iv_i_int, okt_i, iv_s_list, iv_s_tuple, iv_s_bool, iv_s_str, iv_s_int, okt_s, iv_t_list, iv_t_tuple, iv_t_bool, iv_t_str, iv_t_int, okt_t, iv_r_list, iv_r_tuple, iv_r_bool, iv_r_str, iv_r_int, tru_b, tru_i, tru_n, tru_t, Option.map_some, Option.map_none, List.map_cons, List.map_nil, List.length_cons, List.length_nil, List.set_cons_zero, List.set_cons_succ, List.cons_append, List.nil_append, List.replicate, Nat.reduceAdd, Nat.reduceSub, Nat.reduceLeDiff, true_and, and_true, decide_eq_true_eq, reduceIte, Bool.false_eq_true, Bool.not_true, Bool.not_false, decide_true, decide_false]
    have PDb := get_old (o := .lst [.int (st - 20), .int (st + 30), .int 1200, .int 0]) PDa
    have q2 := get_new (m := ma) (o := .lst [.int (st - 20), .int (st + 30), .int 1200, .int 0])
    have Pb := get_old (o := .lst [.int (st - 20), .int (st + 30), .int 1200, .int 0]) Pa
    have PLb := get_old (o := .lst [.int (st - 20), .int (st + 30), .int 1200, .int 0]) PLa
    have PBb := get_old (o := .lst [.int (st - 20), .int (st + 30), .int 1200, .int 0]) PBa
    have Gb := Ga.push (.lst [.int (st - 20), .int (st + 30), .int 1200, .int 0])
    have hrfb : rf < (ma ++ [MO.lst [.int (st - 20), .int (st + 30), .int 1200, .int 0]]).length := by simp; omega
    generalize ma ++ [MO.lst [.int (st - 20), .int (st + 30), .int 1200, .int 0]] = mb at *
    generalize ma.length = kb at *
    try simp -dsimp only [pix PDb e19, at0, at1, at2, at3, at4, at5, at6, wp_fn, s_nil, s_brk, s_cnt, s_expr, s_ret, s_retN, s_if, s_asn, s_par, s_asg, g_nm, g_nil, g_cons, g_tupT, g_subW, w_v0, w_vS, w_c, w_op, w_un, w_anil, w_acons, w_tup, w_lst, w_call, w_callU, w_isi, w_meth, w_tru, w_bool, w_notS, w_andS, w_orS, w_ifx, w_andV, w_orV, w_notV, w_chain, wp_ok, wp_bad, wp_some, wp_none, wp_liftif, wp_if, asB_b, wp_noex, add_ii, sub_ii, mul_ii, fdiv_ii, mod_ii, pow_ii, neg_i, cmp_ii, lt_ii, le_ii, gt_ii, ge_ii, le_cc, muls_ii, muls_si, ins_cs, iadd_ii, isub_ii, w_onone, w_osome, w_sl, sl_s, sl_t, s_aug, eq_ss, len_s, ix_s, add_ss, str_s, tuple_t, list_t, is_n, not_n, non_n, non_i, non_b, non_s, non_t, non_r, abs_i, max_ii, min_ii, int_i, int_b, gcd_ii, len_t, ix_t, eq_v, ne_v, eq_ii, eq_bb, eq_nn, eq_in, eq_ni, iv_n_list, iv_n_tuple, iv_n_bool, iv_n_str, iv_n_int, okt_n, iv_b_list, iv_b_tuple, iv_b_bool, iv_b_str, iv_b_int, okt_b, iv_i_list, iv_i_tuple, iv_i_bool, iv_i_str, iv_i_int, okt_i, iv_s_list, iv_s_tuple, iv_s_bool, iv_s_str, iv_s_int, okt_s, iv_t_list, iv_t_tuple, iv_t_bool, iv_t_str, iv_t_int, okt_t, iv_r_list, iv_r_tuple, iv_r_bool, iv_r_str, iv_r_int, tru_b, tru_i, tru_n, tru_t, Option.map_some, Option.map_none, List.map_cons, List.map_nil, List.length_cons, List.length_nil, List.set_cons_zero, List.set_cons_succ, List.cons_append, List.nil_append, List.replicate, Nat.reduceAdd, Nat.reduceSub, Nat.reduceLeDiff, true_and, and_true, decide_eq_true_eq, reduceIte, Bool.false_eq_true, Bool.not_true, Bool.not_false, decide_true, decide_false]
    (repeat first | rw [if_pos (by decide)] | rw [fmod_pos (by omega)])
    try simp -dsimp only [at0, at1, at2, at3, at4, at5, at6, wp_fn, s_nil, s_brk, s_cnt, s_expr, s_ret, s_retN, s_if, s_asn, s_par, s_asg, g_nm, g_nil, g_cons, g_tupT, g_subW, w_v0, w_vS, w_c, w_op, w_un, w_anil, w_acons, w_tup, w_lst, w_call, w_callU, w_isi, w_meth, w_tru, w_bool, w_notS, w_andS, w_orS, w_ifx, w_andV, w_orV, w_notV, w_chain, wp_ok, wp_bad, wp_some, wp_none, wp_liftif, wp_if, asB_b, wp_noex, add_ii, sub_ii, mul_ii, fdiv_ii, mod_ii, pow_ii, neg_i, cmp_ii, lt_ii, le_ii, gt_ii, ge_ii, le_cc, muls_ii, muls_si, ins_cs, iadd_ii, isub_ii, w_onone, w_osome, w_sl, sl_s, sl_t, s_aug, eq_ss, len_s, ix_s, add_ss, str_s, tuple_t, list_t, is_n, not_n, non_n, non_i, non_b, non_s, non_t, non_r, abs_i, max_ii, min_ii, int_i, int_b, gcd_ii, len_t, ix_t, eq_v, ne_v, eq_ii, eq_bb, eq_nn, eq_in, eq_ni, iv_n_list, iv_n_tuple, iv_n_bool, iv_n_str, iv_n_int, okt_n, iv_b_list, iv_b_tuple, iv_b_bool, iv_b_str, iv_b_int, okt_b, iv_i_list, iv_i_tuple, iv_i_bool, iv_i_str, iv_i_int, okt_i, iv_s_list, iv_s_tuple, iv_s_bool, iv_s_str, iv_s_int, okt_s, iv_t_list, iv_t_tuple, iv_t_bool, iv_t_str, iv_t_int, okt_t, iv_r_list, iv_r_tuple, iv_r_bool, iv_r_str, iv_r_int, tru_b, tru_i, tru_n, tru_t, Option.map_some, Option.map_none, List.map_cons, List.map_nil, List.length_cons, List.length_nil, List.set_cons_zero, List.set_cons_succ, List.cons_append, List.nil_append, List.replicate, Nat.reduceAdd, Nat.reduceSub, Nat.reduceLeDiff, true_and, and_true, decide_eq_true_eq, reduceIte, Bool.false_eq_true, Bool.not_true, Bool.not_false, decide_true, decide_false]
    obtain ⟨y, ey, hy⟩ := pick4 q2 (v := d19 % 4) (by omega) (by omega)
    try simp -dsimp only [ey, at0, at1, at2, at3, at4, at5, at6, wp_fn, s_nil, s_brk, s_cnt, s_expr, s_ret, s_retN, s_if, s_asn, s_par, s_asg, g_nm, g_nil, g_cons, g_tupT, g_subW, w_v0, w_vS, w_c, w_op, w_un, w_anil, w_acons, w_tup, w_lst, w_call, w_callU, w_isi, w_meth, w_tru, w_bool, w_notS, w_andS, w_orS, w_ifx, w_andV, w_orV, w_notV, w_chain, wp_ok, wp_bad, wp_some, wp_none, wp_liftif, wp_if, asB_b, wp_noex, add_ii, sub_ii, mul_ii, fdiv_ii, mod_ii, pow_ii, neg_i, cmp_ii, lt_ii, le_ii, gt_ii, ge_ii, le_cc, muls_ii, muls_si, ins_cs, iadd_ii, isub_ii, w_onone, w_osome, w_sl, sl_s, sl_t, s_aug, eq_ss, len_s, ix_s, add_ss, str_s, tuple_t, list_t, is_n, not_n, non_n, non_i, non_b, non_s, non_t, non_r, abs_i, max_ii, min_ii, int_i, int_b, gcd_ii, len_t, ix_t, eq_v, ne_v, eq_ii, eq_bb, eq_nn, eq_in, eq_ni, iv_n_list, iv_n_tuple, iv_n_bool, iv_n_str, iv_n_int, okt_n, iv_b_list, iv_b_tuple, iv_b_bool, iv_b_str, iv_b_int, okt_b, iv_i_list, iv_i_tuple, iv_i_bool, iv_i_str, iv_i_int, okt_i, iv_s_list, iv_s_tuple, iv_s_bool, iv_s_str, iv_s_int, okt_s, iv_t_list, iv_t_tuple, iv_t_bool, iv_t_str, iv_t_int, okt_t, iv_r_list, iv_r_tuple, iv_r_bool, iv_r_str, iv_r_int, tru_b, tru_i, tru_n, tru_t, Option.map_some, Option.map_none, List.map_cons, List.map_nil, List.length_cons, List.length_nil, List.set_cons_zero, List.set_cons_succ, List.cons_append, List.nil_append, List.replicate, Nat.reduceAdd, Nat.reduceSub, Nat.reduceLeDiff, true_and, and_true, decide_eq_true_eq, reduceIte, Bool.false_eq_true, Bool.not_true, Bool.not_false, decide_true, decide_false]
    refine ⟨isLst_r Pb, ?_⟩
    try simp -dsimp only [ec, pix PDb ev, pix PDb e18, at0, at1, at2, at3, at4, at5, at6, wp_fn, s_nil, s_brk, s_cnt, s_expr, s_ret, s_retN, s_if, s_asn, s_par, s_asg, g_nm, g_nil, g_cons, g_tupT, g_subW, w_v0, w_vS, w_c, w_op, w_un, w_anil, w_acons, w_tup, w_lst, w_call, w_callU, w_isi, w_meth, w_tru, w_bool, w_notS, w_andS, w_orS, w_ifx, w_andV, w_orV, w_notV, w_chain, wp_ok, wp_bad, wp_some, wp_none, wp_liftif, wp_if, asB_b, wp_noex, add_ii, sub_ii, mul_ii, fdiv_ii, mod_ii, pow_ii, neg_i, cmp_ii, lt_ii, le_ii, gt_ii, ge_ii, le_cc, muls_ii, muls_si, ins_cs, iadd_ii, isub_ii, w_onone, w_osome, w_sl, sl_s, sl_t, s_aug, eq_ss, len_s, ix_s, add_ss, str_s, tuple_t, list_t, is_n, not_n, non_n, non_i, non_b, non_s, non_t, non_r, abs_i, max_ii, min_ii, int_i, int_b, gcd_ii, len_t, ix_t, eq_v, ne_v, eq_ii, eq_bb, eq_nn, eq_in, eq_ni, iv_n_list, iv_n_tuple, iv_n_bool, iv_n_str, iv_n_int, okt_n, iv_b_list, iv_b_tuple, iv_b_bool, iv_b_str, iv_b_int, okt_b, iv_i_list, iv_i_tuple, iv_i_bool, iv_i_str, iv_i_int, okt_i, iv_s_list, iv_s_tuple, iv_s_bool, iv_s_str, iv_s_int, okt_s, iv_t_list, iv_t_tuple, iv_t_bool, iv_t_str, iv_t_int, okt_t, iv_r_list, iv_r_tuple, iv_r_bool, iv_r_str, iv_r_int, tru_b, tru_i, tru_n, tru_t, Option.map_some, Option.map_none, List.map_cons, List.map_nil, List.length_cons, List.length_nil, List.set_cons_zero, List.set_cons_succ, List.cons_append, List.nil_append, List.replicate, Nat.reduceAdd, Nat.reduceSub, Nat.reduceLeDiff, true_and, and_true, decide_eq_true_eq, reduceIte, Bool.false_eq_true, Bool.not_true, Bool.not_false, decide_true, decide_false]
    (repeat first | rw [if_pos (by decide)] | rw [fmod_pos (by omega)])
    try simp -dsimp only [at0, at1, at2, at3, at4, at5, at6, wp_fn, s_nil, s_brk, s_cnt, s_expr, s_ret, s_retN, s_if, s_asn, s_par, s_asg, g_nm, g_nil, g_cons, g_tupT, g_subW, w_v0, w_vS, w_c, w_op, w_un, w_anil, w_acons, w_tup, w_lst, w_call, w_callU, w_isi, w_meth, w_tru, w_bool, w_notS, w_andS, w_orS, w_ifx, w_andV, w_orV, w_notV, w_chain, wp_ok, wp_bad, wp_some, wp_none, wp_liftif, wp_if, asB_b, wp_noex, add_ii, sub_ii, mul_ii, fdiv_ii, mod_ii, pow_ii, neg_i, cmp_ii, lt_ii, le_ii, gt_ii, ge_ii, le_cc, muls_ii, muls_si, ins_cs, iadd_ii, isub_ii, w_onone, w_osome, w_sl, sl_s, sl_t, s_aug, eq_ss, len_s, ix_s, add_ss, str_s, tuple_t, list_t, is_n, not_n, non_n, non_i, non_b, non_s, non_t, non_r, abs_i, max_ii, min_ii, int_i, int_b, gcd_ii, len_t, ix_t, eq_v, ne_v, eq_ii, eq_bb, eq_nn, eq_in, eq_ni, iv_n_list, iv_n_tuple, iv_n_bool, iv_n_str, iv_n_int, okt_n, iv_b_list, iv_b_tuple, iv_b_bool, iv_b_str, iv_b_int, okt_b, iv_i_list, iv_i_tuple, iv_i_bool, iv_i_str, iv_i_int, okt_i, iv_s_list, iv_s_tuple, iv_s_bool, iv_s_str, iv_s_int, okt_s, iv_t_list, iv_t_tuple, iv_t_bool, iv_t_str, iv_t_int, okt_t, iv_r_list, iv_r_tuple, iv_r_bool, iv_r_str, iv_r_int, tru_b, tru_i, tru_n, tru_t, Option.map_some, Option.map_none, List.map_cons, List.map_nil, List.length_cons, List.length_nil, List.set_cons_zero, List.set_cons_succ, List.cons_append, List.nil_append, List.replicate, Nat.reduceAdd, Nat.reduceSub, Nat.reduceLeDiff, true_and, and_true, decide_eq_true_eq, reduceIte, Bool.false_eq_true, Bool.not_true, Bool.not_false, decide_true, decide_false]
    (repeat first | rw [if_pos (by decide)] | rw [fmod_pos (by omega)])
    try simp -dsimp only [at0, at1, at2, at3, at4, at5, at6, wp_fn, s_nil, s_brk, s_cnt, s_expr, s_ret, s_retN, s_if, s_asn, s_par, s_asg, g_nm, g_nil, g_cons, g_tupT, g_subW, w_v0, w_vS, w_c, w_op, w_un, w_anil, w_acons, w_tup, w_lst, w_call, w_callU, w_isi, w_meth, w_tru, w_bool, w_notS, w_andS, w_orS, w_ifx, w_andV, w_orV, w_notV, w_chain, wp_ok, wp_bad, wp_some, wp_none, wp_liftif, wp_if, asB_b, wp_noex, add_ii, sub_ii, mul_ii, fdiv_ii, mod_ii, pow_ii, neg_i, cmp_ii, lt_ii, le_ii, gt_ii, ge_ii, le_cc, muls_ii, muls_si, ins_cs, iadd_ii, isub_ii, w_onone, w_osome, w_sl, sl_s, sl_t, s_aug, eq_ss, len_s, ix_s, add_ss, str_s, tuple_t, list_t, is_n, not_n, non_n, non_i, non_b, non_s, non_t, non_r, abs_i, max_ii, min_ii, int_i, int_b, gcd_ii, len_t, ix_t, eq_v, ne_v, eq_ii, eq_bb, eq_nn, eq_in, eq_ni, iv_n_list, iv_n_tuple, iv_n_bool, iv_n_str, iv_n_int, okt_n, iv_b_list, iv_b_tuple, iv_b_bool, iv_b_str, iv_b_int, okt_b, iv_i_list, iv_i_tuple, iv_i_bool, iv_i_str, iv_i_int, okt_i, iv_s_list, iv_s_tuple, iv_s_bool, iv_s_str, iv_s_int, okt_s, iv_t_list, iv_t_tuple, iv_t_bool, iv_t_str, iv_t_int, okt_t, iv_r_list, iv_r_tuple, iv_r_bool, iv_r_str, iv_r_int, tru_b, tru_i, tru_n, tru_t, Option.map_some, Option.map_none, List.map_cons, List.map_nil, List.length_cons, List.length_nil, List.set_cons_zero, List.set_cons_succ, List.cons_append, List.nil_append, List.replicate, Nat.reduceAdd, Nat.reduceSub, Nat.reduceLeDiff, true_and, and_true, decide_eq_true_eq, reduceIte, Bool.false_eq_true, Bool.not_true, Bool.not_false, decide_true, decide_false]
    rw [append_r Pb (by rw [List.length_map]; omega)]
    try simp -dsimp only [at0, at1, at2, at3, at4, at5, at6, wp_fn, s_nil, s_brk, s_cnt, s_expr, s_ret, s_retN, s_if, s_asn, s_par, s_asg, g_nm, g_nil, g_cons, g_tupT, g_subW, w_v0, w_vS, w_c, w_op, w_un, w_anil, w_acons, w_tup, w_lst, w_call, w_callU, w_isi, w_meth, w_tru, w_bool, w_notS, w_andS, w_orS, w_ifx, w_andV, w_orV, w_notV, w_chain, wp_ok, wp_bad, wp_some, wp_none, wp_liftif, wp_if, asB_b, wp_noex, add_ii, sub_ii, mul_ii, fdiv_ii, mod_ii, pow_ii, neg_i, cmp_ii, lt_ii, le_ii, gt_ii, ge_ii, le_cc, muls_ii, muls_si, ins_cs, iadd_ii, isub_ii, w_onone, w_osome, w_sl, sl_s, sl_t, s_aug, eq_ss, len_s, ix_s, add_ss, str_s, tuple_t, list_t, is_n, not_n, non_n, non_i, non_b, non_s, non_t, non_r, abs_i, max_ii, min_ii, int_i, int_b, gcd_ii, len_t, ix_t, eq_v, ne_v, eq_ii, eq_bb, eq_nn, eq_in, eq_ni, iv_n_list, iv_n_tuple, iv_n_bool, iv_n_str, iv_n_int, okt_n, iv_b_list, iv_b_tuple, iv_b_bool, iv_b_str, iv_b_int, okt_b, iv_i_list, iv_i_tuple, iv_i_bool, iv_i_str, iv_i_int, okt_i, iv_s_list, iv_s_tuple, iv_s_bool, iv_s_str, iv_s_int, okt_s, iv_t_list, iv_t_tuple, iv_t_bool, iv_t_str, iv_t_int, okt_t, iv_r_list, iv_r_tuple, iv_r_bool, iv_r_str, iv_r_int, tru_b, tru_i, tru_n, tru_t, Option.map_some, Option.map_none, List.map_cons, List.map_nil, List.length_cons, List.length_nil, List.set_cons_zero, List.set_cons_succ, List.cons_append, List.nil_append, List.replicate, Nat.reduceAdd, Nat.reduceSub, Nat.reduceLeDiff, true_and, and_true, decide_eq_true_eq, reduceIte, Bool.false_eq_true, Bool.not_true, Bool.not_false, decide_true, decide_false]
    refine ⟨R ++ [⟨[c], 10 + v % 5, 20 + (i : Nat), st, cl, y, (y + d18 % 700) % 1440⟩], _, _, _, _, rfl, (get_set_eq Pb).trans ?_, fun z hz => (List.mem_append.mp hz).elim (hR z) fun e => ?_, by simp [hRl], by rw [List.getElem?_set_ne (by omega)]; exact PDb, by rw [List.getElem?_set_ne (by omega)]; exact PLb, by rw [List.getElem?_set_ne (by omega)]; exact PBb, Gb.set (by omega), by simpa using hrfb⟩
    · rw [List.map_append]; rfl
    · rw [List.mem_singleton.mp e]
      refine ⟨⟨⟨?_, ?_⟩, ⟨?_, ?_⟩, ⟨?_, ?_⟩, ⟨?_, ?_⟩, ⟨?_, ?_⟩, ⟨?_, ?_⟩, fun hm => ?_⟩, ?_, ?_⟩
      all_goals try dsimp only
      all_goals first
        | omega
        | skip
      obtain ⟨l, hl, e⟩ := List.mem_map.mp hm
      have := (hL l hl).2
      have e1 : l.x = 10 + v % 5 := congrArg Prod.fst e
      omega
  · clear PD PL PB PD1 PL1 PB1 PR1 G G1 hrf
    rintro l m' ⟨R, x3, x6, x7, x8, rfl, PR, hR, hRl, PD, PL, PB, G, hrf⟩
    try simp -dsimp only [tuple_r (seq_of_lst PL), tuple_r (seq_of_lst PB), tuple_r (seq_of_lst PR), at0, at1, at2, at3, at4, at5, at6, wp_fn, s_nil, s_brk, s_cnt, s_expr, s_ret, s_retN, s_if, s_asn, s_par, s_asg, g_nm, g_nil, g_cons, g_tupT, g_subW, w_v0, w_vS, w_c, w_op, w_un, w_anil, w_acons, w_tup, w_lst, w_call, w_callU, w_isi, w_meth, w_tru, w_bool, w_notS, w_andS, w_orS, w_ifx, w_andV, w_orV, w_notV, w_chain, wp_ok, wp_bad, wp_some, wp_none, wp_liftif, wp_if, asB_b, wp_noex, add_ii, sub_ii, mul_ii, fdiv_ii, mod_ii, pow_ii, neg_i, cmp_ii, lt_ii, le_ii, gt_ii, ge_ii, le_cc, muls_ii, muls_si, ins_cs, iadd_ii, isub_ii, w_onone, w_osome, w_sl, sl_s, sl_t, s_aug, eq_ss, len_s, ix_s, add_ss, str_s, tuple_t, list_t, is_n, not_n, non_n, non_i, non_b, non_s, non_t, non_r, abs_i, max_ii, min_ii, int_i, int_b, gcd_ii, len_t, ix_t, eq_v, ne_v, eq_ii, eq_bb, eq_nn, eq_in, eq_ni, iv_n_list, iv_n_tuple, iv_n_bool, iv_n_str, iv_n_int, okt_n, iv_b_list, iv_b_tuple, iv_b_bool, iv_b_str, iv_b_int, okt_b, iv_i_list, iv_i_tuple, iv_i_bool, iv_i_str, iv_i_int, okt_i, iv_s_list, iv_s_tuple, iv_s_bool, iv_s_str, iv_s_int, okt_s, iv_t_list, iv_t_tuple, iv_t_bool, iv_t_str, iv_t_int, okt_t, iv_r_list, iv_r_tuple, iv_r_bool, iv_r_str, iv_r_int, tru_b, tru_i, tru_n, tru_t, Option.map_some, Option.map_none, List.map_cons, List.map_nil, List.length_cons, List.length_nil, List.set_cons_zero, List.set_cons_succ, List.cons_append, List.nil_append, List.replicate, Nat.reduceAdd, Nat.reduceSub, Nat.reduceLeDiff, true_and, and_true, decide_eq_true_eq, reduceIte, Bool.false_eq_true, Bool.not_true, Bool.not_false, decide_true, decide_false]
    refine ⟨L, B, R, rfl, ⟨hL1, hL2, hB1, hB2, by omega, by omega, fun l hl => (hL l hl).1, fun b hb => ?_, ?_, fun r hr => (hR r hr).1, fun r hr => (hR r hr).2⟩, G⟩
    · obtain ⟨j, hj⟩ := List.getElem?_of_mem hb
      exact (hB j b hj).2
    · rw [List.nodup_iff_pairwise_ne, List.pairwise_iff_getElem]
      intro a b ha hb hab he
      rw [List.getElem_map, List.getElem_map] at he
      rw [List.length_map] at ha hb
      have h1 := (hB a _ (List.getElem?_eq_getElem ha)).1
      have h2 := (hB b _ (List.getElem?_eq_getElem hb)).1
      omega
theorem clk_cut (a b c d e : PV) : cut [a, b, c, d, e] none (some 2) = [a, b] := by
  unfold cut
  simp [HT.sIx]
/-! ## the law's own: clocks -/
structure CkG (L : List Loft) (R : List Race) (cs : List Clk) : Prop where
  ok : ∀ c ∈ cs, ClkG L R c
  cov : ∀ i j : Nat, i < R.length → j < L.length → ∃ c ∈ cs, c.race = i ∧ c.loft = j
theorem clocks_ok {m : MH} {ns : List Int} {L : List Loft} {B : List Bird} {R : List Race} (h : m[0]? = some (.frz (ns.map .int))) (hC : ClubG L B R) :
    WP (f_law_clocks [.ref 0, clubPV L B R] m) (fun x m' => ∃ (cs : List Clk) (k : Nat), x = .ref k ∧ m'[k]? = some (.lst (cs.map Clk.pv)) ∧ CkG L R cs ∧ cs.length ≤ 6 ∧ m.length ≤ k ∧ Gr m m') NoE := by
  have hm := (List.getElem?_eq_some_iff.mp h).1
  have l2 := hC.l2
  have r2 := hC.r2
  unfold f_law_clocks b_law_clocks
  walk_at "w1"
  rw [s_seq]
  walk_at "w1"
  rw [s_seq]
  refine s_for1W ?_
  unfold clubPV
  try simp -dsimp only [at0, at1, at2, at3, at4, at5, at6, wp_fn, s_nil, s_brk, s_cnt, s_expr, s_ret, s_retN, s_if, s_asn, s_par, s_asg, g_nm, g_nil, g_cons, g_tupT, g_subW, w_v0, w_vS, w_c, w_op, w_un, w_anil, w_acons, w_tup, w_lst, w_call, w_callU, w_isi, w_meth, w_tru, w_bool, w_notS, w_andS, w_orS, w_ifx, w_andV, w_orV, w_notV, w_chain, wp_ok, wp_bad, wp_some, wp_none, wp_liftif, wp_if, asB_b, wp_noex, add_ii, sub_ii, mul_ii, fdiv_ii, mod_ii, pow_ii, neg_i, cmp_ii, lt_ii, le_ii, gt_ii, ge_ii, le_cc, muls_ii, muls_si, ins_cs, iadd_ii, isub_ii, w_onone, w_osome, w_sl, sl_s, sl_t, s_aug, eq_ss, len_s, ix_s, add_ss, str_s, tuple_t, list_t, is_n, not_n, non_n, non_i, non_b, non_s, non_t, non_r, abs_i, max_ii, min_ii, int_i, int_b, gcd_ii, len_t, ix_t, eq_v, ne_v, eq_ii, eq_bb, eq_nn, eq_in, eq_ni, iv_n_list, iv_n_tuple, iv_n_bool, iv_n_str, iv_n_int, okt_n, iv_b_list, iv_b_tuple, iv_b_bool, iv_b_str, iv_b_int, okt_b, iv_i_list, iv_i_tuple, iv_i_bool, iv_i_str, iv_i_int, okt_i, iv_s_list, iv_s_tuple, iv_s_bool, iv_s_str, iv_s_int, okt_s, iv_t_list, iv_t_tuple, iv_t_bool, iv_t_str, iv_t_int, okt_t, iv_r_list, iv_r_tuple, iv_r_bool, iv_r_str, iv_r_int, tru_b, tru_i, tru_n, tru_t, Option.map_some, Option.map_none, List.map_cons, List.map_nil, List.length_cons, List.length_nil, List.set_cons_zero, List.set_cons_succ, List.cons_append, List.nil_append, List.replicate, Nat.reduceAdd, Nat.reduceSub, Nat.reduceLeDiff, true_and, and_true, decide_eq_true_eq, reduceIte, Bool.false_eq_true, Bool.not_true, Bool.not_false, decide_true, decide_false]
  rw [List.length_map]
  refine ⟨_, rfl, by omega, by omega, fun i l m' => ∃ (cs : List Clk) (x3 x4 x5 x6 x7 : Option PV), l = [some (.ref 0), some (.tup [.tup (L.map Loft.pv), .tup (B.map Bird.pv), .tup (R.map Race.pv)]), some (.ref m.length), x3, x4, x5, x6, x7] ∧ m'[m.length]? = some (.lst (cs.map Clk.pv)) ∧ (∀ c ∈ cs, ClkG L R c) ∧ (∀ a b : Nat, a < i → b < L.length → ∃ c ∈ cs, c.race = a ∧ c.loft = b) ∧ cs.length ≤ 3 * i ∧ Gr m m', ⟨[], _, _, _, _, _, rfl, get_new, no_mem1, fun a b h1 h2 => by omega, by simp, Gr.one⟩, ?_, ?_⟩
  · rintro i l m1 hi ⟨cs, x3, x4, x5, x6, x7, rfl, P, hc, hv, hn, G⟩
    unfold law_clocks_l2
    walk_at "w1"
    refine s_for1W ?_
    try simp -dsimp only [at0, at1, at2, at3, at4, at5, at6, wp_fn, s_nil, s_brk, s_cnt, s_expr, s_ret, s_retN, s_if, s_asn, s_par, s_asg, g_nm, g_nil, g_cons, g_tupT, g_subW, w_v0, w_vS, w_c, w_op, w_un, w_anil, w_acons, w_tup, w_lst, w_call, w_callU, w_isi, w_meth, w_tru, w_bool, w_notS, w_andS, w_orS, w_ifx, w_andV, w_orV, w_notV, w_chain, wp_ok, wp_bad, wp_some, wp_none, wp_liftif, wp_if, asB_b, wp_noex, add_ii, sub_ii, mul_ii, fdiv_ii, mod_ii, pow_ii, neg_i, cmp_ii, lt_ii, le_ii, gt_ii, ge_ii, le_cc, muls_ii, muls_si, ins_cs, iadd_ii, isub_ii, w_onone, w_osome, w_sl, sl_s, sl_t, s_aug, eq_ss, len_s, ix_s, add_ss, str_s, tuple_t, list_t, is_n, not_n, non_n, non_i, non_b, non_s, non_t, non_r, abs_i, max_ii, min_ii, int_i, int_b, gcd_ii, len_t, ix_t, eq_v, ne_v, eq_ii, eq_bb, eq_nn, eq_in, eq_ni, iv_n_list, iv_n_tuple, iv_n_bool, iv_n_str, iv_n_int, okt_n, iv_b_list, iv_b_tuple, iv_b_bool, iv_b_str, iv_b_int, okt_b, iv_i_list, iv_i_tuple, iv_i_bool, iv_i_str, iv_i_int, okt_i, iv_s_list, iv_s_tuple, iv_s_bool, iv_s_str, iv_s_int, okt_s, iv_t_list, iv_t_tuple, iv_t_bool, iv_t_str, iv_t_int, okt_t, iv_r_list, iv_r_tuple, iv_r_bool, iv_r_str, iv_r_int, tru_b, tru_i, tru_n, tru_t, Option.map_some, Option.map_none, List.map_cons, List.map_nil, List.length_cons, List.length_nil, List.set_cons_zero, List.set_cons_succ, List.cons_append, List.nil_append, List.replicate, Nat.reduceAdd, Nat.reduceSub, Nat.reduceLeDiff, true_and, and_true, decide_eq_true_eq, reduceIte, Bool.false_eq_true, Bool.not_true, Bool.not_false, decide_true, decide_false]
    rw [List.length_map]
    refine ⟨_, rfl, by omega, by omega, fun j l m' => ∃ (cs : List Clk) (x4 x5 x6 x7 : Option PV), l = [some (.ref 0), some (.tup [.tup (L.map Loft.pv), .tup (B.map Bird.pv), .tup (R.map Race.pv)]), some (.ref m.length), some (.int (i : Nat)), x4, x5, x6, x7] ∧ m'[m.length]? = some (.lst (cs.map Clk.pv)) ∧ (∀ c ∈ cs, ClkG L R c) ∧ (∀ a b : Nat, (a < i ∧ b < L.length) ∨ (a = i ∧ b < j) → ∃ c ∈ cs, c.race = a ∧ c.loft = b) ∧ cs.length ≤ 3 * i + j ∧ Gr m m', ⟨cs, _, _, _, _, rfl, P, hc, fun a b h1 => hv a b (by omega) (by omega), by omega, G⟩, ?_, ?_⟩
    · clear P hc hv hn G cs
      rintro j l m2 hj ⟨cs, x4, x5, x6, x7, rfl, P, hc, hv, hn, G⟩
      have er : R[i]? = some (R[i]'(by omega)) := List.getElem?_eq_getElem (by omega)
      have ro := hC.rx _ (List.mem_of_getElem? er)
      have rs := hC.rs _ (List.mem_of_getElem? er)
      generalize R[i]'(by omega) = rc at *
      have cell := fun (k : Int) (hk : 0 ≤ k) => cell_ok (k := k) (seq_of_frz (G.get _ _ h)) hk
      unfold law_clocks_l1
      walk_at "w1"
      rw [s_seq]
      walk_at "w1"
      refine (cell _ (by omega)).mono ?_
      rintro _ m2 ⟨rfl, rfl⟩
      generalize ns.getD _ 0 = c0
      walk_at "w1"
      refine (padded_ok (by omega) (by omega)).mono ?_
      rintro _ _ ⟨ds, rfl, rfl, hp⟩
      have PD := get_new (m := m2) (o := MO.lst (ds.map PV.int))
      have P1 := get_old (o := MO.lst (ds.map PV.int)) P
      have G1 := G.push (MO.lst (ds.map PV.int))
      have hml : m.length < m2.length := (List.getElem?_eq_some_iff.mp P).1
      generalize m2 ++ [MO.lst (ds.map PV.int)] = m3 at *
      generalize m2.length = dn at *
      obtain ⟨u, eu, au, bu⟩ := hp.at (i := (j : Nat)) (by omega) (by omega)
      obtain ⟨v, ev, av, bv⟩ := hp.at (i := 3 + (j : Nat)) (by omega) (by omega)
      obtain ⟨w, ew, aw, bw⟩ := hp.at (i := 6 + (j : Nat)) (by omega) (by omega)
      walk_at "w1"
      rw [s_seq]
      try simp -dsimp only [at_map er, Race.pv, pix PD eu, at0, at1, at2, at3, at4, at5, at6, wp_fn, s_nil, s_brk, s_cnt, s_expr, s_ret, s_retN, s_if, s_asn, s_par, s_asg, g_nm, g_nil, g_cons, g_tupT, g_subW, w_v0, w_vS, w_c, w_op, w_un, w_anil, w_acons, w_tup, w_lst, w_call, w_callU, w_isi, w_meth, w_tru, w_bool, w_notS, w_andS, w_orS, w_ifx, w_andV, w_orV, w_notV, w_chain, wp_ok, wp_bad, wp_some, wp_none, wp_liftif, wp_if, asB_b, wp_noex, add_ii, sub_ii, mul_ii, fdiv_ii, mod_ii, pow_ii, neg_i, cmp_ii, lt_ii, le_ii, gt_ii, ge_ii, le_cc, muls_ii, muls_si, ins_cs, iadd_ii, isub_ii, w_onone, w_osome, w_sl, sl_s, sl_t, s_aug, eq_ss, len_s, ix_s, add_ss, str_s, tuple_t, list_t, is_n, not_n, non_n, non_i, non_b, non_s, non_t, non_r, abs_i, max_ii, min_ii, int_i, int_b, gcd_ii, len_t, ix_t, eq_v, ne_v, eq_ii, eq_bb, eq_nn, eq_in, eq_ni, iv_n_list, iv_n_tuple, iv_n_bool, iv_n_str, iv_n_int, okt_n, iv_b_list, iv_b_tuple, iv_b_bool, iv_b_str, iv_b_int, okt_b, iv_i_list, iv_i_tuple, iv_i_bool, iv_i_str, iv_i_int, okt_i, iv_s_list, iv_s_tuple, iv_s_bool, iv_s_str, iv_s_int, okt_s, iv_t_list, iv_t_tuple, iv_t_bool, iv_t_str, iv_t_int, okt_t, iv_r_list, iv_r_tuple, iv_r_bool, iv_r_str, iv_r_int, tru_b, tru_i, tru_n, tru_t, Option.map_some, Option.map_none, List.map_cons, List.map_nil, List.length_cons, List.length_nil, List.set_cons_zero, List.set_cons_succ, List.cons_append, List.nil_append, List.replicate, Nat.reduceAdd, Nat.reduceSub, Nat.reduceLeDiff, true_and, and_true, decide_eq_true_eq, reduceIte, Bool.false_eq_true, Bool.not_true, Bool.not_false, decide_true, decide_false]
      rw [if_pos (by decide), fmod_pos (by decide)]
      try simp -dsimp only [at0, at1, at2, at3, at4, at5, at6, wp_fn, s_nil, s_brk, s_cnt, s_expr, s_ret, s_retN, s_if, s_asn, s_par, s_asg, g_nm, g_nil, g_cons, g_tupT, g_subW, w_v0, w_vS, w_c, w_op, w_un, w_anil, w_acons, w_tup, w_lst, w_call, w_callU, w_isi, w_meth, w_tru, w_bool, w_notS, w_andS, w_orS, w_ifx, w_andV, w_orV, w_notV, w_chain, wp_ok, wp_bad, wp_some, wp_none, wp_liftif, wp_if, asB_b, wp_noex, add_ii, sub_ii, mul_ii, fdiv_ii, mod_ii, pow_ii, neg_i, cmp_ii, lt_ii, le_ii, gt_ii, ge_ii, le_cc, muls_ii, muls_si, ins_cs, iadd_ii, isub_ii, w_onone, w_osome, w_sl, sl_s, sl_t, s_aug, eq_ss, len_s, ix_s, add_ss, str_s, tuple_t, list_t, is_n, not_n, non_n, non_i, non_b, non_s, non_t, non_r, abs_i, max_ii, min_ii, int_i, int_b, gcd_ii, len_t, ix_t, eq_v, ne_v, eq_ii, eq_bb, eq_nn, eq_in, eq_ni, iv_n_list, iv_n_tuple, iv_n_bool, iv_n_str, iv_n_int, okt_n, iv_b_list, iv_b_tuple, iv_b_bool, iv_b_str, iv_b_int, okt_b, iv_i_list, iv_i_tuple, iv_i_bool, iv_i_str, iv_i_int, okt_i, iv_s_list, iv_s_tuple, iv_s_bool, iv_s_str, iv_s_int, okt_s, iv_t_list, iv_t_tuple, iv_t_bool, iv_t_str, iv_t_int, okt_t, iv_r_list, iv_r_tuple, iv_r_bool, iv_r_str, iv_r_int, tru_b, tru_i, tru_n, tru_t, Option.map_some, Option.map_none, List.map_cons, List.map_nil, List.length_cons, List.length_nil, List.set_cons_zero, List.set_cons_succ, List.cons_append, List.nil_append, List.replicate, Nat.reduceAdd, Nat.reduceSub, Nat.reduceLeDiff, true_and, and_true, decide_eq_true_eq, reduceIte, Bool.false_eq_true, Bool.not_true, Bool.not_false, decide_true, decide_false]
      rw [s_seq]
      try simp -dsimp only [at_map er, Race.pv, pix PD ev, at0, at1, at2, at3, at4, at5, at6, wp_fn, s_nil, s_brk, s_cnt, s_expr, s_ret, s_retN, s_if, s_asn, s_par, s_asg, g_nm, g_nil, g_cons, g_tupT, g_subW, w_v0, w_vS, w_c, w_op, w_un, w_anil, w_acons, w_tup, w_lst, w_call, w_callU, w_isi, w_meth, w_tru, w_bool, w_notS, w_andS, w_orS, w_ifx, w_andV, w_orV, w_notV, w_chain, wp_ok, wp_bad, wp_some, wp_none, wp_liftif, wp_if, asB_b, wp_noex, add_ii, sub_ii, mul_ii, fdiv_ii, mod_ii, pow_ii, neg_i, cmp_ii, lt_ii, le_ii, gt_ii, ge_ii, le_cc, muls_ii, muls_si, ins_cs, iadd_ii, isub_ii, w_onone, w_osome, w_sl, sl_s, sl_t, s_aug, eq_ss, len_s, ix_s, add_ss, str_s, tuple_t, list_t, is_n, not_n, non_n, non_i, non_b, non_s, non_t, non_r, abs_i, max_ii, min_ii, int_i, int_b, gcd_ii, len_t, ix_t, eq_v, ne_v, eq_ii, eq_bb, eq_nn, eq_in, eq_ni, iv_n_list, iv_n_tuple, iv_n_bool, iv_n_str, iv_n_int, okt_n, iv_b_list, iv_b_tuple, iv_b_bool, iv_b_str, iv_b_int, okt_b, iv_i_list, iv_i_tuple, iv_i_bool, iv_i_str, iv_i_int, okt_i, iv_s_list, iv_s_tuple, iv_s_bool, iv_s_str, iv_s_int, okt_s, iv_t_list, iv_t_tuple, iv_t_bool, iv_t_str, iv_t_int, okt_t, iv_r_list, iv_r_tuple, iv_r_bool, iv_r_str, iv_r_int, tru_b, tru_i, tru_n, tru_t, Option.map_some, Option.map_none, List.map_cons, List.map_nil, List.length_cons, List.length_nil, List.set_cons_zero, List.set_cons_succ, List.cons_append, List.nil_append, List.replicate, Nat.reduceAdd, Nat.reduceSub, Nat.reduceLeDiff, true_and, and_true, decide_eq_true_eq, reduceIte, Bool.false_eq_true, Bool.not_true, Bool.not_false, decide_true, decide_false]
      rw [if_pos (by decide), fmod_pos (by decide)]
      try simp -dsimp only [at0, at1, at2, at3, at4, at5, at6, wp_fn, s_nil, s_brk, s_cnt, s_expr, s_ret, s_retN, s_if, s_asn, s_par, s_asg, g_nm, g_nil, g_cons, g_tupT, g_subW, w_v0, w_vS, w_c, w_op, w_un, w_anil, w_acons, w_tup, w_lst, w_call, w_callU, w_isi, w_meth, w_tru, w_bool, w_notS, w_andS, w_orS, w_ifx, w_andV, w_orV, w_notV, w_chain, wp_ok, wp_bad, wp_some, wp_none, wp_liftif, wp_if, asB_b, wp_noex, add_ii, sub_ii, mul_ii, fdiv_ii, mod_ii, pow_ii, neg_i, cmp_ii, lt_ii, le_ii, gt_ii, ge_ii, le_cc, muls_ii, muls_si, ins_cs, iadd_ii, isub_ii, w_onone, w_osome, w_sl, sl_s, sl_t, s_aug, eq_ss, len_s, ix_s, add_ss, str_s, tuple_t, list_t, is_n, not_n, non_n, non_i, non_b, non_s, non_t, non_r, abs_i, max_ii, min_ii, int_i, int_b, gcd_ii, len_t, ix_t, eq_v, ne_v, eq_ii, eq_bb, eq_nn, eq_in, eq_ni, iv_n_list, iv_n_tuple, iv_n_bool, iv_n_str, iv_n_int, okt_n, iv_b_list, iv_b_tuple, iv_b_bool, iv_b_str, iv_b_int, okt_b, iv_i_list, iv_i_tuple, iv_i_bool, iv_i_str, iv_i_int, okt_i, iv_s_list, iv_s_tuple, iv_s_bool, iv_s_str, iv_s_int, okt_s, iv_t_list, iv_t_tuple, iv_t_bool, iv_t_str, iv_t_int, okt_t, iv_r_list, iv_r_tuple, iv_r_bool, iv_r_str, iv_r_int, tru_b, tru_i, tru_n, tru_t, Option.map_some, Option.map_none, List.map_cons, List.map_nil, List.length_cons, List.length_nil, List.set_cons_zero, List.set_cons_succ, List.cons_append, List.nil_append, List.replicate, Nat.reduceAdd, Nat.reduceSub, Nat.reduceLeDiff, true_and, and_true, decide_eq_true_eq, reduceIte, Bool.false_eq_true, Bool.not_true, Bool.not_false, decide_true, decide_false]
      refine ⟨isLst_r P1, ?_⟩
      try simp -dsimp only [pix PD ew, at0, at1, at2, at3, at4, at5, at6, wp_fn, s_nil, s_brk, s_cnt, s_expr, s_ret, s_retN, s_if, s_asn, s_par, s_asg, g_nm, g_nil, g_cons, g_tupT, g_subW, w_v0, w_vS, w_c, w_op, w_un, w_anil, w_acons, w_tup, w_lst, w_call, w_callU, w_isi, w_meth, w_tru, w_bool, w_notS, w_andS, w_orS, w_ifx, w_andV, w_orV, w_notV, w_chain, wp_ok, wp_bad, wp_some, wp_none, wp_liftif, wp_if, asB_b, wp_noex, add_ii, sub_ii, mul_ii, fdiv_ii, mod_ii, pow_ii, neg_i, cmp_ii, lt_ii, le_ii, gt_ii, ge_ii, le_cc, muls_ii, muls_si, ins_cs, iadd_ii, isub_ii, w_onone, w_osome, w_sl, sl_s, sl_t, s_aug, eq_ss, len_s, ix_s, add_ss, str_s, tuple_t, list_t, is_n, not_n, non_n, non_i, non_b, non_s, non_t, non_r, abs_i, max_ii, min_ii, int_i, int_b, gcd_ii, len_t, ix_t, eq_v, ne_v, eq_ii, eq_bb, eq_nn, eq_in, eq_ni, iv_n_list, iv_n_tuple, iv_n_bool, iv_n_str, iv_n_int, okt_n, iv_b_list, iv_b_tuple, iv_b_bool, iv_b_str, iv_b_int, okt_b, iv_i_list, iv_i_tuple, iv_i_bool, iv_i_str, iv_i_int, okt_i, iv_s_list, iv_s_tuple, iv_s_bool, iv_s_str, iv_s_int, okt_s, iv_t_list, iv_t_tuple, iv_t_bool, iv_t_str, iv_t_int, okt_t, iv_r_list, iv_r_tuple, iv_r_bool, iv_r_str, iv_r_int, tru_b, tru_i, tru_n, tru_t, Option.map_some, Option.map_none, List.map_cons, List.map_nil, List.length_cons, List.length_nil, List.set_cons_zero, List.set_cons_succ, List.cons_append, List.nil_append, List.replicate, Nat.reduceAdd, Nat.reduceSub, Nat.reduceLeDiff, true_and, and_true, decide_eq_true_eq, reduceIte, Bool.false_eq_true, Bool.not_true, Bool.not_false, decide_true, decide_false]
      rw [if_pos (by decide), fmod_pos (by decide)]
      try simp -dsimp only [at0, at1, at2, at3, at4, at5, at6, wp_fn, s_nil, s_brk, s_cnt, s_expr, s_ret, s_retN, s_if, s_asn, s_par, s_asg, g_nm, g_nil, g_cons, g_tupT, g_subW, w_v0, w_vS, w_c, w_op, w_un, w_anil, w_acons, w_tup, w_lst, w_call, w_callU, w_isi, w_meth, w_tru, w_bool, w_notS, w_andS, w_orS, w_ifx, w_andV, w_orV, w_notV, w_chain, wp_ok, wp_bad, wp_some, wp_none, wp_liftif, wp_if, asB_b, wp_noex, add_ii, sub_ii, mul_ii, fdiv_ii, mod_ii, pow_ii, neg_i, cmp_ii, lt_ii, le_ii, gt_ii, ge_ii, le_cc, muls_ii, muls_si, ins_cs, iadd_ii, isub_ii, w_onone, w_osome, w_sl, sl_s, sl_t, s_aug, eq_ss, len_s, ix_s, add_ss, str_s, tuple_t, list_t, is_n, not_n, non_n, non_i, non_b, non_s, non_t, non_r, abs_i, max_ii, min_ii, int_i, int_b, gcd_ii, len_t, ix_t, eq_v, ne_v, eq_ii, eq_bb, eq_nn, eq_in, eq_ni, iv_n_list, iv_n_tuple, iv_n_bool, iv_n_str, iv_n_int, okt_n, iv_b_list, iv_b_tuple, iv_b_bool, iv_b_str, iv_b_int, okt_b, iv_i_list, iv_i_tuple, iv_i_bool, iv_i_str, iv_i_int, okt_i, iv_s_list, iv_s_tuple, iv_s_bool, iv_s_str, iv_s_int, okt_s, iv_t_list, iv_t_tuple, iv_t_bool, iv_t_str, iv_t_int, okt_t, iv_r_list, iv_r_tuple, iv_r_bool, iv_r_str, iv_r_int, tru_b, tru_i, tru_n, tru_t, Option.map_some, Option.map_none, List.map_cons, List.map_nil, List.length_cons, List.length_nil, List.set_cons_zero, List.set_cons_succ, List.cons_append, List.nil_append, List.replicate, Nat.reduceAdd, Nat.reduceSub, Nat.reduceLeDiff, true_and, and_true, decide_eq_true_eq, reduceIte, Bool.false_eq_true, Bool.not_true, Bool.not_false, decide_true, decide_false]
      rw [append_r P1 (by rw [List.length_map]; omega)]
      try simp -dsimp only [at0, at1, at2, at3, at4, at5, at6, wp_fn, s_nil, s_brk, s_cnt, s_expr, s_ret, s_retN, s_if, s_asn, s_par, s_asg, g_nm, g_nil, g_cons, g_tupT, g_subW, w_v0, w_vS, w_c, w_op, w_un, w_anil, w_acons, w_tup, w_lst, w_call, w_callU, w_isi, w_meth, w_tru, w_bool, w_notS, w_andS, w_orS, w_ifx, w_andV, w_orV, w_notV, w_chain, wp_ok, wp_bad, wp_some, wp_none, wp_liftif, wp_if, asB_b, wp_noex, add_ii, sub_ii, mul_ii, fdiv_ii, mod_ii, pow_ii, neg_i, cmp_ii, lt_ii, le_ii, gt_ii, ge_ii, le_cc, muls_ii, muls_si, ins_cs, iadd_ii, isub_ii, w_onone, w_osome, w_sl, sl_s, sl_t, s_aug, eq_ss, len_s, ix_s, add_ss, str_s, tuple_t, list_t, is_n, not_n, non_n, non_i, non_b, non_s, non_t, non_r, abs_i, max_ii, min_ii, int_i, int_b, gcd_ii, len_t, ix_t, eq_v, ne_v, eq_ii, eq_bb, eq_nn, eq_in, eq_ni, iv_n_list, iv_n_tuple, iv_n_bool, iv_n_str, iv_n_int, okt_n, iv_b_list, iv_b_tuple, iv_b_bool, iv_b_str, iv_b_int, okt_b, iv_i_list, iv_i_tuple, iv_i_bool, iv_i_str, iv_i_int, okt_i, iv_s_list, iv_s_tuple, iv_s_bool, iv_s_str, iv_s_int, okt_s, iv_t_list, iv_t_tuple, iv_t_bool, iv_t_str, iv_t_int, okt_t, iv_r_list, iv_r_tuple, iv_r_bool, iv_r_str, iv_r_int, tru_b, tru_i, tru_n, tru_t, Option.map_some, Option.map_none, List.map_cons, List.map_nil, List.length_cons, List.length_nil, List.set_cons_zero, List.set_cons_succ, List.cons_append, List.nil_append, List.replicate, Nat.reduceAdd, Nat.reduceSub, Nat.reduceLeDiff, true_and, and_true, decide_eq_true_eq, reduceIte, Bool.false_eq_true, Bool.not_true, Bool.not_false, decide_true, decide_false]
      have o1 := ro.close
      refine ⟨cs ++ [⟨i, j, rc.start - u % 30, rc.close + v % 20, if rc.close + v % 20 - 4 + w % 9 > rc.start - u % 30 + 1 then rc.close + v % 20 - 4 + w % 9 else rc.start - u % 30 + 1⟩], _, _, _, _, rfl, (get_set_eq P1).trans ?_, fun z hz => (List.mem_append.mp hz).elim (hc z) fun e => ?_, fun a b hab => ?_, by simp; omega, G1.set (Nat.le_refl _)⟩
      · rw [List.map_append]; rfl
      · rw [List.mem_singleton.mp e]
        refine ⟨by show i < R.length; omega, by show j < L.length; omega, ?_, ?_, ?_, ?_, ?_⟩
        all_goals try dsimp only
        all_goals try split
        all_goals omega
      · by_cases hz : a = i ∧ b = j
        · exact ⟨_, List.mem_append_right _ List.mem_cons_self, hz.1.symm, hz.2.symm⟩
        · obtain ⟨c, h1, h2⟩ := hv a b (by omega)
          exact ⟨c, List.mem_append_left _ h1, h2⟩
    · clear P hc hv hn G cs
      rintro l m2 ⟨cs, x4, x5, x6, x7, rfl, P, hc, hv, hn, G⟩
      exact ⟨cs, _, _, _, _, _, rfl, P, hc, fun a b h1 h2 => hv a b (by omega), by omega, G⟩
  · rintro l m1 ⟨cs, x3, x4, x5, x6, x7, rfl, P, hc, hv, hn, G⟩
    walk_at "w1"
    exact ⟨cs, m.length, rfl, P, ⟨hc, fun i j h1 h2 => hv i j (by omega) h2⟩, by omega, Nat.le_refl _, G⟩
theorem reading_ok {m : MH} {i j : Nat} {b e s g : Int} (hs : b < s) (hg : 0 ≤ g ∧ g < 100000) : WP (f_law_reading [clkPV i j b e s, .int g] m) (fun x m' => (∃ r, x = .int r) ∧ m' = m) NoE := by
  unfold f_law_reading b_law_reading clkPV
  try simp -dsimp only [at0, at1, at2, at3, at4, at5, at6, wp_fn, s_nil, s_brk, s_cnt, s_expr, s_ret, s_retN, s_if, s_asn, s_par, s_asg, g_nm, g_nil, g_cons, g_tupT, g_subW, w_v0, w_vS, w_c, w_op, w_un, w_anil, w_acons, w_tup, w_lst, w_call, w_callU, w_isi, w_meth, w_tru, w_bool, w_notS, w_andS, w_orS, w_ifx, w_andV, w_orV, w_notV, w_chain, wp_ok, wp_bad, wp_some, wp_none, wp_liftif, wp_if, asB_b, wp_noex, add_ii, sub_ii, mul_ii, fdiv_ii, mod_ii, pow_ii, neg_i, cmp_ii, lt_ii, le_ii, gt_ii, ge_ii, le_cc, muls_ii, muls_si, ins_cs, iadd_ii, isub_ii, w_onone, w_osome, w_sl, sl_s, sl_t, s_aug, eq_ss, len_s, ix_s, add_ss, str_s, tuple_t, list_t, is_n, not_n, non_n, non_i, non_b, non_s, non_t, non_r, abs_i, max_ii, min_ii, int_i, int_b, gcd_ii, len_t, ix_t, eq_v, ne_v, eq_ii, eq_bb, eq_nn, eq_in, eq_ni, iv_n_list, iv_n_tuple, iv_n_bool, iv_n_str, iv_n_int, okt_n, iv_b_list, iv_b_tuple, iv_b_bool, iv_b_str, iv_b_int, okt_b, iv_i_list, iv_i_tuple, iv_i_bool, iv_i_str, iv_i_int, okt_i, iv_s_list, iv_s_tuple, iv_s_bool, iv_s_str, iv_s_int, okt_s, iv_t_list, iv_t_tuple, iv_t_bool, iv_t_str, iv_t_int, okt_t, iv_r_list, iv_r_tuple, iv_r_bool, iv_r_str, iv_r_int, tru_b, tru_i, tru_n, tru_t, Option.map_some, Option.map_none, List.map_cons, List.map_nil, List.length_cons, List.length_nil, List.set_cons_zero, List.set_cons_succ, List.cons_append, List.nil_append, List.replicate, Nat.reduceAdd, Nat.reduceSub, Nat.reduceLeDiff, true_and, and_true, decide_eq_true_eq, reduceIte, Bool.false_eq_true, Bool.not_true, Bool.not_false, decide_true, decide_false]
  rw [if_pos (.inl (.inl (by omega))), if_pos (by omega), fmod_pos (by omega)]
  try simp -dsimp only [at0, at1, at2, at3, at4, at5, at6, wp_fn, s_nil, s_brk, s_cnt, s_expr, s_ret, s_retN, s_if, s_asn, s_par, s_asg, g_nm, g_nil, g_cons, g_tupT, g_subW, w_v0, w_vS, w_c, w_op, w_un, w_anil, w_acons, w_tup, w_lst, w_call, w_callU, w_isi, w_meth, w_tru, w_bool, w_notS, w_andS, w_orS, w_ifx, w_andV, w_orV, w_notV, w_chain, wp_ok, wp_bad, wp_some, wp_none, wp_liftif, wp_if, asB_b, wp_noex, add_ii, sub_ii, mul_ii, fdiv_ii, mod_ii, pow_ii, neg_i, cmp_ii, lt_ii, le_ii, gt_ii, ge_ii, le_cc, muls_ii, muls_si, ins_cs, iadd_ii, isub_ii, w_onone, w_osome, w_sl, sl_s, sl_t, s_aug, eq_ss, len_s, ix_s, add_ss, str_s, tuple_t, list_t, is_n, not_n, non_n, non_i, non_b, non_s, non_t, non_r, abs_i, max_ii, min_ii, int_i, int_b, gcd_ii, len_t, ix_t, eq_v, ne_v, eq_ii, eq_bb, eq_nn, eq_in, eq_ni, iv_n_list, iv_n_tuple, iv_n_bool, iv_n_str, iv_n_int, okt_n, iv_b_list, iv_b_tuple, iv_b_bool, iv_b_str, iv_b_int, okt_b, iv_i_list, iv_i_tuple, iv_i_bool, iv_i_str, iv_i_int, okt_i, iv_s_list, iv_s_tuple, iv_s_bool, iv_s_str, iv_s_int, okt_s, iv_t_list, iv_t_tuple, iv_t_bool, iv_t_str, iv_t_int, okt_t, iv_r_list, iv_r_tuple, iv_r_bool, iv_r_str, iv_r_int, tru_b, tru_i, tru_n, tru_t, Option.map_some, Option.map_none, List.map_cons, List.map_nil, List.length_cons, List.length_nil, List.set_cons_zero, List.set_cons_succ, List.cons_append, List.nil_append, List.replicate, Nat.reduceAdd, Nat.reduceSub, Nat.reduceLeDiff, true_and, and_true, decide_eq_true_eq, reduceIte, Bool.false_eq_true, Bool.not_true, Bool.not_false, decide_true, decide_false]
  exact ⟨_, rfl⟩
theorem last_in {α : Type} {xs : List α} (h : xs ≠ []) : ∃ x, atI xs (-1) = some x ∧ x ∈ xs := by
  have hl : 0 < xs.length := List.length_pos_iff.mpr h
  unfold atI ixN
  rw [if_neg (by decide), if_pos (by omega)]
  have : ((-1 : Int) + (xs.length : Nat)).toNat < xs.length := by omega
  exact ⟨_, List.getElem?_eq_getElem this, List.getElem_mem this⟩
theorem clockfor_ok {m : MH} {n i k : Nat} {bd : Bird} {t : Int} {cs : List Clk} {L : List Loft} {B : List Bird} {R : List Race} (hC : ClubG L B R) (hc : CkG L R cs) (hcl : cs.length ≤ 100) (hn : m[n]? = some (.lst (cs.map Clk.pv))) (hi : i < R.length) (hk : B[k]? = some bd) (hr : bd.ring = t) :
    WP (f_law_clock_for [clubPV L B R, .ref n, .int (i : Nat), .int t] m) (fun x m' => (∃ c ∈ cs, x = c.pv) ∧ Gr m m') NoE := by
  have b2 := hC.b2
  unfold f_law_clock_for b_law_clock_for clubPV
  walk_at "w1"
  rw [s_seq]
  walk_at "w1"
  refine w_lcT ?_
  try simp -dsimp only [at0, at1, at2, at3, at4, at5, at6, wp_fn, s_nil, s_brk, s_cnt, s_expr, s_ret, s_retN, s_if, s_asn, s_par, s_asg, g_nm, g_nil, g_cons, g_tupT, g_subW, w_v0, w_vS, w_c, w_op, w_un, w_anil, w_acons, w_tup, w_lst, w_call, w_callU, w_isi, w_meth, w_tru, w_bool, w_notS, w_andS, w_orS, w_ifx, w_andV, w_orV, w_notV, w_chain, wp_ok, wp_bad, wp_some, wp_none, wp_liftif, wp_if, asB_b, wp_noex, add_ii, sub_ii, mul_ii, fdiv_ii, mod_ii, pow_ii, neg_i, cmp_ii, lt_ii, le_ii, gt_ii, ge_ii, le_cc, muls_ii, muls_si, ins_cs, iadd_ii, isub_ii, w_onone, w_osome, w_sl, sl_s, sl_t, s_aug, eq_ss, len_s, ix_s, add_ss, str_s, tuple_t, list_t, is_n, not_n, non_n, non_i, non_b, non_s, non_t, non_r, abs_i, max_ii, min_ii, int_i, int_b, gcd_ii, len_t, ix_t, eq_v, ne_v, eq_ii, eq_bb, eq_nn, eq_in, eq_ni, iv_n_list, iv_n_tuple, iv_n_bool, iv_n_str, iv_n_int, okt_n, iv_b_list, iv_b_tuple, iv_b_bool, iv_b_str, iv_b_int, okt_b, iv_i_list, iv_i_tuple, iv_i_bool, iv_i_str, iv_i_int, okt_i, iv_s_list, iv_s_tuple, iv_s_bool, iv_s_str, iv_s_int, okt_s, iv_t_list, iv_t_tuple, iv_t_bool, iv_t_str, iv_t_int, okt_t, iv_r_list, iv_r_tuple, iv_r_bool, iv_r_str, iv_r_int, tru_b, tru_i, tru_n, tru_t, Option.map_some, Option.map_none, List.map_cons, List.map_nil, List.length_cons, List.length_nil, List.set_cons_zero, List.set_cons_succ, List.cons_append, List.nil_append, List.replicate, Nat.reduceAdd, Nat.reduceSub, Nat.reduceLeDiff, true_and, and_true, decide_eq_true_eq, reduceIte, Bool.false_eq_true, Bool.not_true, Bool.not_false, decide_true, decide_false]
  refine ⟨_, rfl, fun j acc m' => ∃ xs : List Int, acc = xs.map .int ∧ (∀ v ∈ xs, 0 ≤ v ∧ v < L.length) ∧ (k < j → xs ≠ []) ∧ xs.length ≤ j ∧ m' = m ++ [.lst acc], ⟨[], rfl, no_mem1, by omega, Nat.le_refl _, rfl⟩, ?_, ?_⟩
  · rintro j x acc m' hx ha ⟨xs, rfl, hv, hne, hl, rfl⟩
    rw [List.getElem?_map] at hx
    cases hb : B[j]? with
    | none => rw [hb] at hx; cases hx
    | some b =>
    rw [hb] at hx
    cases hx
    have hj := (List.getElem?_eq_some_iff.mp hb).1
    have bo := hC.bx b (List.mem_of_getElem? hb)
    simp only [wipeP]
    unfold Bird.pv
    try simp -dsimp only [at0, at1, at2, at3, at4, at5, at6, wp_fn, s_nil, s_brk, s_cnt, s_expr, s_ret, s_retN, s_if, s_asn, s_par, s_asg, g_nm, g_nil, g_cons, g_tupT, g_subW, w_v0, w_vS, w_c, w_op, w_un, w_anil, w_acons, w_tup, w_lst, w_call, w_callU, w_isi, w_meth, w_tru, w_bool, w_notS, w_andS, w_orS, w_ifx, w_andV, w_orV, w_notV, w_chain, wp_ok, wp_bad, wp_some, wp_none, wp_liftif, wp_if, asB_b, wp_noex, add_ii, sub_ii, mul_ii, fdiv_ii, mod_ii, pow_ii, neg_i, cmp_ii, lt_ii, le_ii, gt_ii, ge_ii, le_cc, muls_ii, muls_si, ins_cs, iadd_ii, isub_ii, w_onone, w_osome, w_sl, sl_s, sl_t, s_aug, eq_ss, len_s, ix_s, add_ss, str_s, tuple_t, list_t, is_n, not_n, non_n, non_i, non_b, non_s, non_t, non_r, abs_i, max_ii, min_ii, int_i, int_b, gcd_ii, len_t, ix_t, eq_v, ne_v, eq_ii, eq_bb, eq_nn, eq_in, eq_ni, iv_n_list, iv_n_tuple, iv_n_bool, iv_n_str, iv_n_int, okt_n, iv_b_list, iv_b_tuple, iv_b_bool, iv_b_str, iv_b_int, okt_b, iv_i_list, iv_i_tuple, iv_i_bool, iv_i_str, iv_i_int, okt_i, iv_s_list, iv_s_tuple, iv_s_bool, iv_s_str, iv_s_int, okt_s, iv_t_list, iv_t_tuple, iv_t_bool, iv_t_str, iv_t_int, okt_t, iv_r_list, iv_r_tuple, iv_r_bool, iv_r_str, iv_r_int, tru_b, tru_i, tru_n, tru_t, Option.map_some, Option.map_none, List.map_cons, List.map_nil, List.length_cons, List.length_nil, List.set_cons_zero, List.set_cons_succ, List.cons_append, List.nil_append, List.replicate, Nat.reduceAdd, Nat.reduceSub, Nat.reduceLeDiff, true_and, and_true, decide_eq_true_eq, reduceIte, Bool.false_eq_true, Bool.not_true, Bool.not_false, decide_true, decide_false]
    by_cases c : b.ring = t
    · simp only [c, decide_true, if_true]
      try simp -dsimp only [at0, at1, at2, at3, at4, at5, at6, wp_fn, s_nil, s_brk, s_cnt, s_expr, s_ret, s_retN, s_if, s_asn, s_par, s_asg, g_nm, g_nil, g_cons, g_tupT, g_subW, w_v0, w_vS, w_c, w_op, w_un, w_anil, w_acons, w_tup, w_lst, w_call, w_callU, w_isi, w_meth, w_tru, w_bool, w_notS, w_andS, w_orS, w_ifx, w_andV, w_orV, w_notV, w_chain, wp_ok, wp_bad, wp_some, wp_none, wp_liftif, wp_if, asB_b, wp_noex, add_ii, sub_ii, mul_ii, fdiv_ii, mod_ii, pow_ii, neg_i, cmp_ii, lt_ii, le_ii, gt_ii, ge_ii, le_cc, muls_ii, muls_si, ins_cs, iadd_ii, isub_ii, w_onone, w_osome, w_sl, sl_s, sl_t, s_aug, eq_ss, len_s, ix_s, add_ss, str_s, tuple_t, list_t, is_n, not_n, non_n, non_i, non_b, non_s, non_t, non_r, abs_i, max_ii, min_ii, int_i, int_b, gcd_ii, len_t, ix_t, eq_v, ne_v, eq_ii, eq_bb, eq_nn, eq_in, eq_ni, iv_n_list, iv_n_tuple, iv_n_bool, iv_n_str, iv_n_int, okt_n, iv_b_list, iv_b_tuple, iv_b_bool, iv_b_str, iv_b_int, okt_b, iv_i_list, iv_i_tuple, iv_i_bool, iv_i_str, iv_i_int, okt_i, iv_s_list, iv_s_tuple, iv_s_bool, iv_s_str, iv_s_int, okt_s, iv_t_list, iv_t_tuple, iv_t_bool, iv_t_str, iv_t_int, okt_t, iv_r_list, iv_r_tuple, iv_r_bool, iv_r_str, iv_r_int, tru_b, tru_i, tru_n, tru_t, Option.map_some, Option.map_none, List.map_cons, List.map_nil, List.length_cons, List.length_nil, List.set_cons_zero, List.set_cons_succ, List.cons_append, List.nil_append, List.replicate, Nat.reduceAdd, Nat.reduceSub, Nat.reduceLeDiff, true_and, and_true, decide_eq_true_eq, reduceIte, Bool.false_eq_true, Bool.not_true, Bool.not_false, decide_true, decide_false]
      refine ⟨ha, by rw [List.length_map]; omega, xs ++ [b.loft], by rw [List.map_append]; rfl, fun v hv' => (List.mem_append.mp hv').elim (hv v) fun e => by rw [List.mem_singleton.mp e]; exact bo, fun _ => by simp, by simp; omega, ?_⟩
      rw [set_new]
    · simp only [c, decide_false, if_false, Bool.false_eq_true]
      refine ⟨ha, xs, rfl, hv, fun hkj => hne ?_, by omega⟩
      by_cases e : k = j
      · subst e
        rw [hk] at hb
        cases hb
        exact absurd hr c
      · omega
  · rintro acc m' ha ⟨xs, rfl, hv, hne, hl, rfl⟩
    rw [List.length_map] at hne
    have hkl := (List.getElem?_eq_some_iff.mp hk).1
    obtain ⟨lf, e1, e2⟩ := atI_in (xs := xs) (i := 0) (by decide) (by have := List.length_pos_iff.mpr (hne hkl); omega)
    have e3 : atI (xs.map PV.int) 0 = some (.int lf) := by
      obtain ⟨y, f1, f2⟩ := atI_in (xs := xs.map PV.int) (i := 0) (by decide) (by rw [List.length_map]; have := List.length_pos_iff.mpr (hne hkl); omega)
      cases xs with
      | nil => exact absurd rfl (hne hkl)
      | cons a r =>
        rw [at0] at e1
        cases e1
        rw [List.map_cons, at0]
    obtain ⟨v1, v2⟩ := hv lf e2
    obtain ⟨j, rfl⟩ := Int.eq_ofNat_of_zero_le v1
    have hn1 := get_old (o := MO.lst (xs.map PV.int)) hn
    have G1 : Gr m (m ++ [MO.lst (xs.map PV.int)]) := Gr.one
    have ha1 := get_new (m := m) (o := MO.lst (xs.map PV.int))
    try simp -dsimp only [pix ha1 e3, at0, at1, at2, at3, at4, at5, at6, wp_fn, s_nil, s_brk, s_cnt, s_expr, s_ret, s_retN, s_if, s_asn, s_par, s_asg, g_nm, g_nil, g_cons, g_tupT, g_subW, w_v0, w_vS, w_c, w_op, w_un, w_anil, w_acons, w_tup, w_lst, w_call, w_callU, w_isi, w_meth, w_tru, w_bool, w_notS, w_andS, w_orS, w_ifx, w_andV, w_orV, w_notV, w_chain, wp_ok, wp_bad, wp_some, wp_none, wp_liftif, wp_if, asB_b, wp_noex, add_ii, sub_ii, mul_ii, fdiv_ii, mod_ii, pow_ii, neg_i, cmp_ii, lt_ii, le_ii, gt_ii, ge_ii, le_cc, muls_ii, muls_si, ins_cs, iadd_ii, isub_ii, w_onone, w_osome, w_sl, sl_s, sl_t, s_aug, eq_ss, len_s, ix_s, add_ss, str_s, tuple_t, list_t, is_n, not_n, non_n, non_i, non_b, non_s, non_t, non_r, abs_i, max_ii, min_ii, int_i, int_b, gcd_ii, len_t, ix_t, eq_v, ne_v, eq_ii, eq_bb, eq_nn, eq_in, eq_ni, iv_n_list, iv_n_tuple, iv_n_bool, iv_n_str, iv_n_int, okt_n, iv_b_list, iv_b_tuple, iv_b_bool, iv_b_str, iv_b_int, okt_b, iv_i_list, iv_i_tuple, iv_i_bool, iv_i_str, iv_i_int, okt_i, iv_s_list, iv_s_tuple, iv_s_bool, iv_s_str, iv_s_int, okt_s, iv_t_list, iv_t_tuple, iv_t_bool, iv_t_str, iv_t_int, okt_t, iv_r_list, iv_r_tuple, iv_r_bool, iv_r_str, iv_r_int, tru_b, tru_i, tru_n, tru_t, Option.map_some, Option.map_none, List.map_cons, List.map_nil, List.length_cons, List.length_nil, List.set_cons_zero, List.set_cons_succ, List.cons_append, List.nil_append, List.replicate, Nat.reduceAdd, Nat.reduceSub, Nat.reduceLeDiff, true_and, and_true, decide_eq_true_eq, reduceIte, Bool.false_eq_true, Bool.not_true, Bool.not_false, decide_true, decide_false]
    generalize m ++ [MO.lst (xs.map PV.int)] = m1 at *
    refine w_lcL ?_
    walk_at "w1"
    refine ⟨_, _, rfl, seq_of_lst hn1, fun q acc m' => ∃ cl : List Clk, acc = cl.map Clk.pv ∧ (∀ c ∈ cl, c ∈ cs) ∧ (∀ a (c : Clk), cs[a]? = some c → a < q → c.race = i → c.loft = j → cl ≠ []) ∧ cl.length ≤ q ∧ Gr m1 m', ⟨[], rfl, no_mem1, fun a c h1 h2 => by omega, Nat.le_refl _, Gr.one⟩, ?_, ?_⟩
    · rintro q x acc m2 hx ha ⟨cl, rfl, hcs, hne2, hl2, G2⟩
      refine ⟨seq_of_lst (G2.get _ _ hn1), ?_⟩
      rw [List.getElem?_map] at hx
      cases hq : cs[q]? with
      | none => rw [hq] at hx; cases hx
      | some c =>
      rw [hq] at hx
      cases hx
      have hql := (List.getElem?_eq_some_iff.mp hq).1
      simp only [wipeP]
      unfold Clk.pv clkPV
      try simp -dsimp only [clk_cut, eq_pair, at0, at1, at2, at3, at4, at5, at6, wp_fn, s_nil, s_brk, s_cnt, s_expr, s_ret, s_retN, s_if, s_asn, s_par, s_asg, g_nm, g_nil, g_cons, g_tupT, g_subW, w_v0, w_vS, w_c, w_op, w_un, w_anil, w_acons, w_tup, w_lst, w_call, w_callU, w_isi, w_meth, w_tru, w_bool, w_notS, w_andS, w_orS, w_ifx, w_andV, w_orV, w_notV, w_chain, wp_ok, wp_bad, wp_some, wp_none, wp_liftif, wp_if, asB_b, wp_noex, add_ii, sub_ii, mul_ii, fdiv_ii, mod_ii, pow_ii, neg_i, cmp_ii, lt_ii, le_ii, gt_ii, ge_ii, le_cc, muls_ii, muls_si, ins_cs, iadd_ii, isub_ii, w_onone, w_osome, w_sl, sl_s, sl_t, s_aug, eq_ss, len_s, ix_s, add_ss, str_s, tuple_t, list_t, is_n, not_n, non_n, non_i, non_b, non_s, non_t, non_r, abs_i, max_ii, min_ii, int_i, int_b, gcd_ii, len_t, ix_t, eq_v, ne_v, eq_ii, eq_bb, eq_nn, eq_in, eq_ni, iv_n_list, iv_n_tuple, iv_n_bool, iv_n_str, iv_n_int, okt_n, iv_b_list, iv_b_tuple, iv_b_bool, iv_b_str, iv_b_int, okt_b, iv_i_list, iv_i_tuple, iv_i_bool, iv_i_str, iv_i_int, okt_i, iv_s_list, iv_s_tuple, iv_s_bool, iv_s_str, iv_s_int, okt_s, iv_t_list, iv_t_tuple, iv_t_bool, iv_t_str, iv_t_int, okt_t, iv_r_list, iv_r_tuple, iv_r_bool, iv_r_str, iv_r_int, tru_b, tru_i, tru_n, tru_t, Option.map_some, Option.map_none, List.map_cons, List.map_nil, List.length_cons, List.length_nil, List.set_cons_zero, List.set_cons_succ, List.cons_append, List.nil_append, List.replicate, Nat.reduceAdd, Nat.reduceSub, Nat.reduceLeDiff, true_and, and_true, decide_eq_true_eq, reduceIte, Bool.false_eq_true, Bool.not_true, Bool.not_false, decide_true, decide_false]
      by_cases z : ((c.race : Nat) : Int) = (i : Nat) ∧ ((c.loft : Nat) : Int) = (j : Nat)
      · simp only [z, and_self, decide_true, if_true]
        refine ⟨ha, by rw [List.length_map]; omega, cl ++ [c], by rw [List.map_append, ← z.1, ← z.2]; rfl, fun v hv' => (List.mem_append.mp hv').elim (hcs v) fun e => by rw [List.mem_singleton.mp e]; exact List.mem_of_getElem? hq, fun _ _ _ _ _ _ => by simp, by simp; omega, G2.set (Nat.le_refl _)⟩
      · rw [if_neg (by simpa using z)]
        refine ⟨ha, cl, rfl, hcs, fun a c' h1 h2 h3 h4 => ?_, by omega, G2⟩
        by_cases e : a = q
        · subst e
          rw [hq] at h1
          cases h1
          exact absurd ⟨by rw [h3], by rw [h4]⟩ z
        · exact hne2 a c' h1 (by omega) h3 h4
    · rintro acc m2 ha ⟨cl, rfl, hcs, hne2, hl2, G2⟩
      refine ⟨seq_of_lst (G2.get _ _ hn1), ?_⟩
      rw [List.length_map] at hne2
      obtain ⟨c, f1, f2, f3⟩ := hc.cov i j hi (by omega)
      obtain ⟨a, f4⟩ := List.getElem?_of_mem f1
      have f5 := hne2 a c f4 (List.getElem?_eq_some_iff.mp f4).1 f2 f3
      obtain ⟨y, g1, g2⟩ := last_in (xs := cl.map Clk.pv) (by simpa using f5)
      obtain ⟨c', h1, h2⟩ := List.mem_map.mp g2
      try simp -dsimp only [at0, at1, at2, at3, at4, at5, at6, wp_fn, s_nil, s_brk, s_cnt, s_expr, s_ret, s_retN, s_if, s_asn, s_par, s_asg, g_nm, g_nil, g_cons, g_tupT, g_subW, w_v0, w_vS, w_c, w_op, w_un, w_anil, w_acons, w_tup, w_lst, w_call, w_callU, w_isi, w_meth, w_tru, w_bool, w_notS, w_andS, w_orS, w_ifx, w_andV, w_orV, w_notV, w_chain, wp_ok, wp_bad, wp_some, wp_none, wp_liftif, wp_if, asB_b, wp_noex, add_ii, sub_ii, mul_ii, fdiv_ii, mod_ii, pow_ii, neg_i, cmp_ii, lt_ii, le_ii, gt_ii, ge_ii, le_cc, muls_ii, muls_si, ins_cs, iadd_ii, isub_ii, w_onone, w_osome, w_sl, sl_s, sl_t, s_aug, eq_ss, len_s, ix_s, add_ss, str_s, tuple_t, list_t, is_n, not_n, non_n, non_i, non_b, non_s, non_t, non_r, abs_i, max_ii, min_ii, int_i, int_b, gcd_ii, len_t, ix_t, eq_v, ne_v, eq_ii, eq_bb, eq_nn, eq_in, eq_ni, iv_n_list, iv_n_tuple, iv_n_bool, iv_n_str, iv_n_int, okt_n, iv_b_list, iv_b_tuple, iv_b_bool, iv_b_str, iv_b_int, okt_b, iv_i_list, iv_i_tuple, iv_i_bool, iv_i_str, iv_i_int, okt_i, iv_s_list, iv_s_tuple, iv_s_bool, iv_s_str, iv_s_int, okt_s, iv_t_list, iv_t_tuple, iv_t_bool, iv_t_str, iv_t_int, okt_t, iv_r_list, iv_r_tuple, iv_r_bool, iv_r_str, iv_r_int, tru_b, tru_i, tru_n, tru_t, Option.map_some, Option.map_none, List.map_cons, List.map_nil, List.length_cons, List.length_nil, List.set_cons_zero, List.set_cons_succ, List.cons_append, List.nil_append, List.replicate, Nat.reduceAdd, Nat.reduceSub, Nat.reduceLeDiff, true_and, and_true, decide_eq_true_eq, reduceIte, Bool.false_eq_true, Bool.not_true, Bool.not_false, decide_true, decide_false]
      rw [ix_r (seq_of_lst ha), g1]
      try simp -dsimp only [at0, at1, at2, at3, at4, at5, at6, wp_fn, s_nil, s_brk, s_cnt, s_expr, s_ret, s_retN, s_if, s_asn, s_par, s_asg, g_nm, g_nil, g_cons, g_tupT, g_subW, w_v0, w_vS, w_c, w_op, w_un, w_anil, w_acons, w_tup, w_lst, w_call, w_callU, w_isi, w_meth, w_tru, w_bool, w_notS, w_andS, w_orS, w_ifx, w_andV, w_orV, w_notV, w_chain, wp_ok, wp_bad, wp_some, wp_none, wp_liftif, wp_if, asB_b, wp_noex, add_ii, sub_ii, mul_ii, fdiv_ii, mod_ii, pow_ii, neg_i, cmp_ii, lt_ii, le_ii, gt_ii, ge_ii, le_cc, muls_ii, muls_si, ins_cs, iadd_ii, isub_ii, w_onone, w_osome, w_sl, sl_s, sl_t, s_aug, eq_ss, len_s, ix_s, add_ss, str_s, tuple_t, list_t, is_n, not_n, non_n, non_i, non_b, non_s, non_t, non_r, abs_i, max_ii, min_ii, int_i, int_b, gcd_ii, len_t, ix_t, eq_v, ne_v, eq_ii, eq_bb, eq_nn, eq_in, eq_ni, iv_n_list, iv_n_tuple, iv_n_bool, iv_n_str, iv_n_int, okt_n, iv_b_list, iv_b_tuple, iv_b_bool, iv_b_str, iv_b_int, okt_b, iv_i_list, iv_i_tuple, iv_i_bool, iv_i_str, iv_i_int, okt_i, iv_s_list, iv_s_tuple, iv_s_bool, iv_s_str, iv_s_int, okt_s, iv_t_list, iv_t_tuple, iv_t_bool, iv_t_str, iv_t_int, okt_t, iv_r_list, iv_r_tuple, iv_r_bool, iv_r_str, iv_r_int, tru_b, tru_i, tru_n, tru_t, Option.map_some, Option.map_none, List.map_cons, List.map_nil, List.length_cons, List.length_nil, List.set_cons_zero, List.set_cons_succ, List.cons_append, List.nil_append, List.replicate, Nat.reduceAdd, Nat.reduceSub, Nat.reduceLeDiff, true_and, and_true, decide_eq_true_eq, reduceIte, Bool.false_eq_true, Bool.not_true, Bool.not_false, decide_true, decide_false]
      exact ⟨⟨c', hcs c' h1, h2.symm⟩, G1.trans G2⟩
/-! ## the law's own: slips, and the law -/
theorem slips_ok {m : MH} {ns : List Int} {n : Nat} {cs : List Clk} {L : List Loft} {B : List Bird} {R : List Race} (h : m[0]? = some (.frz (ns.map .int))) (hC : ClubG L B R) (hc : CkG L R cs) (hcl : cs.length ≤ 6) (hn : m[n]? = some (.lst (cs.map Clk.pv))) :
    WP (f_law_slips [.ref 0, clubPV L B R, .ref n] m) (fun x m' => ∃ (ss : List Slp) (k : Nat), x = .ref k ∧ m'[k]? = some (.lst (ss.map Slp.pv)) ∧ (∀ s ∈ ss, SlG B s ∧ s.race < R.length) ∧ ss.length ≤ 9 ∧ m.length ≤ k ∧ Gr m m') NoE := by
  have b1 := hC.b1; have b2 := hC.b2; have r1 := hC.r1; have r2 := hC.r2
  have cell := fun (m' : MH) (G : Gr m m') (k : Int) (hk : 0 ≤ k) => cell_ok (m := m') (k := k) (seq_of_frz (G.get _ _ h)) hk
  unfold f_law_slips b_law_slips
  walk_at "w1"
  rw [s_seq]
  walk_at "w1"
  rw [s_seq]
  refine s_for2W ?_
  walk_at "w1"
  refine (cell _ Gr.one _ (by decide)).mono ?_
  rintro _ _ ⟨rfl, rfl⟩
  generalize ns.getD _ 0 = c3
  walk_at "w1"
  rw [if_pos (by decide), fmod_pos (by decide)]
  walk_at "w1"
  refine ⟨4, _, rfl, rfl, ⟨by decide, by decide, by omega, by omega⟩, fun i l m' => ∃ (ss : List Slp) (x4 x5 x6 x7 x8 : Option PV), l = [some (.ref 0), some (clubPV L B R), some (.ref n), some (.ref m.length), x4, x5, x6, x7, x8] ∧ m'[m.length]? = some (.lst (ss.map Slp.pv)) ∧ (∀ s ∈ ss, SlG B s ∧ s.race < R.length) ∧ ss.length ≤ i ∧ Gr m m', ⟨[], _, _, _, _, _, rfl, get_new, no_mem1, Nat.le_refl _, Gr.one⟩, ?_, ?_⟩
  · rintro i l m1 hi ⟨ss, x4, x5, x6, x7, x8, rfl, P, hs, hl, G⟩
    have cf := fun (m' : MH) (q z : Nat) (bd : Bird) (t : Int) (hn' : m'[n]? = some (.lst (cs.map Clk.pv))) (hq : q < R.length) (hz : B[z]? = some bd) (hr : bd.ring = t) => clockfor_ok (m := m') hC hc (by omega) hn' hq hz hr
    unfold law_slips_l1
    unfold clubPV at *
    walk_at "w1"
    rw [s_seq]
    walk_at "w1"
    refine (cell _ G _ (by omega)).mono ?_
    rintro _ m1 ⟨rfl, rfl⟩
    generalize ns.getD _ 0 = c0
    walk_at "w1"
    refine (padded_ok (by omega) (by omega)).mono ?_
    rintro _ _ ⟨ds, rfl, rfl, hp⟩
    have PD := get_new (m := m1) (o := MO.lst (ds.map PV.int))
    have P1 := get_old (o := MO.lst (ds.map PV.int)) P
    have G1 := G.push (MO.lst (ds.map PV.int))
    have hml : m.length < m1.length := (List.getElem?_eq_some_iff.mp P).1
    generalize m1 ++ [MO.lst (ds.map PV.int)] = m2 at *
    generalize m1.length = dn at *
    obtain ⟨u0, e0, a0, b0⟩ := hp.at (i := 0) (by decide) (by decide)
    obtain ⟨u1, e1, a1, b1'⟩ := hp.at (i := 1) (by decide) (by decide)
    obtain ⟨u2, e2, a2, b2'⟩ := hp.at (i := 2) (by decide) (by decide)
    obtain ⟨u3, e3, a3, b3⟩ := hp.at (i := 3) (by decide) (by decide)
    obtain ⟨u4, e4, a4, b4⟩ := hp.at (i := 4) (by decide) (by decide)
    walk_at "w1"
    rw [s_seq]
    try simp -dsimp only [pix PD e0, at0, at1, at2, at3, at4, at5, at6, wp_fn, s_nil, s_brk, s_cnt, s_expr, s_ret, s_retN, s_if, s_asn, s_par, s_asg, g_nm, g_nil, g_cons, g_tupT, g_subW, w_v0, w_vS, w_c, w_op, w_un, w_anil, w_acons, w_tup, w_lst, w_call, w_callU, w_isi, w_meth, w_tru, w_bool, w_notS, w_andS, w_orS, w_ifx, w_andV, w_orV, w_notV, w_chain, wp_ok, wp_bad, wp_some, wp_none, wp_liftif, wp_if, asB_b, wp_noex, add_ii, sub_ii, mul_ii, fdiv_ii, mod_ii, pow_ii, neg_i, cmp_ii, lt_ii, le_ii, gt_ii, ge_ii, le_cc, muls_ii, muls_si, ins_cs, iadd_ii, isub_ii, w_onone, w_osome, w_sl, sl_s, sl_t, s_aug, eq_ss, len_s, ix_s, add_ss, str_s, tuple_t, list_t, is_n, not_n, non_n, non_i, non_b, non_s, non_t, non_r, abs_i, max_ii, min_ii, int_i, int_b, gcd_ii, len_t, ix_t, eq_v, ne_v, eq_ii, eq_bb, eq_nn, eq_in, eq_ni, iv_n_list, iv_n_tuple, iv_n_bool, iv_n_str, iv_n_int, okt_n, iv_b_list, iv_b_tuple, iv_b_bool, iv_b_str, iv_b_int, okt_b, iv_i_list, iv_i_tuple, iv_i_bool, iv_i_str, iv_i_int, okt_i, iv_s_list, iv_s_tuple, iv_s_bool, iv_s_str, iv_s_int, okt_s, iv_t_list, iv_t_tuple, iv_t_bool, iv_t_str, iv_t_int, okt_t, iv_r_list, iv_r_tuple, iv_r_bool, iv_r_str, iv_r_int, tru_b, tru_i, tru_n, tru_t, Option.map_some, Option.map_none, List.map_cons, List.map_nil, List.length_cons, List.length_nil, List.set_cons_zero, List.set_cons_succ, List.cons_append, List.nil_append, List.replicate, Nat.reduceAdd, Nat.reduceSub, Nat.reduceLeDiff, true_and, and_true, decide_eq_true_eq, reduceIte, Bool.false_eq_true, Bool.not_true, Bool.not_false, decide_true, decide_false]
    rw [List.length_map, if_pos (by omega), fmod_pos (by omega)]
    have q1 := Int.emod_nonneg u0 (show ((R.length : Nat) : Int) ≠ 0 by omega)
    have q2 := Int.emod_lt_of_pos u0 (show (0 : Int) < (R.length : Nat) by omega)
    generalize u0 % ((R.length : Nat) : Int) = q at *
    obtain ⟨q, rfl⟩ := Int.eq_ofNat_of_zero_le q1
    try simp -dsimp only [at0, at1, at2, at3, at4, at5, at6, wp_fn, s_nil, s_brk, s_cnt, s_expr, s_ret, s_retN, s_if, s_asn, s_par, s_asg, g_nm, g_nil, g_cons, g_tupT, g_subW, w_v0, w_vS, w_c, w_op, w_un, w_anil, w_acons, w_tup, w_lst, w_call, w_callU, w_isi, w_meth, w_tru, w_bool, w_notS, w_andS, w_orS, w_ifx, w_andV, w_orV, w_notV, w_chain, wp_ok, wp_bad, wp_some, wp_none, wp_liftif, wp_if, asB_b, wp_noex, add_ii, sub_ii, mul_ii, fdiv_ii, mod_ii, pow_ii, neg_i, cmp_ii, lt_ii, le_ii, gt_ii, ge_ii, le_cc, muls_ii, muls_si, ins_cs, iadd_ii, isub_ii, w_onone, w_osome, w_sl, sl_s, sl_t, s_aug, eq_ss, len_s, ix_s, add_ss, str_s, tuple_t, list_t, is_n, not_n, non_n, non_i, non_b, non_s, non_t, non_r, abs_i, max_ii, min_ii, int_i, int_b, gcd_ii, len_t, ix_t, eq_v, ne_v, eq_ii, eq_bb, eq_nn, eq_in, eq_ni, iv_n_list, iv_n_tuple, iv_n_bool, iv_n_str, iv_n_int, okt_n, iv_b_list, iv_b_tuple, iv_b_bool, iv_b_str, iv_b_int, okt_b, iv_i_list, iv_i_tuple, iv_i_bool, iv_i_str, iv_i_int, okt_i, iv_s_list, iv_s_tuple, iv_s_bool, iv_s_str, iv_s_int, okt_s, iv_t_list, iv_t_tuple, iv_t_bool, iv_t_str, iv_t_int, okt_t, iv_r_list, iv_r_tuple, iv_r_bool, iv_r_str, iv_r_int, tru_b, tru_i, tru_n, tru_t, Option.map_some, Option.map_none, List.map_cons, List.map_nil, List.length_cons, List.length_nil, List.set_cons_zero, List.set_cons_succ, List.cons_append, List.nil_append, List.replicate, Nat.reduceAdd, Nat.reduceSub, Nat.reduceLeDiff, true_and, and_true, decide_eq_true_eq, reduceIte, Bool.false_eq_true, Bool.not_true, Bool.not_false, decide_true, decide_false]
    rw [s_seq]
    try simp -dsimp only [pix PD e1, at0, at1, at2, at3, at4, at5, at6, wp_fn, s_nil, s_brk, s_cnt, s_expr, s_ret, s_retN, s_if, s_asn, s_par, s_asg, g_nm, g_nil, g_cons, g_tupT, g_subW, w_v0, w_vS, w_c, w_op, w_un, w_anil, w_acons, w_tup, w_lst, w_call, w_callU, w_isi, w_meth, w_tru, w_bool, w_notS, w_andS, w_orS, w_ifx, w_andV, w_orV, w_notV, w_chain, wp_ok, wp_bad, wp_some, wp_none, wp_liftif, wp_if, asB_b, wp_noex, add_ii, sub_ii, mul_ii, fdiv_ii, mod_ii, pow_ii, neg_i, cmp_ii, lt_ii, le_ii, gt_ii, ge_ii, le_cc, muls_ii, muls_si, ins_cs, iadd_ii, isub_ii, w_onone, w_osome, w_sl, sl_s, sl_t, s_aug, eq_ss, len_s, ix_s, add_ss, str_s, tuple_t, list_t, is_n, not_n, non_n, non_i, non_b, non_s, non_t, non_r, abs_i, max_ii, min_ii, int_i, int_b, gcd_ii, len_t, ix_t, eq_v, ne_v, eq_ii, eq_bb, eq_nn, eq_in, eq_ni, iv_n_list, iv_n_tuple, iv_n_bool, iv_n_str, iv_n_int, okt_n, iv_b_list, iv_b_tuple, iv_b_bool, iv_b_str, iv_b_int, okt_b, iv_i_list, iv_i_tuple, iv_i_bool, iv_i_str, iv_i_int, okt_i, iv_s_list, iv_s_tuple, iv_s_bool, iv_s_str, iv_s_int, okt_s, iv_t_list, iv_t_tuple, iv_t_bool, iv_t_str, iv_t_int, okt_t, iv_r_list, iv_r_tuple, iv_r_bool, iv_r_str, iv_r_int, tru_b, tru_i, tru_n, tru_t, Option.map_some, Option.map_none, List.map_cons, List.map_nil, List.length_cons, List.length_nil, List.set_cons_zero, List.set_cons_succ, List.cons_append, List.nil_append, List.replicate, Nat.reduceAdd, Nat.reduceSub, Nat.reduceLeDiff, true_and, and_true, decide_eq_true_eq, reduceIte, Bool.false_eq_true, Bool.not_true, Bool.not_false, decide_true, decide_false]
    rw [List.length_map, if_pos (by omega), fmod_pos (by omega)]
    have z1 := Int.emod_nonneg u1 (show ((B.length : Nat) : Int) ≠ 0 by omega)
    have z2 := Int.emod_lt_of_pos u1 (show (0 : Int) < (B.length : Nat) by omega)
    generalize u1 % ((B.length : Nat) : Int) = z at *
    obtain ⟨z, rfl⟩ := Int.eq_ofNat_of_zero_le z1
    have ez : B[z]? = some (B[z]'(by omega)) := List.getElem?_eq_getElem (by omega)
    generalize B[z]'(by omega) = bd at *
    try simp -dsimp only [at_map ez, Bird.pv, at0, at1, at2, at3, at4, at5, at6, wp_fn, s_nil, s_brk, s_cnt, s_expr, s_ret, s_retN, s_if, s_asn, s_par, s_asg, g_nm, g_nil, g_cons, g_tupT, g_subW, w_v0, w_vS, w_c, w_op, w_un, w_anil, w_acons, w_tup, w_lst, w_call, w_callU, w_isi, w_meth, w_tru, w_bool, w_notS, w_andS, w_orS, w_ifx, w_andV, w_orV, w_notV, w_chain, wp_ok, wp_bad, wp_some, wp_none, wp_liftif, wp_if, asB_b, wp_noex, add_ii, sub_ii, mul_ii, fdiv_ii, mod_ii, pow_ii, neg_i, cmp_ii, lt_ii, le_ii, gt_ii, ge_ii, le_cc, muls_ii, muls_si, ins_cs, iadd_ii, isub_ii, w_onone, w_osome, w_sl, sl_s, sl_t, s_aug, eq_ss, len_s, ix_s, add_ss, str_s, tuple_t, list_t, is_n, not_n, non_n, non_i, non_b, non_s, non_t, non_r, abs_i, max_ii, min_ii, int_i, int_b, gcd_ii, len_t, ix_t, eq_v, ne_v, eq_ii, eq_bb, eq_nn, eq_in, eq_ni, iv_n_list, iv_n_tuple, iv_n_bool, iv_n_str, iv_n_int, okt_n, iv_b_list, iv_b_tuple, iv_b_bool, iv_b_str, iv_b_int, okt_b, iv_i_list, iv_i_tuple, iv_i_bool, iv_i_str, iv_i_int, okt_i, iv_s_list, iv_s_tuple, iv_s_bool, iv_s_str, iv_s_int, okt_s, iv_t_list, iv_t_tuple, iv_t_bool, iv_t_str, iv_t_int, okt_t, iv_r_list, iv_r_tuple, iv_r_bool, iv_r_str, iv_r_int, tru_b, tru_i, tru_n, tru_t, Option.map_some, Option.map_none, List.map_cons, List.map_nil, List.length_cons, List.length_nil, List.set_cons_zero, List.set_cons_succ, List.cons_append, List.nil_append, List.replicate, Nat.reduceAdd, Nat.reduceSub, Nat.reduceLeDiff, true_and, and_true, decide_eq_true_eq, reduceIte, Bool.false_eq_true, Bool.not_true, Bool.not_false, decide_true, decide_false]
    rw [s_seq]
    try simp -dsimp only [at0, at1, at2, at3, at4, at5, at6, wp_fn, s_nil, s_brk, s_cnt, s_expr, s_ret, s_retN, s_if, s_asn, s_par, s_asg, g_nm, g_nil, g_cons, g_tupT, g_subW, w_v0, w_vS, w_c, w_op, w_un, w_anil, w_acons, w_tup, w_lst, w_call, w_callU, w_isi, w_meth, w_tru, w_bool, w_notS, w_andS, w_orS, w_ifx, w_andV, w_orV, w_notV, w_chain, wp_ok, wp_bad, wp_some, wp_none, wp_liftif, wp_if, asB_b, wp_noex, add_ii, sub_ii, mul_ii, fdiv_ii, mod_ii, pow_ii, neg_i, cmp_ii, lt_ii, le_ii, gt_ii, ge_ii, le_cc, muls_ii, muls_si, ins_cs, iadd_ii, isub_ii, w_onone, w_osome, w_sl, sl_s, sl_t, s_aug, eq_ss, len_s, ix_s, add_ss, str_s, tuple_t, list_t, is_n, not_n, non_n, non_i, non_b, non_s, non_t, non_r, abs_i, max_ii, min_ii, int_i, int_b, gcd_ii, len_t, ix_t, eq_v, ne_v, eq_ii, eq_bb, eq_nn, eq_in, eq_ni, iv_n_list, iv_n_tuple, iv_n_bool, iv_n_str, iv_n_int, okt_n, iv_b_list, iv_b_tuple, iv_b_bool, iv_b_str, iv_b_int, okt_b, iv_i_list, iv_i_tuple, iv_i_bool, iv_i_str, iv_i_int, okt_i, iv_s_list, iv_s_tuple, iv_s_bool, iv_s_str, iv_s_int, okt_s, iv_t_list, iv_t_tuple, iv_t_bool, iv_t_str, iv_t_int, okt_t, iv_r_list, iv_r_tuple, iv_r_bool, iv_r_str, iv_r_int, tru_b, tru_i, tru_n, tru_t, Option.map_some, Option.map_none, List.map_cons, List.map_nil, List.length_cons, List.length_nil, List.set_cons_zero, List.set_cons_succ, List.cons_append, List.nil_append, List.replicate, Nat.reduceAdd, Nat.reduceSub, Nat.reduceLeDiff, true_and, and_true, decide_eq_true_eq, reduceIte, Bool.false_eq_true, Bool.not_true, Bool.not_false, decide_true, decide_false]
    refine s_cut (mid := fun l m' => ∃ rd, l = [some (.ref 0), some (.tup [.tup (L.map Loft.pv), .tup (B.map Bird.pv), .tup (R.map Race.pv)]), some (.ref n), some (.ref m.length), some (.int (4 + (i : Nat))), some (.ref dn), some (.int (q : Nat)), some (.int bd.ring), some rd] ∧ (rd = .non ∨ ∃ r, rd = .int r) ∧ m'[m.length]? = some (.lst (ss.map Slp.pv)) ∧ Gr m m') ?_ ?_
    · try simp -dsimp only [pix PD e2, at0, at1, at2, at3, at4, at5, at6, wp_fn, s_nil, s_brk, s_cnt, s_expr, s_ret, s_retN, s_if, s_asn, s_par, s_asg, g_nm, g_nil, g_cons, g_tupT, g_subW, w_v0, w_vS, w_c, w_op, w_un, w_anil, w_acons, w_tup, w_lst, w_call, w_callU, w_isi, w_meth, w_tru, w_bool, w_notS, w_andS, w_orS, w_ifx, w_andV, w_orV, w_notV, w_chain, wp_ok, wp_bad, wp_some, wp_none, wp_liftif, wp_if, asB_b, wp_noex, add_ii, sub_ii, mul_ii, fdiv_ii, mod_ii, pow_ii, neg_i, cmp_ii, lt_ii, le_ii, gt_ii, ge_ii, le_cc, muls_ii, muls_si, ins_cs, iadd_ii, isub_ii, w_onone, w_osome, w_sl, sl_s, sl_t, s_aug, eq_ss, len_s, ix_s, add_ss, str_s, tuple_t, list_t, is_n, not_n, non_n, non_i, non_b, non_s, non_t, non_r, abs_i, max_ii, min_ii, int_i, int_b, gcd_ii, len_t, ix_t, eq_v, ne_v, eq_ii, eq_bb, eq_nn, eq_in, eq_ni, iv_n_list, iv_n_tuple, iv_n_bool, iv_n_str, iv_n_int, okt_n, iv_b_list, iv_b_tuple, iv_b_bool, iv_b_str, iv_b_int, okt_b, iv_i_list, iv_i_tuple, iv_i_bool, iv_i_str, iv_i_int, okt_i, iv_s_list, iv_s_tuple, iv_s_bool, iv_s_str, iv_s_int, okt_s, iv_t_list, iv_t_tuple, iv_t_bool, iv_t_str, iv_t_int, okt_t, iv_r_list, iv_r_tuple, iv_r_bool, iv_r_str, iv_r_int, tru_b, tru_i, tru_n, tru_t, Option.map_some, Option.map_none, List.map_cons, List.map_nil, List.length_cons, List.length_nil, List.set_cons_zero, List.set_cons_succ, List.cons_append, List.nil_append, List.replicate, Nat.reduceAdd, Nat.reduceSub, Nat.reduceLeDiff, true_and, and_true, decide_eq_true_eq, reduceIte, Bool.false_eq_true, Bool.not_true, Bool.not_false, decide_true, decide_false]
      rw [if_pos (by decide), fmod_pos (by decide)]
      try simp -dsimp only [at0, at1, at2, at3, at4, at5, at6, wp_fn, s_nil, s_brk, s_cnt, s_expr, s_ret, s_retN, s_if, s_asn, s_par, s_asg, g_nm, g_nil, g_cons, g_tupT, g_subW, w_v0, w_vS, w_c, w_op, w_un, w_anil, w_acons, w_tup, w_lst, w_call, w_callU, w_isi, w_meth, w_tru, w_bool, w_notS, w_andS, w_orS, w_ifx, w_andV, w_orV, w_notV, w_chain, wp_ok, wp_bad, wp_some, wp_none, wp_liftif, wp_if, asB_b, wp_noex, add_ii, sub_ii, mul_ii, fdiv_ii, mod_ii, pow_ii, neg_i, cmp_ii, lt_ii, le_ii, gt_ii, ge_ii, le_cc, muls_ii, muls_si, ins_cs, iadd_ii, isub_ii, w_onone, w_osome, w_sl, sl_s, sl_t, s_aug, eq_ss, len_s, ix_s, add_ss, str_s, tuple_t, list_t, is_n, not_n, non_n, non_i, non_b, non_s, non_t, non_r, abs_i, max_ii, min_ii, int_i, int_b, gcd_ii, len_t, ix_t, eq_v, ne_v, eq_ii, eq_bb, eq_nn, eq_in, eq_ni, iv_n_list, iv_n_tuple, iv_n_bool, iv_n_str, iv_n_int, okt_n, iv_b_list, iv_b_tuple, iv_b_bool, iv_b_str, iv_b_int, okt_b, iv_i_list, iv_i_tuple, iv_i_bool, iv_i_str, iv_i_int, okt_i, iv_s_list, iv_s_tuple, iv_s_bool, iv_s_str, iv_s_int, okt_s, iv_t_list, iv_t_tuple, iv_t_bool, iv_t_str, iv_t_int, okt_t, iv_r_list, iv_r_tuple, iv_r_bool, iv_r_str, iv_r_int, tru_b, tru_i, tru_n, tru_t, Option.map_some, Option.map_none, List.map_cons, List.map_nil, List.length_cons, List.length_nil, List.set_cons_zero, List.set_cons_succ, List.cons_append, List.nil_append, List.replicate, Nat.reduceAdd, Nat.reduceSub, Nat.reduceLeDiff, true_and, and_true, decide_eq_true_eq, reduceIte, Bool.false_eq_true, Bool.not_true, Bool.not_false, decide_true, decide_false]
      by_cases c : 0 < u2 % 6
      · rw [if_pos c]
        try simp -dsimp only [at0, at1, at2, at3, at4, at5, at6, wp_fn, s_nil, s_brk, s_cnt, s_expr, s_ret, s_retN, s_if, s_asn, s_par, s_asg, g_nm, g_nil, g_cons, g_tupT, g_subW, w_v0, w_vS, w_c, w_op, w_un, w_anil, w_acons, w_tup, w_lst, w_call, w_callU, w_isi, w_meth, w_tru, w_bool, w_notS, w_andS, w_orS, w_ifx, w_andV, w_orV, w_notV, w_chain, wp_ok, wp_bad, wp_some, wp_none, wp_liftif, wp_if, asB_b, wp_noex, add_ii, sub_ii, mul_ii, fdiv_ii, mod_ii, pow_ii, neg_i, cmp_ii, lt_ii, le_ii, gt_ii, ge_ii, le_cc, muls_ii, muls_si, ins_cs, iadd_ii, isub_ii, w_onone, w_osome, w_sl, sl_s, sl_t, s_aug, eq_ss, len_s, ix_s, add_ss, str_s, tuple_t, list_t, is_n, not_n, non_n, non_i, non_b, non_s, non_t, non_r, abs_i, max_ii, min_ii, int_i, int_b, gcd_ii, len_t, ix_t, eq_v, ne_v, eq_ii, eq_bb, eq_nn, eq_in, eq_ni, iv_n_list, iv_n_tuple, iv_n_bool, iv_n_str, iv_n_int, okt_n, iv_b_list, iv_b_tuple, iv_b_bool, iv_b_str, iv_b_int, okt_b, iv_i_list, iv_i_tuple, iv_i_bool, iv_i_str, iv_i_int, okt_i, iv_s_list, iv_s_tuple, iv_s_bool, iv_s_str, iv_s_int, okt_s, iv_t_list, iv_t_tuple, iv_t_bool, iv_t_str, iv_t_int, okt_t, iv_r_list, iv_r_tuple, iv_r_bool, iv_r_str, iv_r_int, tru_b, tru_i, tru_n, tru_t, Option.map_some, Option.map_none, List.map_cons, List.map_nil, List.length_cons, List.length_nil, List.set_cons_zero, List.set_cons_succ, List.cons_append, List.nil_append, List.replicate, Nat.reduceAdd, Nat.reduceSub, Nat.reduceLeDiff, true_and, and_true, decide_eq_true_eq, reduceIte, Bool.false_eq_true, Bool.not_true, Bool.not_false, decide_true, decide_false]
        refine (cf _ q z bd _ (G1.get _ _ hn) (by omega) ez rfl).mono ?_
        rintro _ m3 ⟨⟨c', hc', rfl⟩, G2⟩
        have ck := hc.ok c' hc'
        have PD3 := G2.get _ _ PD
        try simp -dsimp only [pix PD3 e3, at0, at1, at2, at3, at4, at5, at6, wp_fn, s_nil, s_brk, s_cnt, s_expr, s_ret, s_retN, s_if, s_asn, s_par, s_asg, g_nm, g_nil, g_cons, g_tupT, g_subW, w_v0, w_vS, w_c, w_op, w_un, w_anil, w_acons, w_tup, w_lst, w_call, w_callU, w_isi, w_meth, w_tru, w_bool, w_notS, w_andS, w_orS, w_ifx, w_andV, w_orV, w_notV, w_chain, wp_ok, wp_bad, wp_some, wp_none, wp_liftif, wp_if, asB_b, wp_noex, add_ii, sub_ii, mul_ii, fdiv_ii, mod_ii, pow_ii, neg_i, cmp_ii, lt_ii, le_ii, gt_ii, ge_ii, le_cc, muls_ii, muls_si, ins_cs, iadd_ii, isub_ii, w_onone, w_osome, w_sl, sl_s, sl_t, s_aug, eq_ss, len_s, ix_s, add_ss, str_s, tuple_t, list_t, is_n, not_n, non_n, non_i, non_b, non_s, non_t, non_r, abs_i, max_ii, min_ii, int_i, int_b, gcd_ii, len_t, ix_t, eq_v, ne_v, eq_ii, eq_bb, eq_nn, eq_in, eq_ni, iv_n_list, iv_n_tuple, iv_n_bool, iv_n_str, iv_n_int, okt_n, iv_b_list, iv_b_tuple, iv_b_bool, iv_b_str, iv_b_int, okt_b, iv_i_list, iv_i_tuple, iv_i_bool, iv_i_str, iv_i_int, okt_i, iv_s_list, iv_s_tuple, iv_s_bool, iv_s_str, iv_s_int, okt_s, iv_t_list, iv_t_tuple, iv_t_bool, iv_t_str, iv_t_int, okt_t, iv_r_list, iv_r_tuple, iv_r_bool, iv_r_str, iv_r_int, tru_b, tru_i, tru_n, tru_t, Option.map_some, Option.map_none, List.map_cons, List.map_nil, List.length_cons, List.length_nil, List.set_cons_zero, List.set_cons_succ, List.cons_append, List.nil_append, List.replicate, Nat.reduceAdd, Nat.reduceSub, Nat.reduceLeDiff, true_and, and_true, decide_eq_true_eq, reduceIte, Bool.false_eq_true, Bool.not_true, Bool.not_false, decide_true, decide_false]
        have q5 := get_new (m := m3) (o := MO.lst [.int 4, .int 1000])
        have PD4 := get_old (o := MO.lst [.int 4, .int 1000]) PD3
        have G4 := G2.trans (Gr.one (o := MO.lst [.int 4, .int 1000]))
        generalize m3 ++ [MO.lst [.int 4, .int 1000]] = m4 at *
        generalize m3.length = k4 at *
        try simp -dsimp only [pix PD4 e4, at0, at1, at2, at3, at4, at5, at6, wp_fn, s_nil, s_brk, s_cnt, s_expr, s_ret, s_retN, s_if, s_asn, s_par, s_asg, g_nm, g_nil, g_cons, g_tupT, g_subW, w_v0, w_vS, w_c, w_op, w_un, w_anil, w_acons, w_tup, w_lst, w_call, w_callU, w_isi, w_meth, w_tru, w_bool, w_notS, w_andS, w_orS, w_ifx, w_andV, w_orV, w_notV, w_chain, wp_ok, wp_bad, wp_some, wp_none, wp_liftif, wp_if, asB_b, wp_noex, add_ii, sub_ii, mul_ii, fdiv_ii, mod_ii, pow_ii, neg_i, cmp_ii, lt_ii, le_ii, gt_ii, ge_ii, le_cc, muls_ii, muls_si, ins_cs, iadd_ii, isub_ii, w_onone, w_osome, w_sl, sl_s, sl_t, s_aug, eq_ss, len_s, ix_s, add_ss, str_s, tuple_t, list_t, is_n, not_n, non_n, non_i, non_b, non_s, non_t, non_r, abs_i, max_ii, min_ii, int_i, int_b, gcd_ii, len_t, ix_t, eq_v, ne_v, eq_ii, eq_bb, eq_nn, eq_in, eq_ni, iv_n_list, iv_n_tuple, iv_n_bool, iv_n_str, iv_n_int, okt_n, iv_b_list, iv_b_tuple, iv_b_bool, iv_b_str, iv_b_int, okt_b, iv_i_list, iv_i_tuple, iv_i_bool, iv_i_str, iv_i_int, okt_i, iv_s_list, iv_s_tuple, iv_s_bool, iv_s_str, iv_s_int, okt_s, iv_t_list, iv_t_tuple, iv_t_bool, iv_t_str, iv_t_int, okt_t, iv_r_list, iv_r_tuple, iv_r_bool, iv_r_str, iv_r_int, tru_b, tru_i, tru_n, tru_t, Option.map_some, Option.map_none, List.map_cons, List.map_nil, List.length_cons, List.length_nil, List.set_cons_zero, List.set_cons_succ, List.cons_append, List.nil_append, List.replicate, Nat.reduceAdd, Nat.reduceSub, Nat.reduceLeDiff, true_and, and_true, decide_eq_true_eq, reduceIte, Bool.false_eq_true, Bool.not_true, Bool.not_false, decide_true, decide_false]
        rw [if_pos (by decide), fmod_pos (by decide)]
        try simp -dsimp only [at0, at1, at2, at3, at4, at5, at6, wp_fn, s_nil, s_brk, s_cnt, s_expr, s_ret, s_retN, s_if, s_asn, s_par, s_asg, g_nm, g_nil, g_cons, g_tupT, g_subW, w_v0, w_vS, w_c, w_op, w_un, w_anil, w_acons, w_tup, w_lst, w_call, w_callU, w_isi, w_meth, w_tru, w_bool, w_notS, w_andS, w_orS, w_ifx, w_andV, w_orV, w_notV, w_chain, wp_ok, wp_bad, wp_some, wp_none, wp_liftif, wp_if, asB_b, wp_noex, add_ii, sub_ii, mul_ii, fdiv_ii, mod_ii, pow_ii, neg_i, cmp_ii, lt_ii, le_ii, gt_ii, ge_ii, le_cc, muls_ii, muls_si, ins_cs, iadd_ii, isub_ii, w_onone, w_osome, w_sl, sl_s, sl_t, s_aug, eq_ss, len_s, ix_s, add_ss, str_s, tuple_t, list_t, is_n, not_n, non_n, non_i, non_b, non_s, non_t, non_r, abs_i, max_ii, min_ii, int_i, int_b, gcd_ii, len_t, ix_t, eq_v, ne_v, eq_ii, eq_bb, eq_nn, eq_in, eq_ni, iv_n_list, iv_n_tuple, iv_n_bool, iv_n_str, iv_n_int, okt_n, iv_b_list, iv_b_tuple, iv_b_bool, iv_b_str, iv_b_int, okt_b, iv_i_list, iv_i_tuple, iv_i_bool, iv_i_str, iv_i_int, okt_i, iv_s_list, iv_s_tuple, iv_s_bool, iv_s_str, iv_s_int, okt_s, iv_t_list, iv_t_tuple, iv_t_bool, iv_t_str, iv_t_int, okt_t, iv_r_list, iv_r_tuple, iv_r_bool, iv_r_str, iv_r_int, tru_b, tru_i, tru_n, tru_t, Option.map_some, Option.map_none, List.map_cons, List.map_nil, List.length_cons, List.length_nil, List.set_cons_zero, List.set_cons_succ, List.cons_append, List.nil_append, List.replicate, Nat.reduceAdd, Nat.reduceSub, Nat.reduceLeDiff, true_and, and_true, decide_eq_true_eq, reduceIte, Bool.false_eq_true, Bool.not_true, Bool.not_false, decide_true, decide_false]
        obtain ⟨w, ew, hw⟩ : ∃ w, ixv (.ref k4) (.int (u4 % 2)) m4 = some (.int w, m4) ∧ (w = 4 ∨ w = 1000) := by
          rcases (by omega : u4 % 2 = 0 ∨ u4 % 2 = 1) with y | y
          · exact ⟨4, by rw [y, ix_r (seq_of_lst q5), at0]; rfl, .inl rfl⟩
          · exact ⟨1000, by rw [y, ix_r (seq_of_lst q5), at1]; rfl, .inr rfl⟩
        try simp -dsimp only [ew, at0, at1, at2, at3, at4, at5, at6, wp_fn, s_nil, s_brk, s_cnt, s_expr, s_ret, s_retN, s_if, s_asn, s_par, s_asg, g_nm, g_nil, g_cons, g_tupT, g_subW, w_v0, w_vS, w_c, w_op, w_un, w_anil, w_acons, w_tup, w_lst, w_call, w_callU, w_isi, w_meth, w_tru, w_bool, w_notS, w_andS, w_orS, w_ifx, w_andV, w_orV, w_notV, w_chain, wp_ok, wp_bad, wp_some, wp_none, wp_liftif, wp_if, asB_b, wp_noex, add_ii, sub_ii, mul_ii, fdiv_ii, mod_ii, pow_ii, neg_i, cmp_ii, lt_ii, le_ii, gt_ii, ge_ii, le_cc, muls_ii, muls_si, ins_cs, iadd_ii, isub_ii, w_onone, w_osome, w_sl, sl_s, sl_t, s_aug, eq_ss, len_s, ix_s, add_ss, str_s, tuple_t, list_t, is_n, not_n, non_n, non_i, non_b, non_s, non_t, non_r, abs_i, max_ii, min_ii, int_i, int_b, gcd_ii, len_t, ix_t, eq_v, ne_v, eq_ii, eq_bb, eq_nn, eq_in, eq_ni, iv_n_list, iv_n_tuple, iv_n_bool, iv_n_str, iv_n_int, okt_n, iv_b_list, iv_b_tuple, iv_b_bool, iv_b_str, iv_b_int, okt_b, iv_i_list, iv_i_tuple, iv_i_bool, iv_i_str, iv_i_int, okt_i, iv_s_list, iv_s_tuple, iv_s_bool, iv_s_str, iv_s_int, okt_s, iv_t_list, iv_t_tuple, iv_t_bool, iv_t_str, iv_t_int, okt_t, iv_r_list, iv_r_tuple, iv_r_bool, iv_r_str, iv_r_int, tru_b, tru_i, tru_n, tru_t, Option.map_some, Option.map_none, List.map_cons, List.map_nil, List.length_cons, List.length_nil, List.set_cons_zero, List.set_cons_succ, List.cons_append, List.nil_append, List.replicate, Nat.reduceAdd, Nat.reduceSub, Nat.reduceLeDiff, true_and, and_true, decide_eq_true_eq, reduceIte, Bool.false_eq_true, Bool.not_true, Bool.not_false, decide_true, decide_false]
        rw [if_pos (by omega), fmod_pos (by omega)]
        try simp -dsimp only [at0, at1, at2, at3, at4, at5, at6, wp_fn, s_nil, s_brk, s_cnt, s_expr, s_ret, s_retN, s_if, s_asn, s_par, s_asg, g_nm, g_nil, g_cons, g_tupT, g_subW, w_v0, w_vS, w_c, w_op, w_un, w_anil, w_acons, w_tup, w_lst, w_call, w_callU, w_isi, w_meth, w_tru, w_bool, w_notS, w_andS, w_orS, w_ifx, w_andV, w_orV, w_notV, w_chain, wp_ok, wp_bad, wp_some, wp_none, wp_liftif, wp_if, asB_b, wp_noex, add_ii, sub_ii, mul_ii, fdiv_ii, mod_ii, pow_ii, neg_i, cmp_ii, lt_ii, le_ii, gt_ii, ge_ii, le_cc, muls_ii, muls_si, ins_cs, iadd_ii, isub_ii, w_onone, w_osome, w_sl, sl_s, sl_t, s_aug, eq_ss, len_s, ix_s, add_ss, str_s, tuple_t, list_t, is_n, not_n, non_n, non_i, non_b, non_s, non_t, non_r, abs_i, max_ii, min_ii, int_i, int_b, gcd_ii, len_t, ix_t, eq_v, ne_v, eq_ii, eq_bb, eq_nn, eq_in, eq_ni, iv_n_list, iv_n_tuple, iv_n_bool, iv_n_str, iv_n_int, okt_n, iv_b_list, iv_b_tuple, iv_b_bool, iv_b_str, iv_b_int, okt_b, iv_i_list, iv_i_tuple, iv_i_bool, iv_i_str, iv_i_int, okt_i, iv_s_list, iv_s_tuple, iv_s_bool, iv_s_str, iv_s_int, okt_s, iv_t_list, iv_t_tuple, iv_t_bool, iv_t_str, iv_t_int, okt_t, iv_r_list, iv_r_tuple, iv_r_bool, iv_r_str, iv_r_int, tru_b, tru_i, tru_n, tru_t, Option.map_some, Option.map_none, List.map_cons, List.map_nil, List.length_cons, List.length_nil, List.set_cons_zero, List.set_cons_succ, List.cons_append, List.nil_append, List.replicate, Nat.reduceAdd, Nat.reduceSub, Nat.reduceLeDiff, true_and, and_true, decide_eq_true_eq, reduceIte, Bool.false_eq_true, Bool.not_true, Bool.not_false, decide_true, decide_false]
        have w1 := Int.emod_nonneg u3 (show w ≠ 0 by omega)
        have w2 := Int.emod_lt_of_pos u3 (show 0 < w by omega)
        refine (reading_ok ck.s0 ⟨w1, by omega⟩).mono ?_
        rintro _ m4 ⟨⟨r, rfl⟩, rfl⟩
        try simp -dsimp only [at0, at1, at2, at3, at4, at5, at6, wp_fn, s_nil, s_brk, s_cnt, s_expr, s_ret, s_retN, s_if, s_asn, s_par, s_asg, g_nm, g_nil, g_cons, g_tupT, g_subW, w_v0, w_vS, w_c, w_op, w_un, w_anil, w_acons, w_tup, w_lst, w_call, w_callU, w_isi, w_meth, w_tru, w_bool, w_notS, w_andS, w_orS, w_ifx, w_andV, w_orV, w_notV, w_chain, wp_ok, wp_bad, wp_some, wp_none, wp_liftif, wp_if, asB_b, wp_noex, add_ii, sub_ii, mul_ii, fdiv_ii, mod_ii, pow_ii, neg_i, cmp_ii, lt_ii, le_ii, gt_ii, ge_ii, le_cc, muls_ii, muls_si, ins_cs, iadd_ii, isub_ii, w_onone, w_osome, w_sl, sl_s, sl_t, s_aug, eq_ss, len_s, ix_s, add_ss, str_s, tuple_t, list_t, is_n, not_n, non_n, non_i, non_b, non_s, non_t, non_r, abs_i, max_ii, min_ii, int_i, int_b, gcd_ii, len_t, ix_t, eq_v, ne_v, eq_ii, eq_bb, eq_nn, eq_in, eq_ni, iv_n_list, iv_n_tuple, iv_n_bool, iv_n_str, iv_n_int, okt_n, iv_b_list, iv_b_tuple, iv_b_bool, iv_b_str, iv_b_int, okt_b, iv_i_list, iv_i_tuple, iv_i_bool, iv_i_str, iv_i_int, okt_i, iv_s_list, iv_s_tuple, iv_s_bool, iv_s_str, iv_s_int, okt_s, iv_t_list, iv_t_tuple, iv_t_bool, iv_t_str, iv_t_int, okt_t, iv_r_list, iv_r_tuple, iv_r_bool, iv_r_str, iv_r_int, tru_b, tru_i, tru_n, tru_t, Option.map_some, Option.map_none, List.map_cons, List.map_nil, List.length_cons, List.length_nil, List.set_cons_zero, List.set_cons_succ, List.cons_append, List.nil_append, List.replicate, Nat.reduceAdd, Nat.reduceSub, Nat.reduceLeDiff, true_and, and_true, decide_eq_true_eq, reduceIte, Bool.false_eq_true, Bool.not_true, Bool.not_false, decide_true, decide_false]
        exact ⟨_, rfl, .inr ⟨r, rfl⟩, G4.get _ _ P1, G1.trans G4⟩
      · rw [if_neg c]
        exact ⟨_, rfl, .inl rfl, P1, G1⟩
    rintro _ m5 ⟨rd, rfl, hrd, P5, G5⟩
    try simp -dsimp only [at0, at1, at2, at3, at4, at5, at6, wp_fn, s_nil, s_brk, s_cnt, s_expr, s_ret, s_retN, s_if, s_asn, s_par, s_asg, g_nm, g_nil, g_cons, g_tupT, g_subW, w_v0, w_vS, w_c, w_op, w_un, w_anil, w_acons, w_tup, w_lst, w_call, w_callU, w_isi, w_meth, w_tru, w_bool, w_notS, w_andS, w_orS, w_ifx, w_andV, w_orV, w_notV, w_chain, wp_ok, wp_bad, wp_some, wp_none, wp_liftif, wp_if, asB_b, wp_noex, add_ii, sub_ii, mul_ii, fdiv_ii, mod_ii, pow_ii, neg_i, cmp_ii, lt_ii, le_ii, gt_ii, ge_ii, le_cc, muls_ii, muls_si, ins_cs, iadd_ii, isub_ii, w_onone, w_osome, w_sl, sl_s, sl_t, s_aug, eq_ss, len_s, ix_s, add_ss, str_s, tuple_t, list_t, is_n, not_n, non_n, non_i, non_b, non_s, non_t, non_r, abs_i, max_ii, min_ii, int_i, int_b, gcd_ii, len_t, ix_t, eq_v, ne_v, eq_ii, eq_bb, eq_nn, eq_in, eq_ni, iv_n_list, iv_n_tuple, iv_n_bool, iv_n_str, iv_n_int, okt_n, iv_b_list, iv_b_tuple, iv_b_bool, iv_b_str, iv_b_int, okt_b, iv_i_list, iv_i_tuple, iv_i_bool, iv_i_str, iv_i_int, okt_i, iv_s_list, iv_s_tuple, iv_s_bool, iv_s_str, iv_s_int, okt_s, iv_t_list, iv_t_tuple, iv_t_bool, iv_t_str, iv_t_int, okt_t, iv_r_list, iv_r_tuple, iv_r_bool, iv_r_str, iv_r_int, tru_b, tru_i, tru_n, tru_t, Option.map_some, Option.map_none, List.map_cons, List.map_nil, List.length_cons, List.length_nil, List.set_cons_zero, List.set_cons_succ, List.cons_append, List.nil_append, List.replicate, Nat.reduceAdd, Nat.reduceSub, Nat.reduceLeDiff, true_and, and_true, decide_eq_true_eq, reduceIte, Bool.false_eq_true, Bool.not_true, Bool.not_false, decide_true, decide_false]
    refine ⟨isLst_r P5, ?_⟩
    rw [append_r P5 (by rw [List.length_map]; omega)]
    try simp -dsimp only [at0, at1, at2, at3, at4, at5, at6, wp_fn, s_nil, s_brk, s_cnt, s_expr, s_ret, s_retN, s_if, s_asn, s_par, s_asg, g_nm, g_nil, g_cons, g_tupT, g_subW, w_v0, w_vS, w_c, w_op, w_un, w_anil, w_acons, w_tup, w_lst, w_call, w_callU, w_isi, w_meth, w_tru, w_bool, w_notS, w_andS, w_orS, w_ifx, w_andV, w_orV, w_notV, w_chain, wp_ok, wp_bad, wp_some, wp_none, wp_liftif, wp_if, asB_b, wp_noex, add_ii, sub_ii, mul_ii, fdiv_ii, mod_ii, pow_ii, neg_i, cmp_ii, lt_ii, le_ii, gt_ii, ge_ii, le_cc, muls_ii, muls_si, ins_cs, iadd_ii, isub_ii, w_onone, w_osome, w_sl, sl_s, sl_t, s_aug, eq_ss, len_s, ix_s, add_ss, str_s, tuple_t, list_t, is_n, not_n, non_n, non_i, non_b, non_s, non_t, non_r, abs_i, max_ii, min_ii, int_i, int_b, gcd_ii, len_t, ix_t, eq_v, ne_v, eq_ii, eq_bb, eq_nn, eq_in, eq_ni, iv_n_list, iv_n_tuple, iv_n_bool, iv_n_str, iv_n_int, okt_n, iv_b_list, iv_b_tuple, iv_b_bool, iv_b_str, iv_b_int, okt_b, iv_i_list, iv_i_tuple, iv_i_bool, iv_i_str, iv_i_int, okt_i, iv_s_list, iv_s_tuple, iv_s_bool, iv_s_str, iv_s_int, okt_s, iv_t_list, iv_t_tuple, iv_t_bool, iv_t_str, iv_t_int, okt_t, iv_r_list, iv_r_tuple, iv_r_bool, iv_r_str, iv_r_int, tru_b, tru_i, tru_n, tru_t, Option.map_some, Option.map_none, List.map_cons, List.map_nil, List.length_cons, List.length_nil, List.set_cons_zero, List.set_cons_succ, List.cons_append, List.nil_append, List.replicate, Nat.reduceAdd, Nat.reduceSub, Nat.reduceLeDiff, true_and, and_true, decide_eq_true_eq, reduceIte, Bool.false_eq_true, Bool.not_true, Bool.not_false, decide_true, decide_false]
    refine ⟨ss ++ [⟨q, bd.ring, rd⟩], _, _, _, _, _, rfl, (get_set_eq P5).trans ?_, fun v hv => (List.mem_append.mp hv).elim (hs v) fun e => by rw [List.mem_singleton.mp e]; exact ⟨⟨⟨z, bd, ez, rfl⟩, hrd⟩, by show q < R.length; omega⟩, by simp; omega, G5.set (Nat.le_refl _)⟩
    rw [List.map_append]; rfl
  · rintro l m1 ⟨ss, x4, x5, x6, x7, x8, rfl, P, hs, hl, G⟩
    walk_at "w1"
    exact ⟨ss, m.length, rfl, P, hs, by omega, Nat.le_refl _, G⟩
theorem given_ok {m : MH} {ns : List Int} (h : m[0]? = some (.frz (ns.map .int))) :
    WP (f_law_given [.ref 0] m) (fun x m' => ∃ L B R, ∃ (cs : List Clk) (ss : List Slp) (n q : Nat), x = .tup [clubPV L B R, .ref n, .ref q] ∧ ClubG L B R ∧ CkG L R cs ∧ cs.length ≤ 6 ∧ m'[n]? = some (.lst (cs.map Clk.pv)) ∧ m'[q]? = some (.lst (ss.map Slp.pv)) ∧ (∀ s ∈ ss, SlG B s ∧ s.race < R.length) ∧ ss.length ≤ 9 ∧ Gr m m') NoE := by
  unfold f_law_given b_law_given
  walk_at "w1"
  rw [s_seq]
  walk_at "w1"
  refine (club_ok h).mono ?_
  rintro _ m1 ⟨L, B, R, rfl, hC, G1⟩
  walk_at "w1"
  rw [s_seq]
  walk_at "w1"
  refine (clocks_ok (G1.get _ _ h) hC).mono ?_
  rintro _ m2 ⟨cs, n, rfl, hn, hc, hcl, _, G2⟩
  walk_at "w1"
  refine (slips_ok ((G1.trans G2).get _ _ h) hC hc hcl hn).mono ?_
  rintro _ m3 ⟨ss, q, rfl, hq, hs, hsl, _, G3⟩
  walk_at "w1"
  exact ⟨L, B, R, cs, ss, n, q, rfl, hC, hc, hcl, G3.get _ _ hn, hq, hs, hsl, (G1.trans G2).trans G3⟩
/-! ## the law's own: now, less, entrants, speeds -/
theorem lnow_ok {m : MH} {L : List Loft} {B : List Bird} {R : List Race} {i : Nat} {rc : Race} {c : Int} (hr : R[i]? = some rc) (ro : RaceOk L rc) :
    WP (f_law_now [clubPV L B R, .int (i : Nat), .int c] m) (fun x m' => (∃ now, x = .int now ∧ rc.start ≤ now ∧ now ≤ rc.close) ∧ m' = m) NoE := by
  have o := ro.close
  unfold f_law_now b_law_now clubPV
  walk_at "w1"
  rw [s_seq]
  try simp -dsimp only [at_map hr, Race.pv, at0, at1, at2, at3, at4, at5, at6, wp_fn, s_nil, s_brk, s_cnt, s_expr, s_ret, s_retN, s_if, s_asn, s_par, s_asg, g_nm, g_nil, g_cons, g_tupT, g_subW, w_v0, w_vS, w_c, w_op, w_un, w_anil, w_acons, w_tup, w_lst, w_call, w_callU, w_isi, w_meth, w_tru, w_bool, w_notS, w_andS, w_orS, w_ifx, w_andV, w_orV, w_notV, w_chain, wp_ok, wp_bad, wp_some, wp_none, wp_liftif, wp_if, asB_b, wp_noex, add_ii, sub_ii, mul_ii, fdiv_ii, mod_ii, pow_ii, neg_i, cmp_ii, lt_ii, le_ii, gt_ii, ge_ii, le_cc, muls_ii, muls_si, ins_cs, iadd_ii, isub_ii, w_onone, w_osome, w_sl, sl_s, sl_t, s_aug, eq_ss, len_s, ix_s, add_ss, str_s, tuple_t, list_t, is_n, not_n, non_n, non_i, non_b, non_s, non_t, non_r, abs_i, max_ii, min_ii, int_i, int_b, gcd_ii, len_t, ix_t, eq_v, ne_v, eq_ii, eq_bb, eq_nn, eq_in, eq_ni, iv_n_list, iv_n_tuple, iv_n_bool, iv_n_str, iv_n_int, okt_n, iv_b_list, iv_b_tuple, iv_b_bool, iv_b_str, iv_b_int, okt_b, iv_i_list, iv_i_tuple, iv_i_bool, iv_i_str, iv_i_int, okt_i, iv_s_list, iv_s_tuple, iv_s_bool, iv_s_str, iv_s_int, okt_s, iv_t_list, iv_t_tuple, iv_t_bool, iv_t_str, iv_t_int, okt_t, iv_r_list, iv_r_tuple, iv_r_bool, iv_r_str, iv_r_int, tru_b, tru_i, tru_n, tru_t, Option.map_some, Option.map_none, List.map_cons, List.map_nil, List.length_cons, List.length_nil, List.set_cons_zero, List.set_cons_succ, List.cons_append, List.nil_append, List.replicate, Nat.reduceAdd, Nat.reduceSub, Nat.reduceLeDiff, true_and, and_true, decide_eq_true_eq, reduceIte, Bool.false_eq_true, Bool.not_true, Bool.not_false, decide_true, decide_false]
  rw [s_seq]
  try simp -dsimp only [at_map hr, Race.pv, at0, at1, at2, at3, at4, at5, at6, wp_fn, s_nil, s_brk, s_cnt, s_expr, s_ret, s_retN, s_if, s_asn, s_par, s_asg, g_nm, g_nil, g_cons, g_tupT, g_subW, w_v0, w_vS, w_c, w_op, w_un, w_anil, w_acons, w_tup, w_lst, w_call, w_callU, w_isi, w_meth, w_tru, w_bool, w_notS, w_andS, w_orS, w_ifx, w_andV, w_orV, w_notV, w_chain, wp_ok, wp_bad, wp_some, wp_none, wp_liftif, wp_if, asB_b, wp_noex, add_ii, sub_ii, mul_ii, fdiv_ii, mod_ii, pow_ii, neg_i, cmp_ii, lt_ii, le_ii, gt_ii, ge_ii, le_cc, muls_ii, muls_si, ins_cs, iadd_ii, isub_ii, w_onone, w_osome, w_sl, sl_s, sl_t, s_aug, eq_ss, len_s, ix_s, add_ss, str_s, tuple_t, list_t, is_n, not_n, non_n, non_i, non_b, non_s, non_t, non_r, abs_i, max_ii, min_ii, int_i, int_b, gcd_ii, len_t, ix_t, eq_v, ne_v, eq_ii, eq_bb, eq_nn, eq_in, eq_ni, iv_n_list, iv_n_tuple, iv_n_bool, iv_n_str, iv_n_int, okt_n, iv_b_list, iv_b_tuple, iv_b_bool, iv_b_str, iv_b_int, okt_b, iv_i_list, iv_i_tuple, iv_i_bool, iv_i_str, iv_i_int, okt_i, iv_s_list, iv_s_tuple, iv_s_bool, iv_s_str, iv_s_int, okt_s, iv_t_list, iv_t_tuple, iv_t_bool, iv_t_str, iv_t_int, okt_t, iv_r_list, iv_r_tuple, iv_r_bool, iv_r_str, iv_r_int, tru_b, tru_i, tru_n, tru_t, Option.map_some, Option.map_none, List.map_cons, List.map_nil, List.length_cons, List.length_nil, List.set_cons_zero, List.set_cons_succ, List.cons_append, List.nil_append, List.replicate, Nat.reduceAdd, Nat.reduceSub, Nat.reduceLeDiff, true_and, and_true, decide_eq_true_eq, reduceIte, Bool.false_eq_true, Bool.not_true, Bool.not_false, decide_true, decide_false]
  rw [if_pos (by omega), fmod_pos (by omega)]
  try simp -dsimp only [at0, at1, at2, at3, at4, at5, at6, wp_fn, s_nil, s_brk, s_cnt, s_expr, s_ret, s_retN, s_if, s_asn, s_par, s_asg, g_nm, g_nil, g_cons, g_tupT, g_subW, w_v0, w_vS, w_c, w_op, w_un, w_anil, w_acons, w_tup, w_lst, w_call, w_callU, w_isi, w_meth, w_tru, w_bool, w_notS, w_andS, w_orS, w_ifx, w_andV, w_orV, w_notV, w_chain, wp_ok, wp_bad, wp_some, wp_none, wp_liftif, wp_if, asB_b, wp_noex, add_ii, sub_ii, mul_ii, fdiv_ii, mod_ii, pow_ii, neg_i, cmp_ii, lt_ii, le_ii, gt_ii, ge_ii, le_cc, muls_ii, muls_si, ins_cs, iadd_ii, isub_ii, w_onone, w_osome, w_sl, sl_s, sl_t, s_aug, eq_ss, len_s, ix_s, add_ss, str_s, tuple_t, list_t, is_n, not_n, non_n, non_i, non_b, non_s, non_t, non_r, abs_i, max_ii, min_ii, int_i, int_b, gcd_ii, len_t, ix_t, eq_v, ne_v, eq_ii, eq_bb, eq_nn, eq_in, eq_ni, iv_n_list, iv_n_tuple, iv_n_bool, iv_n_str, iv_n_int, okt_n, iv_b_list, iv_b_tuple, iv_b_bool, iv_b_str, iv_b_int, okt_b, iv_i_list, iv_i_tuple, iv_i_bool, iv_i_str, iv_i_int, okt_i, iv_s_list, iv_s_tuple, iv_s_bool, iv_s_str, iv_s_int, okt_s, iv_t_list, iv_t_tuple, iv_t_bool, iv_t_str, iv_t_int, okt_t, iv_r_list, iv_r_tuple, iv_r_bool, iv_r_str, iv_r_int, tru_b, tru_i, tru_n, tru_t, Option.map_some, Option.map_none, List.map_cons, List.map_nil, List.length_cons, List.length_nil, List.set_cons_zero, List.set_cons_succ, List.cons_append, List.nil_append, List.replicate, Nat.reduceAdd, Nat.reduceSub, Nat.reduceLeDiff, true_and, and_true, decide_eq_true_eq, reduceIte, Bool.false_eq_true, Bool.not_true, Bool.not_false, decide_true, decide_false]
  have h1 := Int.emod_nonneg c (show rc.close - rc.start + 1 ≠ 0 by omega)
  have h2 := Int.emod_lt_of_pos c (show 0 < rc.close - rc.start + 1 by omega)
  exact ⟨_, rfl, by omega, by omega⟩
theorem lless_ok {p q r s : Int} {m : MH} (hp : p.natAbs < 2 ^ 200) (hq : q.natAbs < 2 ^ 200) (hr : r.natAbs < 2 ^ 200) (hs : s.natAbs < 2 ^ 200) :
    WP (f_law_less [fpv p q, fpv r s] m) (fun x m' => x = .bl (decide (p * s < r * q)) ∧ m' = m) NoE := by
  unfold f_law_less b_law_less fpv
  try simp -dsimp only [at0, at1, at2, at3, at4, at5, at6, wp_fn, s_nil, s_brk, s_cnt, s_expr, s_ret, s_retN, s_if, s_asn, s_par, s_asg, g_nm, g_nil, g_cons, g_tupT, g_subW, w_v0, w_vS, w_c, w_op, w_un, w_anil, w_acons, w_tup, w_lst, w_call, w_callU, w_isi, w_meth, w_tru, w_bool, w_notS, w_andS, w_orS, w_ifx, w_andV, w_orV, w_notV, w_chain, wp_ok, wp_bad, wp_some, wp_none, wp_liftif, wp_if, asB_b, wp_noex, add_ii, sub_ii, mul_ii, fdiv_ii, mod_ii, pow_ii, neg_i, cmp_ii, lt_ii, le_ii, gt_ii, ge_ii, le_cc, muls_ii, muls_si, ins_cs, iadd_ii, isub_ii, w_onone, w_osome, w_sl, sl_s, sl_t, s_aug, eq_ss, len_s, ix_s, add_ss, str_s, tuple_t, list_t, is_n, not_n, non_n, non_i, non_b, non_s, non_t, non_r, abs_i, max_ii, min_ii, int_i, int_b, gcd_ii, len_t, ix_t, eq_v, ne_v, eq_ii, eq_bb, eq_nn, eq_in, eq_ni, iv_n_list, iv_n_tuple, iv_n_bool, iv_n_str, iv_n_int, okt_n, iv_b_list, iv_b_tuple, iv_b_bool, iv_b_str, iv_b_int, okt_b, iv_i_list, iv_i_tuple, iv_i_bool, iv_i_str, iv_i_int, okt_i, iv_s_list, iv_s_tuple, iv_s_bool, iv_s_str, iv_s_int, okt_s, iv_t_list, iv_t_tuple, iv_t_bool, iv_t_str, iv_t_int, okt_t, iv_r_list, iv_r_tuple, iv_r_bool, iv_r_str, iv_r_int, tru_b, tru_i, tru_n, tru_t, Option.map_some, Option.map_none, List.map_cons, List.map_nil, List.length_cons, List.length_nil, List.set_cons_zero, List.set_cons_succ, List.cons_append, List.nil_append, List.replicate, Nat.reduceAdd, Nat.reduceSub, Nat.reduceLeDiff, true_and, and_true, decide_eq_true_eq, reduceIte, Bool.false_eq_true, Bool.not_true, Bool.not_false, decide_true, decide_false]
  rw [if_pos (.inr ⟨big_of (by omega), big_of (by omega)⟩)]
  try simp -dsimp only [at0, at1, at2, at3, at4, at5, at6, wp_fn, s_nil, s_brk, s_cnt, s_expr, s_ret, s_retN, s_if, s_asn, s_par, s_asg, g_nm, g_nil, g_cons, g_tupT, g_subW, w_v0, w_vS, w_c, w_op, w_un, w_anil, w_acons, w_tup, w_lst, w_call, w_callU, w_isi, w_meth, w_tru, w_bool, w_notS, w_andS, w_orS, w_ifx, w_andV, w_orV, w_notV, w_chain, wp_ok, wp_bad, wp_some, wp_none, wp_liftif, wp_if, asB_b, wp_noex, add_ii, sub_ii, mul_ii, fdiv_ii, mod_ii, pow_ii, neg_i, cmp_ii, lt_ii, le_ii, gt_ii, ge_ii, le_cc, muls_ii, muls_si, ins_cs, iadd_ii, isub_ii, w_onone, w_osome, w_sl, sl_s, sl_t, s_aug, eq_ss, len_s, ix_s, add_ss, str_s, tuple_t, list_t, is_n, not_n, non_n, non_i, non_b, non_s, non_t, non_r, abs_i, max_ii, min_ii, int_i, int_b, gcd_ii, len_t, ix_t, eq_v, ne_v, eq_ii, eq_bb, eq_nn, eq_in, eq_ni, iv_n_list, iv_n_tuple, iv_n_bool, iv_n_str, iv_n_int, okt_n, iv_b_list, iv_b_tuple, iv_b_bool, iv_b_str, iv_b_int, okt_b, iv_i_list, iv_i_tuple, iv_i_bool, iv_i_str, iv_i_int, okt_i, iv_s_list, iv_s_tuple, iv_s_bool, iv_s_str, iv_s_int, okt_s, iv_t_list, iv_t_tuple, iv_t_bool, iv_t_str, iv_t_int, okt_t, iv_r_list, iv_r_tuple, iv_r_bool, iv_r_str, iv_r_int, tru_b, tru_i, tru_n, tru_t, Option.map_some, Option.map_none, List.map_cons, List.map_nil, List.length_cons, List.length_nil, List.set_cons_zero, List.set_cons_succ, List.cons_append, List.nil_append, List.replicate, Nat.reduceAdd, Nat.reduceSub, Nat.reduceLeDiff, true_and, and_true, decide_eq_true_eq, reduceIte, Bool.false_eq_true, Bool.not_true, Bool.not_false, decide_true, decide_false]
  rw [if_pos (.inr ⟨big_of (by omega), big_of (by omega)⟩)]
  try simp -dsimp only [at0, at1, at2, at3, at4, at5, at6, wp_fn, s_nil, s_brk, s_cnt, s_expr, s_ret, s_retN, s_if, s_asn, s_par, s_asg, g_nm, g_nil, g_cons, g_tupT, g_subW, w_v0, w_vS, w_c, w_op, w_un, w_anil, w_acons, w_tup, w_lst, w_call, w_callU, w_isi, w_meth, w_tru, w_bool, w_notS, w_andS, w_orS, w_ifx, w_andV, w_orV, w_notV, w_chain, wp_ok, wp_bad, wp_some, wp_none, wp_liftif, wp_if, asB_b, wp_noex, add_ii, sub_ii, mul_ii, fdiv_ii, mod_ii, pow_ii, neg_i, cmp_ii, lt_ii, le_ii, gt_ii, ge_ii, le_cc, muls_ii, muls_si, ins_cs, iadd_ii, isub_ii, w_onone, w_osome, w_sl, sl_s, sl_t, s_aug, eq_ss, len_s, ix_s, add_ss, str_s, tuple_t, list_t, is_n, not_n, non_n, non_i, non_b, non_s, non_t, non_r, abs_i, max_ii, min_ii, int_i, int_b, gcd_ii, len_t, ix_t, eq_v, ne_v, eq_ii, eq_bb, eq_nn, eq_in, eq_ni, iv_n_list, iv_n_tuple, iv_n_bool, iv_n_str, iv_n_int, okt_n, iv_b_list, iv_b_tuple, iv_b_bool, iv_b_str, iv_b_int, okt_b, iv_i_list, iv_i_tuple, iv_i_bool, iv_i_str, iv_i_int, okt_i, iv_s_list, iv_s_tuple, iv_s_bool, iv_s_str, iv_s_int, okt_s, iv_t_list, iv_t_tuple, iv_t_bool, iv_t_str, iv_t_int, okt_t, iv_r_list, iv_r_tuple, iv_r_bool, iv_r_str, iv_r_int, tru_b, tru_i, tru_n, tru_t, Option.map_some, Option.map_none, List.map_cons, List.map_nil, List.length_cons, List.length_nil, List.set_cons_zero, List.set_cons_succ, List.cons_append, List.nil_append, List.replicate, Nat.reduceAdd, Nat.reduceSub, Nat.reduceLeDiff, true_and, and_true, decide_eq_true_eq, reduceIte, Bool.false_eq_true, Bool.not_true, Bool.not_false, decide_true, decide_false]
theorem loft_filter {B : List Bird} {bd : Bird} {t : Int} (hb : bd ∈ B) (hr : bd.ring = t) (nd : (B.map Bird.ring).Nodup) : (B.filter fun b => decide (b.ring = t)) = [bd] := by
  induction B with
  | nil => cases hb
  | cons b B ih =>
    rw [List.map_cons] at nd
    obtain ⟨n1, n2⟩ := List.nodup_cons.mp nd
    rcases List.mem_cons.mp hb with rfl | hb
    · rw [List.filter_cons_of_pos (by simpa using hr)]
      congr 1
      refine List.filter_eq_nil_iff.mpr fun c hc => ?_
      simp only [decide_eq_true_eq]
      intro e
      exact n1 (List.mem_map.mpr ⟨c, hc, by rw [e, hr]⟩)
    · rw [List.filter_cons_of_neg (by
        simp only [decide_eq_true_eq]
        intro e
        exact n1 (List.mem_map.mpr ⟨bd, hb, by rw [e, hr]⟩))]
      exact ih hb n2
/-- [bird[1] for bird in club[1] if bird[0] == ring] -/
theorem loft_lc {l : SM.Loc} {m : MH} {i c : Nat} {L : List Loft} {B : List Bird} {R : List Race} {bd : Bird} {t : Int} {Q : PV → MH → Prop} {E : EX} (hB : B.length ≤ 100) (hi : i < l.length) (h0 : l[0]? = some (some (clubPV L B R))) (hc : l[c]? = some (some (.int t))) (hi0 : i ≠ 0) (hic : i ≠ c)
    (hb : bd ∈ B) (hr : bd.ring = t) (nd : (B.map Bird.ring).Nodup) (q : ∀ m2, Gr m m2 → m2[m.length]? = some (.lst [.int bd.loft]) → Q (.ref m.length) m2) :
    WP (sLc (iSeq (sOp ixv (sVar 0) (sC (.int 1)))) (gNm i) (tBool (sOp eqv (sOp ixv (sVar i) (sC (.int 0))) (sVar c))) (sOp ixv (sVar i) (sC (.int 1))) [i] l m) Q E := by
  refine lc_fT (f := Bird.pv) (gg := fun b : Bird => .int b.loft) (p := fun b : Bird => decide (b.ring = t)) ?_
  rw [w_op, w_var h0]
  unfold clubPV
  try simp -dsimp only [at0, at1, at2, at3, at4, at5, at6, wp_fn, s_nil, s_brk, s_cnt, s_expr, s_ret, s_retN, s_if, s_asn, s_par, s_asg, g_nm, g_nil, g_cons, g_tupT, g_subW, w_v0, w_vS, w_c, w_op, w_un, w_anil, w_acons, w_tup, w_lst, w_call, w_callU, w_isi, w_meth, w_tru, w_bool, w_notS, w_andS, w_orS, w_ifx, w_andV, w_orV, w_notV, w_chain, wp_ok, wp_bad, wp_some, wp_none, wp_liftif, wp_if, asB_b, wp_noex, add_ii, sub_ii, mul_ii, fdiv_ii, mod_ii, pow_ii, neg_i, cmp_ii, lt_ii, le_ii, gt_ii, ge_ii, le_cc, muls_ii, muls_si, ins_cs, iadd_ii, isub_ii, w_onone, w_osome, w_sl, sl_s, sl_t, s_aug, eq_ss, len_s, ix_s, add_ss, str_s, tuple_t, list_t, is_n, not_n, non_n, non_i, non_b, non_s, non_t, non_r, abs_i, max_ii, min_ii, int_i, int_b, gcd_ii, len_t, ix_t, eq_v, ne_v, eq_ii, eq_bb, eq_nn, eq_in, eq_ni, iv_n_list, iv_n_tuple, iv_n_bool, iv_n_str, iv_n_int, okt_n, iv_b_list, iv_b_tuple, iv_b_bool, iv_b_str, iv_b_int, okt_b, iv_i_list, iv_i_tuple, iv_i_bool, iv_i_str, iv_i_int, okt_i, iv_s_list, iv_s_tuple, iv_s_bool, iv_s_str, iv_s_int, okt_s, iv_t_list, iv_t_tuple, iv_t_bool, iv_t_str, iv_t_int, okt_t, iv_r_list, iv_r_tuple, iv_r_bool, iv_r_str, iv_r_int, tru_b, tru_i, tru_n, tru_t, Option.map_some, Option.map_none, List.map_cons, List.map_nil, List.length_cons, List.length_nil, List.set_cons_zero, List.set_cons_succ, List.cons_append, List.nil_append, List.replicate, Nat.reduceAdd, Nat.reduceSub, Nat.reduceLeDiff, true_and, and_true, decide_eq_true_eq, reduceIte, Bool.false_eq_true, Bool.not_true, Bool.not_false, decide_true, decide_false]
  refine ⟨B, rfl, by omega, fun b _ m2 _ => ?_, fun m2 G hm => ?_⟩
  · simp only [wipeP]
    have e1 : ((l.set i none).set i (some b.pv))[i]? = some (some b.pv) := List.getElem?_set_self (by simpa using hi)
    have e2 : ((l.set i none).set i (some b.pv))[c]? = some (some (.int t)) := by rw [List.getElem?_set_ne hic, List.getElem?_set_ne hic]; exact hc
    unfold Bird.pv at *
    try simp -dsimp only [at0, at1, at2, at3, at4, at5, at6, wp_fn, s_nil, s_brk, s_cnt, s_expr, s_ret, s_retN, s_if, s_asn, s_par, s_asg, g_nm, g_nil, g_cons, g_tupT, g_subW, w_v0, w_vS, w_c, w_op, w_un, w_anil, w_acons, w_tup, w_lst, w_call, w_callU, w_isi, w_meth, w_tru, w_bool, w_notS, w_andS, w_orS, w_ifx, w_andV, w_orV, w_notV, w_chain, wp_ok, wp_bad, wp_some, wp_none, wp_liftif, wp_if, asB_b, wp_noex, add_ii, sub_ii, mul_ii, fdiv_ii, mod_ii, pow_ii, neg_i, cmp_ii, lt_ii, le_ii, gt_ii, ge_ii, le_cc, muls_ii, muls_si, ins_cs, iadd_ii, isub_ii, w_onone, w_osome, w_sl, sl_s, sl_t, s_aug, eq_ss, len_s, ix_s, add_ss, str_s, tuple_t, list_t, is_n, not_n, non_n, non_i, non_b, non_s, non_t, non_r, abs_i, max_ii, min_ii, int_i, int_b, gcd_ii, len_t, ix_t, eq_v, ne_v, eq_ii, eq_bb, eq_nn, eq_in, eq_ni, iv_n_list, iv_n_tuple, iv_n_bool, iv_n_str, iv_n_int, okt_n, iv_b_list, iv_b_tuple, iv_b_bool, iv_b_str, iv_b_int, okt_b, iv_i_list, iv_i_tuple, iv_i_bool, iv_i_str, iv_i_int, okt_i, iv_s_list, iv_s_tuple, iv_s_bool, iv_s_str, iv_s_int, okt_s, iv_t_list, iv_t_tuple, iv_t_bool, iv_t_str, iv_t_int, okt_t, iv_r_list, iv_r_tuple, iv_r_bool, iv_r_str, iv_r_int, tru_b, tru_i, tru_n, tru_t, Option.map_some, Option.map_none, List.map_cons, List.map_nil, List.length_cons, List.length_nil, List.set_cons_zero, List.set_cons_succ, List.cons_append, List.nil_append, List.replicate, Nat.reduceAdd, Nat.reduceSub, Nat.reduceLeDiff, true_and, and_true, decide_eq_true_eq, reduceIte, Bool.false_eq_true, Bool.not_true, Bool.not_false, decide_true, decide_false]
    rw [w_var e1]
    try simp -dsimp only [at0, at1, at2, at3, at4, at5, at6, wp_fn, s_nil, s_brk, s_cnt, s_expr, s_ret, s_retN, s_if, s_asn, s_par, s_asg, g_nm, g_nil, g_cons, g_tupT, g_subW, w_v0, w_vS, w_c, w_op, w_un, w_anil, w_acons, w_tup, w_lst, w_call, w_callU, w_isi, w_meth, w_tru, w_bool, w_notS, w_andS, w_orS, w_ifx, w_andV, w_orV, w_notV, w_chain, wp_ok, wp_bad, wp_some, wp_none, wp_liftif, wp_if, asB_b, wp_noex, add_ii, sub_ii, mul_ii, fdiv_ii, mod_ii, pow_ii, neg_i, cmp_ii, lt_ii, le_ii, gt_ii, ge_ii, le_cc, muls_ii, muls_si, ins_cs, iadd_ii, isub_ii, w_onone, w_osome, w_sl, sl_s, sl_t, s_aug, eq_ss, len_s, ix_s, add_ss, str_s, tuple_t, list_t, is_n, not_n, non_n, non_i, non_b, non_s, non_t, non_r, abs_i, max_ii, min_ii, int_i, int_b, gcd_ii, len_t, ix_t, eq_v, ne_v, eq_ii, eq_bb, eq_nn, eq_in, eq_ni, iv_n_list, iv_n_tuple, iv_n_bool, iv_n_str, iv_n_int, okt_n, iv_b_list, iv_b_tuple, iv_b_bool, iv_b_str, iv_b_int, okt_b, iv_i_list, iv_i_tuple, iv_i_bool, iv_i_str, iv_i_int, okt_i, iv_s_list, iv_s_tuple, iv_s_bool, iv_s_str, iv_s_int, okt_s, iv_t_list, iv_t_tuple, iv_t_bool, iv_t_str, iv_t_int, okt_t, iv_r_list, iv_r_tuple, iv_r_bool, iv_r_str, iv_r_int, tru_b, tru_i, tru_n, tru_t, Option.map_some, Option.map_none, List.map_cons, List.map_nil, List.length_cons, List.length_nil, List.set_cons_zero, List.set_cons_succ, List.cons_append, List.nil_append, List.replicate, Nat.reduceAdd, Nat.reduceSub, Nat.reduceLeDiff, true_and, and_true, decide_eq_true_eq, reduceIte, Bool.false_eq_true, Bool.not_true, Bool.not_false, decide_true, decide_false]
    rw [w_var e2]
    try simp -dsimp only [at0, at1, at2, at3, at4, at5, at6, wp_fn, s_nil, s_brk, s_cnt, s_expr, s_ret, s_retN, s_if, s_asn, s_par, s_asg, g_nm, g_nil, g_cons, g_tupT, g_subW, w_v0, w_vS, w_c, w_op, w_un, w_anil, w_acons, w_tup, w_lst, w_call, w_callU, w_isi, w_meth, w_tru, w_bool, w_notS, w_andS, w_orS, w_ifx, w_andV, w_orV, w_notV, w_chain, wp_ok, wp_bad, wp_some, wp_none, wp_liftif, wp_if, asB_b, wp_noex, add_ii, sub_ii, mul_ii, fdiv_ii, mod_ii, pow_ii, neg_i, cmp_ii, lt_ii, le_ii, gt_ii, ge_ii, le_cc, muls_ii, muls_si, ins_cs, iadd_ii, isub_ii, w_onone, w_osome, w_sl, sl_s, sl_t, s_aug, eq_ss, len_s, ix_s, add_ss, str_s, tuple_t, list_t, is_n, not_n, non_n, non_i, non_b, non_s, non_t, non_r, abs_i, max_ii, min_ii, int_i, int_b, gcd_ii, len_t, ix_t, eq_v, ne_v, eq_ii, eq_bb, eq_nn, eq_in, eq_ni, iv_n_list, iv_n_tuple, iv_n_bool, iv_n_str, iv_n_int, okt_n, iv_b_list, iv_b_tuple, iv_b_bool, iv_b_str, iv_b_int, okt_b, iv_i_list, iv_i_tuple, iv_i_bool, iv_i_str, iv_i_int, okt_i, iv_s_list, iv_s_tuple, iv_s_bool, iv_s_str, iv_s_int, okt_s, iv_t_list, iv_t_tuple, iv_t_bool, iv_t_str, iv_t_int, okt_t, iv_r_list, iv_r_tuple, iv_r_bool, iv_r_str, iv_r_int, tru_b, tru_i, tru_n, tru_t, Option.map_some, Option.map_none, List.map_cons, List.map_nil, List.length_cons, List.length_nil, List.set_cons_zero, List.set_cons_succ, List.cons_append, List.nil_append, List.replicate, Nat.reduceAdd, Nat.reduceSub, Nat.reduceLeDiff, true_and, and_true, decide_eq_true_eq, reduceIte, Bool.false_eq_true, Bool.not_true, Bool.not_false, decide_true, decide_false]
    refine ⟨Gr.refl, fun _ => ?_⟩
    rw [w_var e1]
    try simp -dsimp only [at0, at1, at2, at3, at4, at5, at6, wp_fn, s_nil, s_brk, s_cnt, s_expr, s_ret, s_retN, s_if, s_asn, s_par, s_asg, g_nm, g_nil, g_cons, g_tupT, g_subW, w_v0, w_vS, w_c, w_op, w_un, w_anil, w_acons, w_tup, w_lst, w_call, w_callU, w_isi, w_meth, w_tru, w_bool, w_notS, w_andS, w_orS, w_ifx, w_andV, w_orV, w_notV, w_chain, wp_ok, wp_bad, wp_some, wp_none, wp_liftif, wp_if, asB_b, wp_noex, add_ii, sub_ii, mul_ii, fdiv_ii, mod_ii, pow_ii, neg_i, cmp_ii, lt_ii, le_ii, gt_ii, ge_ii, le_cc, muls_ii, muls_si, ins_cs, iadd_ii, isub_ii, w_onone, w_osome, w_sl, sl_s, sl_t, s_aug, eq_ss, len_s, ix_s, add_ss, str_s, tuple_t, list_t, is_n, not_n, non_n, non_i, non_b, non_s, non_t, non_r, abs_i, max_ii, min_ii, int_i, int_b, gcd_ii, len_t, ix_t, eq_v, ne_v, eq_ii, eq_bb, eq_nn, eq_in, eq_ni, iv_n_list, iv_n_tuple, iv_n_bool, iv_n_str, iv_n_int, okt_n, iv_b_list, iv_b_tuple, iv_b_bool, iv_b_str, iv_b_int, okt_b, iv_i_list, iv_i_tuple, iv_i_bool, iv_i_str, iv_i_int, okt_i, iv_s_list, iv_s_tuple, iv_s_bool, iv_s_str, iv_s_int, okt_s, iv_t_list, iv_t_tuple, iv_t_bool, iv_t_str, iv_t_int, okt_t, iv_r_list, iv_r_tuple, iv_r_bool, iv_r_str, iv_r_int, tru_b, tru_i, tru_n, tru_t, Option.map_some, Option.map_none, List.map_cons, List.map_nil, List.length_cons, List.length_nil, List.set_cons_zero, List.set_cons_succ, List.cons_append, List.nil_append, List.replicate, Nat.reduceAdd, Nat.reduceSub, Nat.reduceLeDiff, true_and, and_true, decide_eq_true_eq, reduceIte, Bool.false_eq_true, Bool.not_true, Bool.not_false, decide_true, decide_false]
    exact Gr.refl
  · rw [loft_filter hb hr nd] at hm
    exact q m2 G hm
/-- the loft of a bird -/
def loftB (L : List Loft) (bd : Bird) : Loft := (L[bd.loft.toNat]?).getD ⟨[], 0, 0⟩
theorem loftB_ok {L : List Loft} {B : List Bird} {R : List Race} {bd : Bird} (hC : ClubG L B R) (hb : bd ∈ B) : ∃ j : Nat, bd.loft = (j : Nat) ∧ L[j]? = some (loftB L bd) ∧ LoftOk (loftB L bd) := by
  have hbd := hC.bx _ hb
  obtain ⟨lf, elf⟩ := Int.eq_ofNat_of_zero_le hbd.1
  have hlf : lf < L.length := by omega
  have el : L[lf]? = some (L[lf]'hlf) := List.getElem?_eq_getElem hlf
  have e : loftB L bd = L[lf]'hlf := by
    unfold loftB
    rw [elf, Int.toNat_natCast, el]
    rfl
  exact ⟨lf, elf, by rw [e]; exact el, by rw [e]; exact hC.lx _ (List.mem_of_getElem? el)⟩
/-- what the law's speed gives: a pair that need not be in lowest terms -/
def lspF (sq s c D W p q : Int) : PV := if c * q < p ∨ Nf D W s p q ≤ 0 then .non else match lowv (Nf D W s p q) q with
  | .tup [.int f, .int g] => fpv (sq * g * g) (f * f)
  | _ => .non
theorem lspF_non {sq s c D W p q : Int} (h : c * q < p ∨ Nf D W s p q ≤ 0) : lspF sq s c D W p q = .non := by unfold lspF; rw [if_pos h]
theorem lspF_some {sq s c D W p q : Int} (hq : 0 < q) (h : ¬ (c * q < p ∨ Nf D W s p q ≤ 0)) : ∃ f g : Int, 0 < f ∧ 0 < g ∧ f ≤ Nf D W s p q ∧ g ≤ q ∧ f * q = Nf D W s p q * g ∧ lspF sq s c D W p q = fpv (sq * g * g) (f * f) := by
  obtain ⟨f, g, e1, e2, e3, e4, e5⟩ := lowv_red (p := Nf D W s p q) hq
  unfold lspF
  rw [if_neg h, e1]
  have hN : 0 < Nf D W s p q := by omega
  have fp := sq_fact hN hq e2.pos e3
  exact ⟨f, g, fp, e2.pos, by omega, e5, e3, rfl⟩
theorem lspeed_ok {m : MH} {L : List Loft} {B : List Bird} {R : List Race} {i k : Nat} {rc : Race} {bd : Bird} {t p q : Int} (hC : ClubG L B R) (hr : R[i]? = some rc) (hk : B[k]? = some bd) (ht : bd.ring = t) (hq : 0 < q) (hq2 : q ≤ 1000000000) (hp : rc.start * q ≤ p) (hp2 : p ≤ 9999 * q) :
    WP (f_law_speed [clubPV L B R, .int (i : Nat), .int t, fpv p q] m) (fun x m' => x = lspF (sqd (loftB L bd) rc) rc.start rc.close rc.dusk rc.dawn p q ∧ Gr m m') NoE := by
  have ro := hC.rx _ (List.mem_of_getElem? hr)
  have rs := hC.rs _ (List.mem_of_getElem? hr)
  have hbd := hC.bx _ (List.mem_of_getElem? hk)
  have hD : 0 ≤ rc.dusk ∧ rc.dusk ≤ 1439 := by have := ro.dusk; omega
  have hW : 0 ≤ rc.dawn ∧ rc.dawn ≤ 1439 := by have := ro.dawn; omega
  have b2 := hC.b2
  have oc := ro.close
  have p0 : 0 ≤ rc.start * q := Int.mul_nonneg (by omega) (by omega)
  obtain ⟨lf, elf, el, lo⟩ := loftB_ok hC (List.mem_of_getElem? hk)
  generalize loftB L bd = l at *
  have hfl := fun (m : MH) => flight_ok (s := rc.start) (p := p) (q := q) (m := m) (x1 := .str rc.name) (x2 := .int rc.x) (x3 := .int rc.y) (x5 := .int rc.close) hq (by omega) hD hW
  have hsq := fun m => sqd_ok (m := m) (B := B) hr el ro lo
  have hsb := sqd_bd ro lo
  have hll := fun m => lless_ok (p := rc.close) (q := 1) (r := p) (s := q) (m := m) (by omega) (by omega) (by omega) (by omega)
  have hN := Nf_pos (D := rc.dusk) (W := rc.dawn) (s := rc.start) hD hW hq hp
  unfold f_law_speed b_law_speed
  unfold clubPV fpv at *
  try simp -dsimp only [at0, at1, at2, at3, at4, at5, at6, wp_fn, s_nil, s_brk, s_cnt, s_expr, s_ret, s_retN, s_if, s_asn, s_par, s_asg, g_nm, g_nil, g_cons, g_tupT, g_subW, w_v0, w_vS, w_c, w_op, w_un, w_anil, w_acons, w_tup, w_lst, w_call, w_callU, w_isi, w_meth, w_tru, w_bool, w_notS, w_andS, w_orS, w_ifx, w_andV, w_orV, w_notV, w_chain, wp_ok, wp_bad, wp_some, wp_none, wp_liftif, wp_if, asB_b, wp_noex, add_ii, sub_ii, mul_ii, fdiv_ii, mod_ii, pow_ii, neg_i, cmp_ii, lt_ii, le_ii, gt_ii, ge_ii, le_cc, muls_ii, muls_si, ins_cs, iadd_ii, isub_ii, w_onone, w_osome, w_sl, sl_s, sl_t, s_aug, eq_ss, len_s, ix_s, add_ss, str_s, tuple_t, list_t, is_n, not_n, non_n, non_i, non_b, non_s, non_t, non_r, abs_i, max_ii, min_ii, int_i, int_b, gcd_ii, len_t, ix_t, eq_v, ne_v, eq_ii, eq_bb, eq_nn, eq_in, eq_ni, iv_n_list, iv_n_tuple, iv_n_bool, iv_n_str, iv_n_int, okt_n, iv_b_list, iv_b_tuple, iv_b_bool, iv_b_str, iv_b_int, okt_b, iv_i_list, iv_i_tuple, iv_i_bool, iv_i_str, iv_i_int, okt_i, iv_s_list, iv_s_tuple, iv_s_bool, iv_s_str, iv_s_int, okt_s, iv_t_list, iv_t_tuple, iv_t_bool, iv_t_str, iv_t_int, okt_t, iv_r_list, iv_r_tuple, iv_r_bool, iv_r_str, iv_r_int, tru_b, tru_i, tru_n, tru_t, Option.map_some, Option.map_none, List.map_cons, List.map_nil, List.length_cons, List.length_nil, List.set_cons_zero, List.set_cons_succ, List.cons_append, List.nil_append, List.replicate, Nat.reduceAdd, Nat.reduceSub, Nat.reduceLeDiff, true_and, and_true, decide_eq_true_eq, reduceIte, Bool.false_eq_true, Bool.not_true, Bool.not_false, decide_true, decide_false]
  refine s_cut (mid := fun l' m' => l' = [some (.tup [.tup (L.map Loft.pv), .tup (B.map Bird.pv), .tup (R.map Race.pv)]), some (.int (i : Nat)), some (.int t), some (.tup [.int p, .int q]), none, none, none] ∧ m' = m ∧ ¬ (rc.close * q < p)) ?_ ?_
  · try simp -dsimp only [at_map hr, Race.pv, at0, at1, at2, at3, at4, at5, at6, wp_fn, s_nil, s_brk, s_cnt, s_expr, s_ret, s_retN, s_if, s_asn, s_par, s_asg, g_nm, g_nil, g_cons, g_tupT, g_subW, w_v0, w_vS, w_c, w_op, w_un, w_anil, w_acons, w_tup, w_lst, w_call, w_callU, w_isi, w_meth, w_tru, w_bool, w_notS, w_andS, w_orS, w_ifx, w_andV, w_orV, w_notV, w_chain, wp_ok, wp_bad, wp_some, wp_none, wp_liftif, wp_if, asB_b, wp_noex, add_ii, sub_ii, mul_ii, fdiv_ii, mod_ii, pow_ii, neg_i, cmp_ii, lt_ii, le_ii, gt_ii, ge_ii, le_cc, muls_ii, muls_si, ins_cs, iadd_ii, isub_ii, w_onone, w_osome, w_sl, sl_s, sl_t, s_aug, eq_ss, len_s, ix_s, add_ss, str_s, tuple_t, list_t, is_n, not_n, non_n, non_i, non_b, non_s, non_t, non_r, abs_i, max_ii, min_ii, int_i, int_b, gcd_ii, len_t, ix_t, eq_v, ne_v, eq_ii, eq_bb, eq_nn, eq_in, eq_ni, iv_n_list, iv_n_tuple, iv_n_bool, iv_n_str, iv_n_int, okt_n, iv_b_list, iv_b_tuple, iv_b_bool, iv_b_str, iv_b_int, okt_b, iv_i_list, iv_i_tuple, iv_i_bool, iv_i_str, iv_i_int, okt_i, iv_s_list, iv_s_tuple, iv_s_bool, iv_s_str, iv_s_int, okt_s, iv_t_list, iv_t_tuple, iv_t_bool, iv_t_str, iv_t_int, okt_t, iv_r_list, iv_r_tuple, iv_r_bool, iv_r_str, iv_r_int, tru_b, tru_i, tru_n, tru_t, Option.map_some, Option.map_none, List.map_cons, List.map_nil, List.length_cons, List.length_nil, List.set_cons_zero, List.set_cons_succ, List.cons_append, List.nil_append, List.replicate, Nat.reduceAdd, Nat.reduceSub, Nat.reduceLeDiff, true_and, and_true, decide_eq_true_eq, reduceIte, Bool.false_eq_true, Bool.not_true, Bool.not_false, decide_true, decide_false]
    refine (hll _).mono ?_
    rintro _ m ⟨rfl, rfl⟩
    try simp -dsimp only [at0, at1, at2, at3, at4, at5, at6, wp_fn, s_nil, s_brk, s_cnt, s_expr, s_ret, s_retN, s_if, s_asn, s_par, s_asg, g_nm, g_nil, g_cons, g_tupT, g_subW, w_v0, w_vS, w_c, w_op, w_un, w_anil, w_acons, w_tup, w_lst, w_call, w_callU, w_isi, w_meth, w_tru, w_bool, w_notS, w_andS, w_orS, w_ifx, w_andV, w_orV, w_notV, w_chain, wp_ok, wp_bad, wp_some, wp_none, wp_liftif, wp_if, asB_b, wp_noex, add_ii, sub_ii, mul_ii, fdiv_ii, mod_ii, pow_ii, neg_i, cmp_ii, lt_ii, le_ii, gt_ii, ge_ii, le_cc, muls_ii, muls_si, ins_cs, iadd_ii, isub_ii, w_onone, w_osome, w_sl, sl_s, sl_t, s_aug, eq_ss, len_s, ix_s, add_ss, str_s, tuple_t, list_t, is_n, not_n, non_n, non_i, non_b, non_s, non_t, non_r, abs_i, max_ii, min_ii, int_i, int_b, gcd_ii, len_t, ix_t, eq_v, ne_v, eq_ii, eq_bb, eq_nn, eq_in, eq_ni, iv_n_list, iv_n_tuple, iv_n_bool, iv_n_str, iv_n_int, okt_n, iv_b_list, iv_b_tuple, iv_b_bool, iv_b_str, iv_b_int, okt_b, iv_i_list, iv_i_tuple, iv_i_bool, iv_i_str, iv_i_int, okt_i, iv_s_list, iv_s_tuple, iv_s_bool, iv_s_str, iv_s_int, okt_s, iv_t_list, iv_t_tuple, iv_t_bool, iv_t_str, iv_t_int, okt_t, iv_r_list, iv_r_tuple, iv_r_bool, iv_r_str, iv_r_int, tru_b, tru_i, tru_n, tru_t, Option.map_some, Option.map_none, List.map_cons, List.map_nil, List.length_cons, List.length_nil, List.set_cons_zero, List.set_cons_succ, List.cons_append, List.nil_append, List.replicate, Nat.reduceAdd, Nat.reduceSub, Nat.reduceLeDiff, true_and, and_true, decide_eq_true_eq, reduceIte, Bool.false_eq_true, Bool.not_true, Bool.not_false, decide_true, decide_false]
    by_cases c : rc.close * q < p * 1
    · rw [if_pos c]
      try simp -dsimp only [at0, at1, at2, at3, at4, at5, at6, wp_fn, s_nil, s_brk, s_cnt, s_expr, s_ret, s_retN, s_if, s_asn, s_par, s_asg, g_nm, g_nil, g_cons, g_tupT, g_subW, w_v0, w_vS, w_c, w_op, w_un, w_anil, w_acons, w_tup, w_lst, w_call, w_callU, w_isi, w_meth, w_tru, w_bool, w_notS, w_andS, w_orS, w_ifx, w_andV, w_orV, w_notV, w_chain, wp_ok, wp_bad, wp_some, wp_none, wp_liftif, wp_if, asB_b, wp_noex, add_ii, sub_ii, mul_ii, fdiv_ii, mod_ii, pow_ii, neg_i, cmp_ii, lt_ii, le_ii, gt_ii, ge_ii, le_cc, muls_ii, muls_si, ins_cs, iadd_ii, isub_ii, w_onone, w_osome, w_sl, sl_s, sl_t, s_aug, eq_ss, len_s, ix_s, add_ss, str_s, tuple_t, list_t, is_n, not_n, non_n, non_i, non_b, non_s, non_t, non_r, abs_i, max_ii, min_ii, int_i, int_b, gcd_ii, len_t, ix_t, eq_v, ne_v, eq_ii, eq_bb, eq_nn, eq_in, eq_ni, iv_n_list, iv_n_tuple, iv_n_bool, iv_n_str, iv_n_int, okt_n, iv_b_list, iv_b_tuple, iv_b_bool, iv_b_str, iv_b_int, okt_b, iv_i_list, iv_i_tuple, iv_i_bool, iv_i_str, iv_i_int, okt_i, iv_s_list, iv_s_tuple, iv_s_bool, iv_s_str, iv_s_int, okt_s, iv_t_list, iv_t_tuple, iv_t_bool, iv_t_str, iv_t_int, okt_t, iv_r_list, iv_r_tuple, iv_r_bool, iv_r_str, iv_r_int, tru_b, tru_i, tru_n, tru_t, Option.map_some, Option.map_none, List.map_cons, List.map_nil, List.length_cons, List.length_nil, List.set_cons_zero, List.set_cons_succ, List.cons_append, List.nil_append, List.replicate, Nat.reduceAdd, Nat.reduceSub, Nat.reduceLeDiff, true_and, and_true, decide_eq_true_eq, reduceIte, Bool.false_eq_true, Bool.not_true, Bool.not_false, decide_true, decide_false]
      exact ⟨(lspF_non (.inl (by omega))).symm, Gr.refl⟩
    · rw [if_neg c]
      try simp -dsimp only [at0, at1, at2, at3, at4, at5, at6, wp_fn, s_nil, s_brk, s_cnt, s_expr, s_ret, s_retN, s_if, s_asn, s_par, s_asg, g_nm, g_nil, g_cons, g_tupT, g_subW, w_v0, w_vS, w_c, w_op, w_un, w_anil, w_acons, w_tup, w_lst, w_call, w_callU, w_isi, w_meth, w_tru, w_bool, w_notS, w_andS, w_orS, w_ifx, w_andV, w_orV, w_notV, w_chain, wp_ok, wp_bad, wp_some, wp_none, wp_liftif, wp_if, asB_b, wp_noex, add_ii, sub_ii, mul_ii, fdiv_ii, mod_ii, pow_ii, neg_i, cmp_ii, lt_ii, le_ii, gt_ii, ge_ii, le_cc, muls_ii, muls_si, ins_cs, iadd_ii, isub_ii, w_onone, w_osome, w_sl, sl_s, sl_t, s_aug, eq_ss, len_s, ix_s, add_ss, str_s, tuple_t, list_t, is_n, not_n, non_n, non_i, non_b, non_s, non_t, non_r, abs_i, max_ii, min_ii, int_i, int_b, gcd_ii, len_t, ix_t, eq_v, ne_v, eq_ii, eq_bb, eq_nn, eq_in, eq_ni, iv_n_list, iv_n_tuple, iv_n_bool, iv_n_str, iv_n_int, okt_n, iv_b_list, iv_b_tuple, iv_b_bool, iv_b_str, iv_b_int, okt_b, iv_i_list, iv_i_tuple, iv_i_bool, iv_i_str, iv_i_int, okt_i, iv_s_list, iv_s_tuple, iv_s_bool, iv_s_str, iv_s_int, okt_s, iv_t_list, iv_t_tuple, iv_t_bool, iv_t_str, iv_t_int, okt_t, iv_r_list, iv_r_tuple, iv_r_bool, iv_r_str, iv_r_int, tru_b, tru_i, tru_n, tru_t, Option.map_some, Option.map_none, List.map_cons, List.map_nil, List.length_cons, List.length_nil, List.set_cons_zero, List.set_cons_succ, List.cons_append, List.nil_append, List.replicate, Nat.reduceAdd, Nat.reduceSub, Nat.reduceLeDiff, true_and, and_true, decide_eq_true_eq, reduceIte, Bool.false_eq_true, Bool.not_true, Bool.not_false, decide_true, decide_false]
      omega
  rintro _ _ ⟨rfl, rfl, hc⟩
  rw [s_seq]
  try simp -dsimp only [at_map hr, Race.pv, at0, at1, at2, at3, at4, at5, at6, wp_fn, s_nil, s_brk, s_cnt, s_expr, s_ret, s_retN, s_if, s_asn, s_par, s_asg, g_nm, g_nil, g_cons, g_tupT, g_subW, w_v0, w_vS, w_c, w_op, w_un, w_anil, w_acons, w_tup, w_lst, w_call, w_callU, w_isi, w_meth, w_tru, w_bool, w_notS, w_andS, w_orS, w_ifx, w_andV, w_orV, w_notV, w_chain, wp_ok, wp_bad, wp_some, wp_none, wp_liftif, wp_if, asB_b, wp_noex, add_ii, sub_ii, mul_ii, fdiv_ii, mod_ii, pow_ii, neg_i, cmp_ii, lt_ii, le_ii, gt_ii, ge_ii, le_cc, muls_ii, muls_si, ins_cs, iadd_ii, isub_ii, w_onone, w_osome, w_sl, sl_s, sl_t, s_aug, eq_ss, len_s, ix_s, add_ss, str_s, tuple_t, list_t, is_n, not_n, non_n, non_i, non_b, non_s, non_t, non_r, abs_i, max_ii, min_ii, int_i, int_b, gcd_ii, len_t, ix_t, eq_v, ne_v, eq_ii, eq_bb, eq_nn, eq_in, eq_ni, iv_n_list, iv_n_tuple, iv_n_bool, iv_n_str, iv_n_int, okt_n, iv_b_list, iv_b_tuple, iv_b_bool, iv_b_str, iv_b_int, okt_b, iv_i_list, iv_i_tuple, iv_i_bool, iv_i_str, iv_i_int, okt_i, iv_s_list, iv_s_tuple, iv_s_bool, iv_s_str, iv_s_int, okt_s, iv_t_list, iv_t_tuple, iv_t_bool, iv_t_str, iv_t_int, okt_t, iv_r_list, iv_r_tuple, iv_r_bool, iv_r_str, iv_r_int, tru_b, tru_i, tru_n, tru_t, Option.map_some, Option.map_none, List.map_cons, List.map_nil, List.length_cons, List.length_nil, List.set_cons_zero, List.set_cons_succ, List.cons_append, List.nil_append, List.replicate, Nat.reduceAdd, Nat.reduceSub, Nat.reduceLeDiff, true_and, and_true, decide_eq_true_eq, reduceIte, Bool.false_eq_true, Bool.not_true, Bool.not_false, decide_true, decide_false]
  refine (hfl _).mono ?_
  rintro _ m ⟨rfl, rfl⟩
  obtain ⟨f, g, e1, e2, e3, e4, e5⟩ := lowv_red (p := Nf rc.dusk rc.dawn rc.start p q) hq
  have gp := e2.pos
  unfold flv
  rw [e1]
  have hr3 : 0 ≤ rc.start * q := Int.mul_nonneg (by omega) (by omega)
  have hlv : ¬ (Nf rc.dusk rc.dawn rc.start p q ≤ 0) → lspF (sqd l rc) rc.start rc.close rc.dusk rc.dawn p q = fpv (sqd l rc * g * g) (f * f) := fun h => by unfold lspF; rw [if_neg (by omega), e1]; rfl
  have hln : Nf rc.dusk rc.dawn rc.start p q ≤ 0 → lspF (sqd l rc) rc.start rc.close rc.dusk rc.dawn p q = .non := fun h => lspF_non (.inr h)
  generalize lspF (sqd l rc) rc.start rc.close rc.dusk rc.dawn p q = X at *
  generalize Nf rc.dusk rc.dawn rc.start p q = N at *
  unfold fpv
  try simp -dsimp only [at0, at1, at2, at3, at4, at5, at6, wp_fn, s_nil, s_brk, s_cnt, s_expr, s_ret, s_retN, s_if, s_asn, s_par, s_asg, g_nm, g_nil, g_cons, g_tupT, g_subW, w_v0, w_vS, w_c, w_op, w_un, w_anil, w_acons, w_tup, w_lst, w_call, w_callU, w_isi, w_meth, w_tru, w_bool, w_notS, w_andS, w_orS, w_ifx, w_andV, w_orV, w_notV, w_chain, wp_ok, wp_bad, wp_some, wp_none, wp_liftif, wp_if, asB_b, wp_noex, add_ii, sub_ii, mul_ii, fdiv_ii, mod_ii, pow_ii, neg_i, cmp_ii, lt_ii, le_ii, gt_ii, ge_ii, le_cc, muls_ii, muls_si, ins_cs, iadd_ii, isub_ii, w_onone, w_osome, w_sl, sl_s, sl_t, s_aug, eq_ss, len_s, ix_s, add_ss, str_s, tuple_t, list_t, is_n, not_n, non_n, non_i, non_b, non_s, non_t, non_r, abs_i, max_ii, min_ii, int_i, int_b, gcd_ii, len_t, ix_t, eq_v, ne_v, eq_ii, eq_bb, eq_nn, eq_in, eq_ni, iv_n_list, iv_n_tuple, iv_n_bool, iv_n_str, iv_n_int, okt_n, iv_b_list, iv_b_tuple, iv_b_bool, iv_b_str, iv_b_int, okt_b, iv_i_list, iv_i_tuple, iv_i_bool, iv_i_str, iv_i_int, okt_i, iv_s_list, iv_s_tuple, iv_s_bool, iv_s_str, iv_s_int, okt_s, iv_t_list, iv_t_tuple, iv_t_bool, iv_t_str, iv_t_int, okt_t, iv_r_list, iv_r_tuple, iv_r_bool, iv_r_str, iv_r_int, tru_b, tru_i, tru_n, tru_t, Option.map_some, Option.map_none, List.map_cons, List.map_nil, List.length_cons, List.length_nil, List.set_cons_zero, List.set_cons_succ, List.cons_append, List.nil_append, List.replicate, Nat.reduceAdd, Nat.reduceSub, Nat.reduceLeDiff, true_and, and_true, decide_eq_true_eq, reduceIte, Bool.false_eq_true, Bool.not_true, Bool.not_false, decide_true, decide_false]
  have f0 : N ≤ 0 → f = 0 := fun h => by
    have h1 : f * q = 0 := by rw [e3, show N = 0 by omega, Int.zero_mul]
    exact (Int.mul_eq_zero.mp h1).resolve_right (by omega)
  have f1 : 0 < N → 0 < f := fun h => sq_fact h hq gp e3
  refine s_cut (mid := fun l' m' => l' = [some (.tup [.tup (L.map Loft.pv), .tup (B.map Bird.pv), .tup (R.map Race.pv)]), some (.int (i : Nat)), some (.int t), some (.tup [.int p, .int q]), some (.tup [.int f, .int g]), none, none] ∧ m' = m ∧ 0 < N) ?_ ?_
  · try simp -dsimp only [at0, at1, at2, at3, at4, at5, at6, wp_fn, s_nil, s_brk, s_cnt, s_expr, s_ret, s_retN, s_if, s_asn, s_par, s_asg, g_nm, g_nil, g_cons, g_tupT, g_subW, w_v0, w_vS, w_c, w_op, w_un, w_anil, w_acons, w_tup, w_lst, w_call, w_callU, w_isi, w_meth, w_tru, w_bool, w_notS, w_andS, w_orS, w_ifx, w_andV, w_orV, w_notV, w_chain, wp_ok, wp_bad, wp_some, wp_none, wp_liftif, wp_if, asB_b, wp_noex, add_ii, sub_ii, mul_ii, fdiv_ii, mod_ii, pow_ii, neg_i, cmp_ii, lt_ii, le_ii, gt_ii, ge_ii, le_cc, muls_ii, muls_si, ins_cs, iadd_ii, isub_ii, w_onone, w_osome, w_sl, sl_s, sl_t, s_aug, eq_ss, len_s, ix_s, add_ss, str_s, tuple_t, list_t, is_n, not_n, non_n, non_i, non_b, non_s, non_t, non_r, abs_i, max_ii, min_ii, int_i, int_b, gcd_ii, len_t, ix_t, eq_v, ne_v, eq_ii, eq_bb, eq_nn, eq_in, eq_ni, iv_n_list, iv_n_tuple, iv_n_bool, iv_n_str, iv_n_int, okt_n, iv_b_list, iv_b_tuple, iv_b_bool, iv_b_str, iv_b_int, okt_b, iv_i_list, iv_i_tuple, iv_i_bool, iv_i_str, iv_i_int, okt_i, iv_s_list, iv_s_tuple, iv_s_bool, iv_s_str, iv_s_int, okt_s, iv_t_list, iv_t_tuple, iv_t_bool, iv_t_str, iv_t_int, okt_t, iv_r_list, iv_r_tuple, iv_r_bool, iv_r_str, iv_r_int, tru_b, tru_i, tru_n, tru_t, Option.map_some, Option.map_none, List.map_cons, List.map_nil, List.length_cons, List.length_nil, List.set_cons_zero, List.set_cons_succ, List.cons_append, List.nil_append, List.replicate, Nat.reduceAdd, Nat.reduceSub, Nat.reduceLeDiff, true_and, and_true, decide_eq_true_eq, reduceIte, Bool.false_eq_true, Bool.not_true, Bool.not_false, decide_true, decide_false]
    by_cases c : f ≤ 0
    · rw [if_pos c]
      try simp -dsimp only [at0, at1, at2, at3, at4, at5, at6, wp_fn, s_nil, s_brk, s_cnt, s_expr, s_ret, s_retN, s_if, s_asn, s_par, s_asg, g_nm, g_nil, g_cons, g_tupT, g_subW, w_v0, w_vS, w_c, w_op, w_un, w_anil, w_acons, w_tup, w_lst, w_call, w_callU, w_isi, w_meth, w_tru, w_bool, w_notS, w_andS, w_orS, w_ifx, w_andV, w_orV, w_notV, w_chain, wp_ok, wp_bad, wp_some, wp_none, wp_liftif, wp_if, asB_b, wp_noex, add_ii, sub_ii, mul_ii, fdiv_ii, mod_ii, pow_ii, neg_i, cmp_ii, lt_ii, le_ii, gt_ii, ge_ii, le_cc, muls_ii, muls_si, ins_cs, iadd_ii, isub_ii, w_onone, w_osome, w_sl, sl_s, sl_t, s_aug, eq_ss, len_s, ix_s, add_ss, str_s, tuple_t, list_t, is_n, not_n, non_n, non_i, non_b, non_s, non_t, non_r, abs_i, max_ii, min_ii, int_i, int_b, gcd_ii, len_t, ix_t, eq_v, ne_v, eq_ii, eq_bb, eq_nn, eq_in, eq_ni, iv_n_list, iv_n_tuple, iv_n_bool, iv_n_str, iv_n_int, okt_n, iv_b_list, iv_b_tuple, iv_b_bool, iv_b_str, iv_b_int, okt_b, iv_i_list, iv_i_tuple, iv_i_bool, iv_i_str, iv_i_int, okt_i, iv_s_list, iv_s_tuple, iv_s_bool, iv_s_str, iv_s_int, okt_s, iv_t_list, iv_t_tuple, iv_t_bool, iv_t_str, iv_t_int, okt_t, iv_r_list, iv_r_tuple, iv_r_bool, iv_r_str, iv_r_int, tru_b, tru_i, tru_n, tru_t, Option.map_some, Option.map_none, List.map_cons, List.map_nil, List.length_cons, List.length_nil, List.set_cons_zero, List.set_cons_succ, List.cons_append, List.nil_append, List.replicate, Nat.reduceAdd, Nat.reduceSub, Nat.reduceLeDiff, true_and, and_true, decide_eq_true_eq, reduceIte, Bool.false_eq_true, Bool.not_true, Bool.not_false, decide_true, decide_false]
      have hn0 : N ≤ 0 := Int.not_lt.mp fun h => by have := f1 h; omega
      exact ⟨(hln hn0).symm, Gr.refl⟩
    · rw [if_neg c]
      by_cases h : 0 < N
      · exact h
      · exact absurd (f0 (by omega)) (by omega)
  rintro _ _ ⟨rfl, rfl, hN0⟩
  have fp := f1 hN0
  have hfN : f ≤ N := by omega
  have hNb : N ≤ 9999 * 1000000000 := by
    have : 9999 * q ≤ 9999 * 1000000000 := by omega
    omega
  rw [s_seq]
  try simp -dsimp only [at0, at1, at2, at3, at4, at5, at6, wp_fn, s_nil, s_brk, s_cnt, s_expr, s_ret, s_retN, s_if, s_asn, s_par, s_asg, g_nm, g_nil, g_cons, g_tupT, g_subW, w_v0, w_vS, w_c, w_op, w_un, w_anil, w_acons, w_tup, w_lst, w_call, w_callU, w_isi, w_meth, w_tru, w_bool, w_notS, w_andS, w_orS, w_ifx, w_andV, w_orV, w_notV, w_chain, wp_ok, wp_bad, wp_some, wp_none, wp_liftif, wp_if, asB_b, wp_noex, add_ii, sub_ii, mul_ii, fdiv_ii, mod_ii, pow_ii, neg_i, cmp_ii, lt_ii, le_ii, gt_ii, ge_ii, le_cc, muls_ii, muls_si, ins_cs, iadd_ii, isub_ii, w_onone, w_osome, w_sl, sl_s, sl_t, s_aug, eq_ss, len_s, ix_s, add_ss, str_s, tuple_t, list_t, is_n, not_n, non_n, non_i, non_b, non_s, non_t, non_r, abs_i, max_ii, min_ii, int_i, int_b, gcd_ii, len_t, ix_t, eq_v, ne_v, eq_ii, eq_bb, eq_nn, eq_in, eq_ni, iv_n_list, iv_n_tuple, iv_n_bool, iv_n_str, iv_n_int, okt_n, iv_b_list, iv_b_tuple, iv_b_bool, iv_b_str, iv_b_int, okt_b, iv_i_list, iv_i_tuple, iv_i_bool, iv_i_str, iv_i_int, okt_i, iv_s_list, iv_s_tuple, iv_s_bool, iv_s_str, iv_s_int, okt_s, iv_t_list, iv_t_tuple, iv_t_bool, iv_t_str, iv_t_int, okt_t, iv_r_list, iv_r_tuple, iv_r_bool, iv_r_str, iv_r_int, tru_b, tru_i, tru_n, tru_t, Option.map_some, Option.map_none, List.map_cons, List.map_nil, List.length_cons, List.length_nil, List.set_cons_zero, List.set_cons_succ, List.cons_append, List.nil_append, List.replicate, Nat.reduceAdd, Nat.reduceSub, Nat.reduceLeDiff, true_and, and_true, decide_eq_true_eq, reduceIte, Bool.false_eq_true, Bool.not_true, Bool.not_false, decide_true, decide_false]
  refine loft_lc (L := L) (B := B) (R := R) (t := t) (c := 2) (by omega) (by simp) rfl rfl (by decide) (by decide) (List.mem_of_getElem? hk) ht hC.bn fun m2 G2 hm2 => ?_
  try simp -dsimp only [at0, at1, at2, at3, at4, at5, at6, wp_fn, s_nil, s_brk, s_cnt, s_expr, s_ret, s_retN, s_if, s_asn, s_par, s_asg, g_nm, g_nil, g_cons, g_tupT, g_subW, w_v0, w_vS, w_c, w_op, w_un, w_anil, w_acons, w_tup, w_lst, w_call, w_callU, w_isi, w_meth, w_tru, w_bool, w_notS, w_andS, w_orS, w_ifx, w_andV, w_orV, w_notV, w_chain, wp_ok, wp_bad, wp_some, wp_none, wp_liftif, wp_if, asB_b, wp_noex, add_ii, sub_ii, mul_ii, fdiv_ii, mod_ii, pow_ii, neg_i, cmp_ii, lt_ii, le_ii, gt_ii, ge_ii, le_cc, muls_ii, muls_si, ins_cs, iadd_ii, isub_ii, w_onone, w_osome, w_sl, sl_s, sl_t, s_aug, eq_ss, len_s, ix_s, add_ss, str_s, tuple_t, list_t, is_n, not_n, non_n, non_i, non_b, non_s, non_t, non_r, abs_i, max_ii, min_ii, int_i, int_b, gcd_ii, len_t, ix_t, eq_v, ne_v, eq_ii, eq_bb, eq_nn, eq_in, eq_ni, iv_n_list, iv_n_tuple, iv_n_bool, iv_n_str, iv_n_int, okt_n, iv_b_list, iv_b_tuple, iv_b_bool, iv_b_str, iv_b_int, okt_b, iv_i_list, iv_i_tuple, iv_i_bool, iv_i_str, iv_i_int, okt_i, iv_s_list, iv_s_tuple, iv_s_bool, iv_s_str, iv_s_int, okt_s, iv_t_list, iv_t_tuple, iv_t_bool, iv_t_str, iv_t_int, okt_t, iv_r_list, iv_r_tuple, iv_r_bool, iv_r_str, iv_r_int, tru_b, tru_i, tru_n, tru_t, Option.map_some, Option.map_none, List.map_cons, List.map_nil, List.length_cons, List.length_nil, List.set_cons_zero, List.set_cons_succ, List.cons_append, List.nil_append, List.replicate, Nat.reduceAdd, Nat.reduceSub, Nat.reduceLeDiff, true_and, and_true, decide_eq_true_eq, reduceIte, Bool.false_eq_true, Bool.not_true, Bool.not_false, decide_true, decide_false]
  rw [ix_r (seq_of_lst hm2), at0]
  try simp -dsimp only [at0, at1, at2, at3, at4, at5, at6, wp_fn, s_nil, s_brk, s_cnt, s_expr, s_ret, s_retN, s_if, s_asn, s_par, s_asg, g_nm, g_nil, g_cons, g_tupT, g_subW, w_v0, w_vS, w_c, w_op, w_un, w_anil, w_acons, w_tup, w_lst, w_call, w_callU, w_isi, w_meth, w_tru, w_bool, w_notS, w_andS, w_orS, w_ifx, w_andV, w_orV, w_notV, w_chain, wp_ok, wp_bad, wp_some, wp_none, wp_liftif, wp_if, asB_b, wp_noex, add_ii, sub_ii, mul_ii, fdiv_ii, mod_ii, pow_ii, neg_i, cmp_ii, lt_ii, le_ii, gt_ii, ge_ii, le_cc, muls_ii, muls_si, ins_cs, iadd_ii, isub_ii, w_onone, w_osome, w_sl, sl_s, sl_t, s_aug, eq_ss, len_s, ix_s, add_ss, str_s, tuple_t, list_t, is_n, not_n, non_n, non_i, non_b, non_s, non_t, non_r, abs_i, max_ii, min_ii, int_i, int_b, gcd_ii, len_t, ix_t, eq_v, ne_v, eq_ii, eq_bb, eq_nn, eq_in, eq_ni, iv_n_list, iv_n_tuple, iv_n_bool, iv_n_str, iv_n_int, okt_n, iv_b_list, iv_b_tuple, iv_b_bool, iv_b_str, iv_b_int, okt_b, iv_i_list, iv_i_tuple, iv_i_bool, iv_i_str, iv_i_int, okt_i, iv_s_list, iv_s_tuple, iv_s_bool, iv_s_str, iv_s_int, okt_s, iv_t_list, iv_t_tuple, iv_t_bool, iv_t_str, iv_t_int, okt_t, iv_r_list, iv_r_tuple, iv_r_bool, iv_r_str, iv_r_int, tru_b, tru_i, tru_n, tru_t, Option.map_some, Option.map_none, List.map_cons, List.map_nil, List.length_cons, List.length_nil, List.set_cons_zero, List.set_cons_succ, List.cons_append, List.nil_append, List.replicate, Nat.reduceAdd, Nat.reduceSub, Nat.reduceLeDiff, true_and, and_true, decide_eq_true_eq, reduceIte, Bool.false_eq_true, Bool.not_true, Bool.not_false, decide_true, decide_false]
  rw [elf]
  refine (hsq _).mono ?_
  rintro _ m2 ⟨rfl, rfl⟩
  try simp -dsimp only [at0, at1, at2, at3, at4, at5, at6, wp_fn, s_nil, s_brk, s_cnt, s_expr, s_ret, s_retN, s_if, s_asn, s_par, s_asg, g_nm, g_nil, g_cons, g_tupT, g_subW, w_v0, w_vS, w_c, w_op, w_un, w_anil, w_acons, w_tup, w_lst, w_call, w_callU, w_isi, w_meth, w_tru, w_bool, w_notS, w_andS, w_orS, w_ifx, w_andV, w_orV, w_notV, w_chain, wp_ok, wp_bad, wp_some, wp_none, wp_liftif, wp_if, asB_b, wp_noex, add_ii, sub_ii, mul_ii, fdiv_ii, mod_ii, pow_ii, neg_i, cmp_ii, lt_ii, le_ii, gt_ii, ge_ii, le_cc, muls_ii, muls_si, ins_cs, iadd_ii, isub_ii, w_onone, w_osome, w_sl, sl_s, sl_t, s_aug, eq_ss, len_s, ix_s, add_ss, str_s, tuple_t, list_t, is_n, not_n, non_n, non_i, non_b, non_s, non_t, non_r, abs_i, max_ii, min_ii, int_i, int_b, gcd_ii, len_t, ix_t, eq_v, ne_v, eq_ii, eq_bb, eq_nn, eq_in, eq_ni, iv_n_list, iv_n_tuple, iv_n_bool, iv_n_str, iv_n_int, okt_n, iv_b_list, iv_b_tuple, iv_b_bool, iv_b_str, iv_b_int, okt_b, iv_i_list, iv_i_tuple, iv_i_bool, iv_i_str, iv_i_int, okt_i, iv_s_list, iv_s_tuple, iv_s_bool, iv_s_str, iv_s_int, okt_s, iv_t_list, iv_t_tuple, iv_t_bool, iv_t_str, iv_t_int, okt_t, iv_r_list, iv_r_tuple, iv_r_bool, iv_r_str, iv_r_int, tru_b, tru_i, tru_n, tru_t, Option.map_some, Option.map_none, List.map_cons, List.map_nil, List.length_cons, List.length_nil, List.set_cons_zero, List.set_cons_succ, List.cons_append, List.nil_append, List.replicate, Nat.reduceAdd, Nat.reduceSub, Nat.reduceLeDiff, true_and, and_true, decide_eq_true_eq, reduceIte, Bool.false_eq_true, Bool.not_true, Bool.not_false, decide_true, decide_false]
  rw [show (rc.x - l.x) * (rc.x - l.x) + (rc.y - l.y) * (rc.y - l.y) = sqd l rc from rfl, if_pos (.inl (.inr (by omega)))]
  try simp -dsimp only [at0, at1, at2, at3, at4, at5, at6, wp_fn, s_nil, s_brk, s_cnt, s_expr, s_ret, s_retN, s_if, s_asn, s_par, s_asg, g_nm, g_nil, g_cons, g_tupT, g_subW, w_v0, w_vS, w_c, w_op, w_un, w_anil, w_acons, w_tup, w_lst, w_call, w_callU, w_isi, w_meth, w_tru, w_bool, w_notS, w_andS, w_orS, w_ifx, w_andV, w_orV, w_notV, w_chain, wp_ok, wp_bad, wp_some, wp_none, wp_liftif, wp_if, asB_b, wp_noex, add_ii, sub_ii, mul_ii, fdiv_ii, mod_ii, pow_ii, neg_i, cmp_ii, lt_ii, le_ii, gt_ii, ge_ii, le_cc, muls_ii, muls_si, ins_cs, iadd_ii, isub_ii, w_onone, w_osome, w_sl, sl_s, sl_t, s_aug, eq_ss, len_s, ix_s, add_ss, str_s, tuple_t, list_t, is_n, not_n, non_n, non_i, non_b, non_s, non_t, non_r, abs_i, max_ii, min_ii, int_i, int_b, gcd_ii, len_t, ix_t, eq_v, ne_v, eq_ii, eq_bb, eq_nn, eq_in, eq_ni, iv_n_list, iv_n_tuple, iv_n_bool, iv_n_str, iv_n_int, okt_n, iv_b_list, iv_b_tuple, iv_b_bool, iv_b_str, iv_b_int, okt_b, iv_i_list, iv_i_tuple, iv_i_bool, iv_i_str, iv_i_int, okt_i, iv_s_list, iv_s_tuple, iv_s_bool, iv_s_str, iv_s_int, okt_s, iv_t_list, iv_t_tuple, iv_t_bool, iv_t_str, iv_t_int, okt_t, iv_r_list, iv_r_tuple, iv_r_bool, iv_r_str, iv_r_int, tru_b, tru_i, tru_n, tru_t, Option.map_some, Option.map_none, List.map_cons, List.map_nil, List.length_cons, List.length_nil, List.set_cons_zero, List.set_cons_succ, List.cons_append, List.nil_append, List.replicate, Nat.reduceAdd, Nat.reduceSub, Nat.reduceLeDiff, true_and, and_true, decide_eq_true_eq, reduceIte, Bool.false_eq_true, Bool.not_true, Bool.not_false, decide_true, decide_false]
  rw [if_pos (.inl (.inr (by omega)))]
  try simp -dsimp only [at0, at1, at2, at3, at4, at5, at6, wp_fn, s_nil, s_brk, s_cnt, s_expr, s_ret, s_retN, s_if, s_asn, s_par, s_asg, g_nm, g_nil, g_cons, g_tupT, g_subW, w_v0, w_vS, w_c, w_op, w_un, w_anil, w_acons, w_tup, w_lst, w_call, w_callU, w_isi, w_meth, w_tru, w_bool, w_notS, w_andS, w_orS, w_ifx, w_andV, w_orV, w_notV, w_chain, wp_ok, wp_bad, wp_some, wp_none, wp_liftif, wp_if, asB_b, wp_noex, add_ii, sub_ii, mul_ii, fdiv_ii, mod_ii, pow_ii, neg_i, cmp_ii, lt_ii, le_ii, gt_ii, ge_ii, le_cc, muls_ii, muls_si, ins_cs, iadd_ii, isub_ii, w_onone, w_osome, w_sl, sl_s, sl_t, s_aug, eq_ss, len_s, ix_s, add_ss, str_s, tuple_t, list_t, is_n, not_n, non_n, non_i, non_b, non_s, non_t, non_r, abs_i, max_ii, min_ii, int_i, int_b, gcd_ii, len_t, ix_t, eq_v, ne_v, eq_ii, eq_bb, eq_nn, eq_in, eq_ni, iv_n_list, iv_n_tuple, iv_n_bool, iv_n_str, iv_n_int, okt_n, iv_b_list, iv_b_tuple, iv_b_bool, iv_b_str, iv_b_int, okt_b, iv_i_list, iv_i_tuple, iv_i_bool, iv_i_str, iv_i_int, okt_i, iv_s_list, iv_s_tuple, iv_s_bool, iv_s_str, iv_s_int, okt_s, iv_t_list, iv_t_tuple, iv_t_bool, iv_t_str, iv_t_int, okt_t, iv_r_list, iv_r_tuple, iv_r_bool, iv_r_str, iv_r_int, tru_b, tru_i, tru_n, tru_t, Option.map_some, Option.map_none, List.map_cons, List.map_nil, List.length_cons, List.length_nil, List.set_cons_zero, List.set_cons_succ, List.cons_append, List.nil_append, List.replicate, Nat.reduceAdd, Nat.reduceSub, Nat.reduceLeDiff, true_and, and_true, decide_eq_true_eq, reduceIte, Bool.false_eq_true, Bool.not_true, Bool.not_false, decide_true, decide_false]
  rw [if_pos (.inl (.inr (by omega)))]
  try simp -dsimp only [at0, at1, at2, at3, at4, at5, at6, wp_fn, s_nil, s_brk, s_cnt, s_expr, s_ret, s_retN, s_if, s_asn, s_par, s_asg, g_nm, g_nil, g_cons, g_tupT, g_subW, w_v0, w_vS, w_c, w_op, w_un, w_anil, w_acons, w_tup, w_lst, w_call, w_callU, w_isi, w_meth, w_tru, w_bool, w_notS, w_andS, w_orS, w_ifx, w_andV, w_orV, w_notV, w_chain, wp_ok, wp_bad, wp_some, wp_none, wp_liftif, wp_if, asB_b, wp_noex, add_ii, sub_ii, mul_ii, fdiv_ii, mod_ii, pow_ii, neg_i, cmp_ii, lt_ii, le_ii, gt_ii, ge_ii, le_cc, muls_ii, muls_si, ins_cs, iadd_ii, isub_ii, w_onone, w_osome, w_sl, sl_s, sl_t, s_aug, eq_ss, len_s, ix_s, add_ss, str_s, tuple_t, list_t, is_n, not_n, non_n, non_i, non_b, non_s, non_t, non_r, abs_i, max_ii, min_ii, int_i, int_b, gcd_ii, len_t, ix_t, eq_v, ne_v, eq_ii, eq_bb, eq_nn, eq_in, eq_ni, iv_n_list, iv_n_tuple, iv_n_bool, iv_n_str, iv_n_int, okt_n, iv_b_list, iv_b_tuple, iv_b_bool, iv_b_str, iv_b_int, okt_b, iv_i_list, iv_i_tuple, iv_i_bool, iv_i_str, iv_i_int, okt_i, iv_s_list, iv_s_tuple, iv_s_bool, iv_s_str, iv_s_int, okt_s, iv_t_list, iv_t_tuple, iv_t_bool, iv_t_str, iv_t_int, okt_t, iv_r_list, iv_r_tuple, iv_r_bool, iv_r_str, iv_r_int, tru_b, tru_i, tru_n, tru_t, Option.map_some, Option.map_none, List.map_cons, List.map_nil, List.length_cons, List.length_nil, List.set_cons_zero, List.set_cons_succ, List.cons_append, List.nil_append, List.replicate, Nat.reduceAdd, Nat.reduceSub, Nat.reduceLeDiff, true_and, and_true, decide_eq_true_eq, reduceIte, Bool.false_eq_true, Bool.not_true, Bool.not_false, decide_true, decide_false]
  exact ⟨(hlv (by omega)).symm, G2⟩
/-! ## the program's own: who can be ahead -/
theorem lowv_one {p : Int} : lowv p 1 = fpv p 1 := lowv_eq (by decide) (Fq.one p) (by omega)
/-- the speed of a bird that comes home at a time -/
def spH (L : List Loft) (rc : Race) (bd : Bird) (p q : Int) : PV := spv (sqd (loftB L bd) rc) rc.start rc.close rc.dusk rc.dawn p q
theorem home_ok {m : MH} {L : List Loft} {B : List Bird} {R : List Race} {i k : Nat} {rc : Race} {bd : Bird} {t p q : Int} (hC : ClubG L B R) (hr : R[i]? = some rc) (hk : B[k]? = some bd) (ht : bd.ring = t) (hq : 0 < q) (hq2 : q ≤ 9999) (hp : 0 ≤ p) (hp2 : p ≤ 9999 * q) :
    WP (f_speed_home [clubPV L B R, .int (i : Nat), .int t, fpv p q] m) (fun x m' => x = spH L rc bd p q ∧ m' = m) NoE := by
  have ro := hC.rx _ (List.mem_of_getElem? hr)
  have bo := fun (m : MH) => birdof_ok (m := m) (L := L) (R := R) hk ht hC.bn
  obtain ⟨j, e1, e2, lo⟩ := loftB_ok hC (List.mem_of_getElem? hk)
  have sp := fun (m : MH) => spat_ok (m := m) (B := B) (p := p) (q := q) hr e2 ro lo hq hq2 hp hp2
  unfold spH
  unfold f_speed_home b_speed_home clubPV fpv at *
  try simp -dsimp only [at0, at1, at2, at3, at4, at5, at6, wp_fn, s_nil, s_brk, s_cnt, s_expr, s_ret, s_retN, s_if, s_asn, s_par, s_asg, g_nm, g_nil, g_cons, g_tupT, g_subW, w_v0, w_vS, w_c, w_op, w_un, w_anil, w_acons, w_tup, w_lst, w_call, w_callU, w_isi, w_meth, w_tru, w_bool, w_notS, w_andS, w_orS, w_ifx, w_andV, w_orV, w_notV, w_chain, wp_ok, wp_bad, wp_some, wp_none, wp_liftif, wp_if, asB_b, wp_noex, add_ii, sub_ii, mul_ii, fdiv_ii, mod_ii, pow_ii, neg_i, cmp_ii, lt_ii, le_ii, gt_ii, ge_ii, le_cc, muls_ii, muls_si, ins_cs, iadd_ii, isub_ii, w_onone, w_osome, w_sl, sl_s, sl_t, s_aug, eq_ss, len_s, ix_s, add_ss, str_s, tuple_t, list_t, is_n, not_n, non_n, non_i, non_b, non_s, non_t, non_r, abs_i, max_ii, min_ii, int_i, int_b, gcd_ii, len_t, ix_t, eq_v, ne_v, eq_ii, eq_bb, eq_nn, eq_in, eq_ni, iv_n_list, iv_n_tuple, iv_n_bool, iv_n_str, iv_n_int, okt_n, iv_b_list, iv_b_tuple, iv_b_bool, iv_b_str, iv_b_int, okt_b, iv_i_list, iv_i_tuple, iv_i_bool, iv_i_str, iv_i_int, okt_i, iv_s_list, iv_s_tuple, iv_s_bool, iv_s_str, iv_s_int, okt_s, iv_t_list, iv_t_tuple, iv_t_bool, iv_t_str, iv_t_int, okt_t, iv_r_list, iv_r_tuple, iv_r_bool, iv_r_str, iv_r_int, tru_b, tru_i, tru_n, tru_t, Option.map_some, Option.map_none, List.map_cons, List.map_nil, List.length_cons, List.length_nil, List.set_cons_zero, List.set_cons_succ, List.cons_append, List.nil_append, List.replicate, Nat.reduceAdd, Nat.reduceSub, Nat.reduceLeDiff, true_and, and_true, decide_eq_true_eq, reduceIte, Bool.false_eq_true, Bool.not_true, Bool.not_false, decide_true, decide_false]
  refine (bo _).mono ?_
  rintro _ m ⟨rfl, rfl⟩
  try simp -dsimp only [at_map hk, Bird.pv, at0, at1, at2, at3, at4, at5, at6, wp_fn, s_nil, s_brk, s_cnt, s_expr, s_ret, s_retN, s_if, s_asn, s_par, s_asg, g_nm, g_nil, g_cons, g_tupT, g_subW, w_v0, w_vS, w_c, w_op, w_un, w_anil, w_acons, w_tup, w_lst, w_call, w_callU, w_isi, w_meth, w_tru, w_bool, w_notS, w_andS, w_orS, w_ifx, w_andV, w_orV, w_notV, w_chain, wp_ok, wp_bad, wp_some, wp_none, wp_liftif, wp_if, asB_b, wp_noex, add_ii, sub_ii, mul_ii, fdiv_ii, mod_ii, pow_ii, neg_i, cmp_ii, lt_ii, le_ii, gt_ii, ge_ii, le_cc, muls_ii, muls_si, ins_cs, iadd_ii, isub_ii, w_onone, w_osome, w_sl, sl_s, sl_t, s_aug, eq_ss, len_s, ix_s, add_ss, str_s, tuple_t, list_t, is_n, not_n, non_n, non_i, non_b, non_s, non_t, non_r, abs_i, max_ii, min_ii, int_i, int_b, gcd_ii, len_t, ix_t, eq_v, ne_v, eq_ii, eq_bb, eq_nn, eq_in, eq_ni, iv_n_list, iv_n_tuple, iv_n_bool, iv_n_str, iv_n_int, okt_n, iv_b_list, iv_b_tuple, iv_b_bool, iv_b_str, iv_b_int, okt_b, iv_i_list, iv_i_tuple, iv_i_bool, iv_i_str, iv_i_int, okt_i, iv_s_list, iv_s_tuple, iv_s_bool, iv_s_str, iv_s_int, okt_s, iv_t_list, iv_t_tuple, iv_t_bool, iv_t_str, iv_t_int, okt_t, iv_r_list, iv_r_tuple, iv_r_bool, iv_r_str, iv_r_int, tru_b, tru_i, tru_n, tru_t, Option.map_some, Option.map_none, List.map_cons, List.map_nil, List.length_cons, List.length_nil, List.set_cons_zero, List.set_cons_succ, List.cons_append, List.nil_append, List.replicate, Nat.reduceAdd, Nat.reduceSub, Nat.reduceLeDiff, true_and, and_true, decide_eq_true_eq, reduceIte, Bool.false_eq_true, Bool.not_true, Bool.not_false, decide_true, decide_false]
  rw [e1]
  refine (sp _).mono ?_
  rintro _ m ⟨rfl, rfl⟩
  try simp -dsimp only [at0, at1, at2, at3, at4, at5, at6, wp_fn, s_nil, s_brk, s_cnt, s_expr, s_ret, s_retN, s_if, s_asn, s_par, s_asg, g_nm, g_nil, g_cons, g_tupT, g_subW, w_v0, w_vS, w_c, w_op, w_un, w_anil, w_acons, w_tup, w_lst, w_call, w_callU, w_isi, w_meth, w_tru, w_bool, w_notS, w_andS, w_orS, w_ifx, w_andV, w_orV, w_notV, w_chain, wp_ok, wp_bad, wp_some, wp_none, wp_liftif, wp_if, asB_b, wp_noex, add_ii, sub_ii, mul_ii, fdiv_ii, mod_ii, pow_ii, neg_i, cmp_ii, lt_ii, le_ii, gt_ii, ge_ii, le_cc, muls_ii, muls_si, ins_cs, iadd_ii, isub_ii, w_onone, w_osome, w_sl, sl_s, sl_t, s_aug, eq_ss, len_s, ix_s, add_ss, str_s, tuple_t, list_t, is_n, not_n, non_n, non_i, non_b, non_s, non_t, non_r, abs_i, max_ii, min_ii, int_i, int_b, gcd_ii, len_t, ix_t, eq_v, ne_v, eq_ii, eq_bb, eq_nn, eq_in, eq_ni, iv_n_list, iv_n_tuple, iv_n_bool, iv_n_str, iv_n_int, okt_n, iv_b_list, iv_b_tuple, iv_b_bool, iv_b_str, iv_b_int, okt_b, iv_i_list, iv_i_tuple, iv_i_bool, iv_i_str, iv_i_int, okt_i, iv_s_list, iv_s_tuple, iv_s_bool, iv_s_str, iv_s_int, okt_s, iv_t_list, iv_t_tuple, iv_t_bool, iv_t_str, iv_t_int, okt_t, iv_r_list, iv_r_tuple, iv_r_bool, iv_r_str, iv_r_int, tru_b, tru_i, tru_n, tru_t, Option.map_some, Option.map_none, List.map_cons, List.map_nil, List.length_cons, List.length_nil, List.set_cons_zero, List.set_cons_succ, List.cons_append, List.nil_append, List.replicate, Nat.reduceAdd, Nat.reduceSub, Nat.reduceLeDiff, true_and, and_true, decide_eq_true_eq, reduceIte, Bool.false_eq_true, Bool.not_true, Bool.not_false, decide_true, decide_false]
theorem ccount_ok {m : MH} {L : List Loft} {B : List Bird} {R : List Race} {i : Nat} {rc : Race} (hr : R[i]? = some rc) (ro : RaceOk L rc) :
    WP (f_can_count [clubPV L B R, .int (i : Nat)] m) (fun x m' => x = .bl (decide (0 < Nf rc.dusk rc.dawn rc.start rc.close 1)) ∧ m' = m) NoE := by
  have hD : 0 ≤ rc.dusk ∧ rc.dusk ≤ 1439 := by have := ro.dusk; omega
  have hW : 0 ≤ rc.dawn ∧ rc.dawn ≤ 1439 := by have := ro.dawn; omega
  have hfl := fun (m : MH) => flight_ok (s := rc.start) (p := rc.close) (q := 1) (m := m) (x1 := .str rc.name) (x2 := .int rc.x) (x3 := .int rc.y) (x5 := .int rc.close) (by decide) (by decide) hD hW
  have il := fun (r : Int) (m : MH) => isless_ok (p := 0) (q := 1) (r := r) (s := 1) (m := m) (by decide) (by decide)
  unfold f_can_count b_can_count clubPV fpv at *
  try simp -dsimp only [at0, at1, at2, at3, at4, at5, at6, wp_fn, s_nil, s_brk, s_cnt, s_expr, s_ret, s_retN, s_if, s_asn, s_par, s_asg, g_nm, g_nil, g_cons, g_tupT, g_subW, w_v0, w_vS, w_c, w_op, w_un, w_anil, w_acons, w_tup, w_lst, w_call, w_callU, w_isi, w_meth, w_tru, w_bool, w_notS, w_andS, w_orS, w_ifx, w_andV, w_orV, w_notV, w_chain, wp_ok, wp_bad, wp_some, wp_none, wp_liftif, wp_if, asB_b, wp_noex, add_ii, sub_ii, mul_ii, fdiv_ii, mod_ii, pow_ii, neg_i, cmp_ii, lt_ii, le_ii, gt_ii, ge_ii, le_cc, muls_ii, muls_si, ins_cs, iadd_ii, isub_ii, w_onone, w_osome, w_sl, sl_s, sl_t, s_aug, eq_ss, len_s, ix_s, add_ss, str_s, tuple_t, list_t, is_n, not_n, non_n, non_i, non_b, non_s, non_t, non_r, abs_i, max_ii, min_ii, int_i, int_b, gcd_ii, len_t, ix_t, eq_v, ne_v, eq_ii, eq_bb, eq_nn, eq_in, eq_ni, iv_n_list, iv_n_tuple, iv_n_bool, iv_n_str, iv_n_int, okt_n, iv_b_list, iv_b_tuple, iv_b_bool, iv_b_str, iv_b_int, okt_b, iv_i_list, iv_i_tuple, iv_i_bool, iv_i_str, iv_i_int, okt_i, iv_s_list, iv_s_tuple, iv_s_bool, iv_s_str, iv_s_int, okt_s, iv_t_list, iv_t_tuple, iv_t_bool, iv_t_str, iv_t_int, okt_t, iv_r_list, iv_r_tuple, iv_r_bool, iv_r_str, iv_r_int, tru_b, tru_i, tru_n, tru_t, Option.map_some, Option.map_none, List.map_cons, List.map_nil, List.length_cons, List.length_nil, List.set_cons_zero, List.set_cons_succ, List.cons_append, List.nil_append, List.replicate, Nat.reduceAdd, Nat.reduceSub, Nat.reduceLeDiff, true_and, and_true, decide_eq_true_eq, reduceIte, Bool.false_eq_true, Bool.not_true, Bool.not_false, decide_true, decide_false]
  rw [s_seq]
  try simp -dsimp only [at_map hr, Race.pv, at0, at1, at2, at3, at4, at5, at6, wp_fn, s_nil, s_brk, s_cnt, s_expr, s_ret, s_retN, s_if, s_asn, s_par, s_asg, g_nm, g_nil, g_cons, g_tupT, g_subW, w_v0, w_vS, w_c, w_op, w_un, w_anil, w_acons, w_tup, w_lst, w_call, w_callU, w_isi, w_meth, w_tru, w_bool, w_notS, w_andS, w_orS, w_ifx, w_andV, w_orV, w_notV, w_chain, wp_ok, wp_bad, wp_some, wp_none, wp_liftif, wp_if, asB_b, wp_noex, add_ii, sub_ii, mul_ii, fdiv_ii, mod_ii, pow_ii, neg_i, cmp_ii, lt_ii, le_ii, gt_ii, ge_ii, le_cc, muls_ii, muls_si, ins_cs, iadd_ii, isub_ii, w_onone, w_osome, w_sl, sl_s, sl_t, s_aug, eq_ss, len_s, ix_s, add_ss, str_s, tuple_t, list_t, is_n, not_n, non_n, non_i, non_b, non_s, non_t, non_r, abs_i, max_ii, min_ii, int_i, int_b, gcd_ii, len_t, ix_t, eq_v, ne_v, eq_ii, eq_bb, eq_nn, eq_in, eq_ni, iv_n_list, iv_n_tuple, iv_n_bool, iv_n_str, iv_n_int, okt_n, iv_b_list, iv_b_tuple, iv_b_bool, iv_b_str, iv_b_int, okt_b, iv_i_list, iv_i_tuple, iv_i_bool, iv_i_str, iv_i_int, okt_i, iv_s_list, iv_s_tuple, iv_s_bool, iv_s_str, iv_s_int, okt_s, iv_t_list, iv_t_tuple, iv_t_bool, iv_t_str, iv_t_int, okt_t, iv_r_list, iv_r_tuple, iv_r_bool, iv_r_str, iv_r_int, tru_b, tru_i, tru_n, tru_t, Option.map_some, Option.map_none, List.map_cons, List.map_nil, List.length_cons, List.length_nil, List.set_cons_zero, List.set_cons_succ, List.cons_append, List.nil_append, List.replicate, Nat.reduceAdd, Nat.reduceSub, Nat.reduceLeDiff, true_and, and_true, decide_eq_true_eq, reduceIte, Bool.false_eq_true, Bool.not_true, Bool.not_false, decide_true, decide_false]
  refine (hfl _).mono ?_
  rintro _ m ⟨rfl, rfl⟩
  unfold flv
  rw [lowv_one]
  unfold fpv
  try simp -dsimp only [at0, at1, at2, at3, at4, at5, at6, wp_fn, s_nil, s_brk, s_cnt, s_expr, s_ret, s_retN, s_if, s_asn, s_par, s_asg, g_nm, g_nil, g_cons, g_tupT, g_subW, w_v0, w_vS, w_c, w_op, w_un, w_anil, w_acons, w_tup, w_lst, w_call, w_callU, w_isi, w_meth, w_tru, w_bool, w_notS, w_andS, w_orS, w_ifx, w_andV, w_orV, w_notV, w_chain, wp_ok, wp_bad, wp_some, wp_none, wp_liftif, wp_if, asB_b, wp_noex, add_ii, sub_ii, mul_ii, fdiv_ii, mod_ii, pow_ii, neg_i, cmp_ii, lt_ii, le_ii, gt_ii, ge_ii, le_cc, muls_ii, muls_si, ins_cs, iadd_ii, isub_ii, w_onone, w_osome, w_sl, sl_s, sl_t, s_aug, eq_ss, len_s, ix_s, add_ss, str_s, tuple_t, list_t, is_n, not_n, non_n, non_i, non_b, non_s, non_t, non_r, abs_i, max_ii, min_ii, int_i, int_b, gcd_ii, len_t, ix_t, eq_v, ne_v, eq_ii, eq_bb, eq_nn, eq_in, eq_ni, iv_n_list, iv_n_tuple, iv_n_bool, iv_n_str, iv_n_int, okt_n, iv_b_list, iv_b_tuple, iv_b_bool, iv_b_str, iv_b_int, okt_b, iv_i_list, iv_i_tuple, iv_i_bool, iv_i_str, iv_i_int, okt_i, iv_s_list, iv_s_tuple, iv_s_bool, iv_s_str, iv_s_int, okt_s, iv_t_list, iv_t_tuple, iv_t_bool, iv_t_str, iv_t_int, okt_t, iv_r_list, iv_r_tuple, iv_r_bool, iv_r_str, iv_r_int, tru_b, tru_i, tru_n, tru_t, Option.map_some, Option.map_none, List.map_cons, List.map_nil, List.length_cons, List.length_nil, List.set_cons_zero, List.set_cons_succ, List.cons_append, List.nil_append, List.replicate, Nat.reduceAdd, Nat.reduceSub, Nat.reduceLeDiff, true_and, and_true, decide_eq_true_eq, reduceIte, Bool.false_eq_true, Bool.not_true, Bool.not_false, decide_true, decide_false]
  refine (il _ _).mono ?_
  rintro _ m ⟨rfl, rfl⟩
  try simp -dsimp only [at0, at1, at2, at3, at4, at5, at6, wp_fn, s_nil, s_brk, s_cnt, s_expr, s_ret, s_retN, s_if, s_asn, s_par, s_asg, g_nm, g_nil, g_cons, g_tupT, g_subW, w_v0, w_vS, w_c, w_op, w_un, w_anil, w_acons, w_tup, w_lst, w_call, w_callU, w_isi, w_meth, w_tru, w_bool, w_notS, w_andS, w_orS, w_ifx, w_andV, w_orV, w_notV, w_chain, wp_ok, wp_bad, wp_some, wp_none, wp_liftif, wp_if, asB_b, wp_noex, add_ii, sub_ii, mul_ii, fdiv_ii, mod_ii, pow_ii, neg_i, cmp_ii, lt_ii, le_ii, gt_ii, ge_ii, le_cc, muls_ii, muls_si, ins_cs, iadd_ii, isub_ii, w_onone, w_osome, w_sl, sl_s, sl_t, s_aug, eq_ss, len_s, ix_s, add_ss, str_s, tuple_t, list_t, is_n, not_n, non_n, non_i, non_b, non_s, non_t, non_r, abs_i, max_ii, min_ii, int_i, int_b, gcd_ii, len_t, ix_t, eq_v, ne_v, eq_ii, eq_bb, eq_nn, eq_in, eq_ni, iv_n_list, iv_n_tuple, iv_n_bool, iv_n_str, iv_n_int, okt_n, iv_b_list, iv_b_tuple, iv_b_bool, iv_b_str, iv_b_int, okt_b, iv_i_list, iv_i_tuple, iv_i_bool, iv_i_str, iv_i_int, okt_i, iv_s_list, iv_s_tuple, iv_s_bool, iv_s_str, iv_s_int, okt_s, iv_t_list, iv_t_tuple, iv_t_bool, iv_t_str, iv_t_int, okt_t, iv_r_list, iv_r_tuple, iv_r_bool, iv_r_str, iv_r_int, tru_b, tru_i, tru_n, tru_t, Option.map_some, Option.map_none, List.map_cons, List.map_nil, List.length_cons, List.length_nil, List.set_cons_zero, List.set_cons_succ, List.cons_append, List.nil_append, List.replicate, Nat.reduceAdd, Nat.reduceSub, Nat.reduceLeDiff, true_and, and_true, decide_eq_true_eq, reduceIte, Bool.false_eq_true, Bool.not_true, Bool.not_false, decide_true, decide_false]
  rw [Int.zero_mul, Int.mul_one]
/-- who can be ahead of a speed a/d -/
def cba (sq s c D W now a d : Int) : Bool := if Nf D W s now 1 ≤ 0 then decide (0 < Nf D W s c 1) else decide (a * (Nf D W s now 1 * Nf D W s now 1) < sq * d)
def cbaB (L : List Loft) (rc : Race) (bd : Bird) (now a d : Int) : Bool := cba (sqd (loftB L bd) rc) rc.start rc.close rc.dusk rc.dawn now a d
theorem spv_now {sq s c D W now : Int} (h1 : s ≤ now) (h2 : now ≤ c) : spv sq s c D W now 1 = if Nf D W s now 1 ≤ 0 then .non else lowv sq (Nf D W s now 1 * Nf D W s now 1) := by
  unfold spv
  rw [if_neg (by omega), Int.mul_one, Int.mul_one]
/-- a speed at a whole minute -/
theorem spv_low {sq N : Int} (hs : 0 ≤ sq) (hs2 : sq ≤ 799840008) (hN : 0 < N) (hN2 : N ≤ 9999) : ∃ u v, lowv sq (N * N) = fpv u v ∧ 0 < v ∧ v ≤ 99980001 ∧ u * (N * N) = sq * v ∧ Fq u v := by
  have hNN := Int.mul_pos hN hN
  have hNN2 : N * N ≤ 9999 * 9999 := Int.mul_le_mul hN2 hN2 (by omega) (by decide)
  obtain ⟨u, v, e1, e2, e3, e4, e5⟩ := lowv_red (p := sq) hNN
  exact ⟨u, v, e1, e2.pos, by omega, e3, e2⟩
theorem ahead_ok {m : MH} {L : List Loft} {B : List Bird} {R : List Race} {i k : Nat} {rc : Race} {bd : Bird} {t now a d : Int} (hC : ClubG L B R) (hr : R[i]? = some rc) (hk : B[k]? = some bd) (ht : bd.ring = t) (h1 : rc.start ≤ now) (h2 : now ≤ rc.close) (hd : 0 < d) (hd2 : d < 18446744073709551616) :
    WP (f_can_be_ahead [clubPV L B R, .int (i : Nat), .int t, .int now, fpv a d] m) (fun x m' => x = .bl (cbaB L rc bd now a d) ∧ m' = m) NoE := by
  have ro := hC.rx _ (List.mem_of_getElem? hr)
  have rs := hC.rs _ (List.mem_of_getElem? hr)
  have hD : 0 ≤ rc.dusk ∧ rc.dusk ≤ 1439 := by have := ro.dusk; omega
  have hW : 0 ≤ rc.dawn ∧ rc.dawn ≤ 1439 := by have := ro.dawn; omega
  obtain ⟨j, e1, e2, lo⟩ := loftB_ok hC (List.mem_of_getElem? hk)
  have hs := sqd_bd ro lo
  have hh := fun (m : MH) => home_ok (m := m) (p := now) (q := 1) hC hr hk ht (by decide) (by decide) (by omega) (by omega)
  have hcc := fun (m : MH) => ccount_ok (m := m) (B := B) hr ro
  have hN := Nf_pos (D := rc.dusk) (W := rc.dawn) (s := rc.start) (p := now) (q := 1) hD hW (by decide) (by omega)
  unfold cbaB cba
  unfold spH at hh
  rw [spv_now h1 h2] at hh
  generalize hNN : Nf rc.dusk rc.dawn rc.start now 1 = N at *
  unfold f_can_be_ahead b_can_be_ahead clubPV fpv at *
  try simp -dsimp only [at0, at1, at2, at3, at4, at5, at6, wp_fn, s_nil, s_brk, s_cnt, s_expr, s_ret, s_retN, s_if, s_asn, s_par, s_asg, g_nm, g_nil, g_cons, g_tupT, g_subW, w_v0, w_vS, w_c, w_op, w_un, w_anil, w_acons, w_tup, w_lst, w_call, w_callU, w_isi, w_meth, w_tru, w_bool, w_notS, w_andS, w_orS, w_ifx, w_andV, w_orV, w_notV, w_chain, wp_ok, wp_bad, wp_some, wp_none, wp_liftif, wp_if, asB_b, wp_noex, add_ii, sub_ii, mul_ii, fdiv_ii, mod_ii, pow_ii, neg_i, cmp_ii, lt_ii, le_ii, gt_ii, ge_ii, le_cc, muls_ii, muls_si, ins_cs, iadd_ii, isub_ii, w_onone, w_osome, w_sl, sl_s, sl_t, s_aug, eq_ss, len_s, ix_s, add_ss, str_s, tuple_t, list_t, is_n, not_n, non_n, non_i, non_b, non_s, non_t, non_r, abs_i, max_ii, min_ii, int_i, int_b, gcd_ii, len_t, ix_t, eq_v, ne_v, eq_ii, eq_bb, eq_nn, eq_in, eq_ni, iv_n_list, iv_n_tuple, iv_n_bool, iv_n_str, iv_n_int, okt_n, iv_b_list, iv_b_tuple, iv_b_bool, iv_b_str, iv_b_int, okt_b, iv_i_list, iv_i_tuple, iv_i_bool, iv_i_str, iv_i_int, okt_i, iv_s_list, iv_s_tuple, iv_s_bool, iv_s_str, iv_s_int, okt_s, iv_t_list, iv_t_tuple, iv_t_bool, iv_t_str, iv_t_int, okt_t, iv_r_list, iv_r_tuple, iv_r_bool, iv_r_str, iv_r_int, tru_b, tru_i, tru_n, tru_t, Option.map_some, Option.map_none, List.map_cons, List.map_nil, List.length_cons, List.length_nil, List.set_cons_zero, List.set_cons_succ, List.cons_append, List.nil_append, List.replicate, Nat.reduceAdd, Nat.reduceSub, Nat.reduceLeDiff, true_and, and_true, decide_eq_true_eq, reduceIte, Bool.false_eq_true, Bool.not_true, Bool.not_false, decide_true, decide_false]
  rw [s_seq]
  try simp -dsimp only [at0, at1, at2, at3, at4, at5, at6, wp_fn, s_nil, s_brk, s_cnt, s_expr, s_ret, s_retN, s_if, s_asn, s_par, s_asg, g_nm, g_nil, g_cons, g_tupT, g_subW, w_v0, w_vS, w_c, w_op, w_un, w_anil, w_acons, w_tup, w_lst, w_call, w_callU, w_isi, w_meth, w_tru, w_bool, w_notS, w_andS, w_orS, w_ifx, w_andV, w_orV, w_notV, w_chain, wp_ok, wp_bad, wp_some, wp_none, wp_liftif, wp_if, asB_b, wp_noex, add_ii, sub_ii, mul_ii, fdiv_ii, mod_ii, pow_ii, neg_i, cmp_ii, lt_ii, le_ii, gt_ii, ge_ii, le_cc, muls_ii, muls_si, ins_cs, iadd_ii, isub_ii, w_onone, w_osome, w_sl, sl_s, sl_t, s_aug, eq_ss, len_s, ix_s, add_ss, str_s, tuple_t, list_t, is_n, not_n, non_n, non_i, non_b, non_s, non_t, non_r, abs_i, max_ii, min_ii, int_i, int_b, gcd_ii, len_t, ix_t, eq_v, ne_v, eq_ii, eq_bb, eq_nn, eq_in, eq_ni, iv_n_list, iv_n_tuple, iv_n_bool, iv_n_str, iv_n_int, okt_n, iv_b_list, iv_b_tuple, iv_b_bool, iv_b_str, iv_b_int, okt_b, iv_i_list, iv_i_tuple, iv_i_bool, iv_i_str, iv_i_int, okt_i, iv_s_list, iv_s_tuple, iv_s_bool, iv_s_str, iv_s_int, okt_s, iv_t_list, iv_t_tuple, iv_t_bool, iv_t_str, iv_t_int, okt_t, iv_r_list, iv_r_tuple, iv_r_bool, iv_r_str, iv_r_int, tru_b, tru_i, tru_n, tru_t, Option.map_some, Option.map_none, List.map_cons, List.map_nil, List.length_cons, List.length_nil, List.set_cons_zero, List.set_cons_succ, List.cons_append, List.nil_append, List.replicate, Nat.reduceAdd, Nat.reduceSub, Nat.reduceLeDiff, true_and, and_true, decide_eq_true_eq, reduceIte, Bool.false_eq_true, Bool.not_true, Bool.not_false, decide_true, decide_false]
  refine (hh _).mono ?_
  rintro _ m ⟨rfl, rfl⟩
  by_cases c : N ≤ 0
  · simp only [if_pos c]
    try simp -dsimp only [at0, at1, at2, at3, at4, at5, at6, wp_fn, s_nil, s_brk, s_cnt, s_expr, s_ret, s_retN, s_if, s_asn, s_par, s_asg, g_nm, g_nil, g_cons, g_tupT, g_subW, w_v0, w_vS, w_c, w_op, w_un, w_anil, w_acons, w_tup, w_lst, w_call, w_callU, w_isi, w_meth, w_tru, w_bool, w_notS, w_andS, w_orS, w_ifx, w_andV, w_orV, w_notV, w_chain, wp_ok, wp_bad, wp_some, wp_none, wp_liftif, wp_if, asB_b, wp_noex, add_ii, sub_ii, mul_ii, fdiv_ii, mod_ii, pow_ii, neg_i, cmp_ii, lt_ii, le_ii, gt_ii, ge_ii, le_cc, muls_ii, muls_si, ins_cs, iadd_ii, isub_ii, w_onone, w_osome, w_sl, sl_s, sl_t, s_aug, eq_ss, len_s, ix_s, add_ss, str_s, tuple_t, list_t, is_n, not_n, non_n, non_i, non_b, non_s, non_t, non_r, abs_i, max_ii, min_ii, int_i, int_b, gcd_ii, len_t, ix_t, eq_v, ne_v, eq_ii, eq_bb, eq_nn, eq_in, eq_ni, iv_n_list, iv_n_tuple, iv_n_bool, iv_n_str, iv_n_int, okt_n, iv_b_list, iv_b_tuple, iv_b_bool, iv_b_str, iv_b_int, okt_b, iv_i_list, iv_i_tuple, iv_i_bool, iv_i_str, iv_i_int, okt_i, iv_s_list, iv_s_tuple, iv_s_bool, iv_s_str, iv_s_int, okt_s, iv_t_list, iv_t_tuple, iv_t_bool, iv_t_str, iv_t_int, okt_t, iv_r_list, iv_r_tuple, iv_r_bool, iv_r_str, iv_r_int, tru_b, tru_i, tru_n, tru_t, Option.map_some, Option.map_none, List.map_cons, List.map_nil, List.length_cons, List.length_nil, List.set_cons_zero, List.set_cons_succ, List.cons_append, List.nil_append, List.replicate, Nat.reduceAdd, Nat.reduceSub, Nat.reduceLeDiff, true_and, and_true, decide_eq_true_eq, reduceIte, Bool.false_eq_true, Bool.not_true, Bool.not_false, decide_true, decide_false]
    rw [s_seq]
    try simp -dsimp only [at0, at1, at2, at3, at4, at5, at6, wp_fn, s_nil, s_brk, s_cnt, s_expr, s_ret, s_retN, s_if, s_asn, s_par, s_asg, g_nm, g_nil, g_cons, g_tupT, g_subW, w_v0, w_vS, w_c, w_op, w_un, w_anil, w_acons, w_tup, w_lst, w_call, w_callU, w_isi, w_meth, w_tru, w_bool, w_notS, w_andS, w_orS, w_ifx, w_andV, w_orV, w_notV, w_chain, wp_ok, wp_bad, wp_some, wp_none, wp_liftif, wp_if, asB_b, wp_noex, add_ii, sub_ii, mul_ii, fdiv_ii, mod_ii, pow_ii, neg_i, cmp_ii, lt_ii, le_ii, gt_ii, ge_ii, le_cc, muls_ii, muls_si, ins_cs, iadd_ii, isub_ii, w_onone, w_osome, w_sl, sl_s, sl_t, s_aug, eq_ss, len_s, ix_s, add_ss, str_s, tuple_t, list_t, is_n, not_n, non_n, non_i, non_b, non_s, non_t, non_r, abs_i, max_ii, min_ii, int_i, int_b, gcd_ii, len_t, ix_t, eq_v, ne_v, eq_ii, eq_bb, eq_nn, eq_in, eq_ni, iv_n_list, iv_n_tuple, iv_n_bool, iv_n_str, iv_n_int, okt_n, iv_b_list, iv_b_tuple, iv_b_bool, iv_b_str, iv_b_int, okt_b, iv_i_list, iv_i_tuple, iv_i_bool, iv_i_str, iv_i_int, okt_i, iv_s_list, iv_s_tuple, iv_s_bool, iv_s_str, iv_s_int, okt_s, iv_t_list, iv_t_tuple, iv_t_bool, iv_t_str, iv_t_int, okt_t, iv_r_list, iv_r_tuple, iv_r_bool, iv_r_str, iv_r_int, tru_b, tru_i, tru_n, tru_t, Option.map_some, Option.map_none, List.map_cons, List.map_nil, List.length_cons, List.length_nil, List.set_cons_zero, List.set_cons_succ, List.cons_append, List.nil_append, List.replicate, Nat.reduceAdd, Nat.reduceSub, Nat.reduceLeDiff, true_and, and_true, decide_eq_true_eq, reduceIte, Bool.false_eq_true, Bool.not_true, Bool.not_false, decide_true, decide_false]
    refine (hcc _).mono ?_
    rintro _ m ⟨rfl, rfl⟩
    try simp -dsimp only [at0, at1, at2, at3, at4, at5, at6, wp_fn, s_nil, s_brk, s_cnt, s_expr, s_ret, s_retN, s_if, s_asn, s_par, s_asg, g_nm, g_nil, g_cons, g_tupT, g_subW, w_v0, w_vS, w_c, w_op, w_un, w_anil, w_acons, w_tup, w_lst, w_call, w_callU, w_isi, w_meth, w_tru, w_bool, w_notS, w_andS, w_orS, w_ifx, w_andV, w_orV, w_notV, w_chain, wp_ok, wp_bad, wp_some, wp_none, wp_liftif, wp_if, asB_b, wp_noex, add_ii, sub_ii, mul_ii, fdiv_ii, mod_ii, pow_ii, neg_i, cmp_ii, lt_ii, le_ii, gt_ii, ge_ii, le_cc, muls_ii, muls_si, ins_cs, iadd_ii, isub_ii, w_onone, w_osome, w_sl, sl_s, sl_t, s_aug, eq_ss, len_s, ix_s, add_ss, str_s, tuple_t, list_t, is_n, not_n, non_n, non_i, non_b, non_s, non_t, non_r, abs_i, max_ii, min_ii, int_i, int_b, gcd_ii, len_t, ix_t, eq_v, ne_v, eq_ii, eq_bb, eq_nn, eq_in, eq_ni, iv_n_list, iv_n_tuple, iv_n_bool, iv_n_str, iv_n_int, okt_n, iv_b_list, iv_b_tuple, iv_b_bool, iv_b_str, iv_b_int, okt_b, iv_i_list, iv_i_tuple, iv_i_bool, iv_i_str, iv_i_int, okt_i, iv_s_list, iv_s_tuple, iv_s_bool, iv_s_str, iv_s_int, okt_s, iv_t_list, iv_t_tuple, iv_t_bool, iv_t_str, iv_t_int, okt_t, iv_r_list, iv_r_tuple, iv_r_bool, iv_r_str, iv_r_int, tru_b, tru_i, tru_n, tru_t, Option.map_some, Option.map_none, List.map_cons, List.map_nil, List.length_cons, List.length_nil, List.set_cons_zero, List.set_cons_succ, List.cons_append, List.nil_append, List.replicate, Nat.reduceAdd, Nat.reduceSub, Nat.reduceLeDiff, true_and, and_true, decide_eq_true_eq, reduceIte, Bool.false_eq_true, Bool.not_true, Bool.not_false, decide_true, decide_false]
    rw [if_pos c]
  · simp only [if_neg c]
    obtain ⟨u, v, f1, f2, f3, f4, f5⟩ := spv_low hs.1 hs.2 (N := N) (by omega) (by omega)
    rw [f1]
    unfold fpv
    try simp -dsimp only [at0, at1, at2, at3, at4, at5, at6, wp_fn, s_nil, s_brk, s_cnt, s_expr, s_ret, s_retN, s_if, s_asn, s_par, s_asg, g_nm, g_nil, g_cons, g_tupT, g_subW, w_v0, w_vS, w_c, w_op, w_un, w_anil, w_acons, w_tup, w_lst, w_call, w_callU, w_isi, w_meth, w_tru, w_bool, w_notS, w_andS, w_orS, w_ifx, w_andV, w_orV, w_notV, w_chain, wp_ok, wp_bad, wp_some, wp_none, wp_liftif, wp_if, asB_b, wp_noex, add_ii, sub_ii, mul_ii, fdiv_ii, mod_ii, pow_ii, neg_i, cmp_ii, lt_ii, le_ii, gt_ii, ge_ii, le_cc, muls_ii, muls_si, ins_cs, iadd_ii, isub_ii, w_onone, w_osome, w_sl, sl_s, sl_t, s_aug, eq_ss, len_s, ix_s, add_ss, str_s, tuple_t, list_t, is_n, not_n, non_n, non_i, non_b, non_s, non_t, non_r, abs_i, max_ii, min_ii, int_i, int_b, gcd_ii, len_t, ix_t, eq_v, ne_v, eq_ii, eq_bb, eq_nn, eq_in, eq_ni, iv_n_list, iv_n_tuple, iv_n_bool, iv_n_str, iv_n_int, okt_n, iv_b_list, iv_b_tuple, iv_b_bool, iv_b_str, iv_b_int, okt_b, iv_i_list, iv_i_tuple, iv_i_bool, iv_i_str, iv_i_int, okt_i, iv_s_list, iv_s_tuple, iv_s_bool, iv_s_str, iv_s_int, okt_s, iv_t_list, iv_t_tuple, iv_t_bool, iv_t_str, iv_t_int, okt_t, iv_r_list, iv_r_tuple, iv_r_bool, iv_r_str, iv_r_int, tru_b, tru_i, tru_n, tru_t, Option.map_some, Option.map_none, List.map_cons, List.map_nil, List.length_cons, List.length_nil, List.set_cons_zero, List.set_cons_succ, List.cons_append, List.nil_append, List.replicate, Nat.reduceAdd, Nat.reduceSub, Nat.reduceLeDiff, true_and, and_true, decide_eq_true_eq, reduceIte, Bool.false_eq_true, Bool.not_true, Bool.not_false, decide_true, decide_false]
    rw [s_seq]
    try simp -dsimp only [at0, at1, at2, at3, at4, at5, at6, wp_fn, s_nil, s_brk, s_cnt, s_expr, s_ret, s_retN, s_if, s_asn, s_par, s_asg, g_nm, g_nil, g_cons, g_tupT, g_subW, w_v0, w_vS, w_c, w_op, w_un, w_anil, w_acons, w_tup, w_lst, w_call, w_callU, w_isi, w_meth, w_tru, w_bool, w_notS, w_andS, w_orS, w_ifx, w_andV, w_orV, w_notV, w_chain, wp_ok, wp_bad, wp_some, wp_none, wp_liftif, wp_if, asB_b, wp_noex, add_ii, sub_ii, mul_ii, fdiv_ii, mod_ii, pow_ii, neg_i, cmp_ii, lt_ii, le_ii, gt_ii, ge_ii, le_cc, muls_ii, muls_si, ins_cs, iadd_ii, isub_ii, w_onone, w_osome, w_sl, sl_s, sl_t, s_aug, eq_ss, len_s, ix_s, add_ss, str_s, tuple_t, list_t, is_n, not_n, non_n, non_i, non_b, non_s, non_t, non_r, abs_i, max_ii, min_ii, int_i, int_b, gcd_ii, len_t, ix_t, eq_v, ne_v, eq_ii, eq_bb, eq_nn, eq_in, eq_ni, iv_n_list, iv_n_tuple, iv_n_bool, iv_n_str, iv_n_int, okt_n, iv_b_list, iv_b_tuple, iv_b_bool, iv_b_str, iv_b_int, okt_b, iv_i_list, iv_i_tuple, iv_i_bool, iv_i_str, iv_i_int, okt_i, iv_s_list, iv_s_tuple, iv_s_bool, iv_s_str, iv_s_int, okt_s, iv_t_list, iv_t_tuple, iv_t_bool, iv_t_str, iv_t_int, okt_t, iv_r_list, iv_r_tuple, iv_r_bool, iv_r_str, iv_r_int, tru_b, tru_i, tru_n, tru_t, Option.map_some, Option.map_none, List.map_cons, List.map_nil, List.length_cons, List.length_nil, List.set_cons_zero, List.set_cons_succ, List.cons_append, List.nil_append, List.replicate, Nat.reduceAdd, Nat.reduceSub, Nat.reduceLeDiff, true_and, and_true, decide_eq_true_eq, reduceIte, Bool.false_eq_true, Bool.not_true, Bool.not_false, decide_true, decide_false]
    refine (isless_ok (p := a) (q := d) (r := u) (s := v) (by omega) (by omega)).mono ?_
    rintro _ m ⟨rfl, rfl⟩
    have := lt_red (a1 := a) (b1 := d) (a2 := u) (b2 := v) (N1 := a) (D1 := d) (N2 := sqd (loftB L bd) rc) (D2 := N * N) hd f2 hd (Int.mul_pos (by omega) (by omega)) rfl f4
    try simp -dsimp only [at0, at1, at2, at3, at4, at5, at6, wp_fn, s_nil, s_brk, s_cnt, s_expr, s_ret, s_retN, s_if, s_asn, s_par, s_asg, g_nm, g_nil, g_cons, g_tupT, g_subW, w_v0, w_vS, w_c, w_op, w_un, w_anil, w_acons, w_tup, w_lst, w_call, w_callU, w_isi, w_meth, w_tru, w_bool, w_notS, w_andS, w_orS, w_ifx, w_andV, w_orV, w_notV, w_chain, wp_ok, wp_bad, wp_some, wp_none, wp_liftif, wp_if, asB_b, wp_noex, add_ii, sub_ii, mul_ii, fdiv_ii, mod_ii, pow_ii, neg_i, cmp_ii, lt_ii, le_ii, gt_ii, ge_ii, le_cc, muls_ii, muls_si, ins_cs, iadd_ii, isub_ii, w_onone, w_osome, w_sl, sl_s, sl_t, s_aug, eq_ss, len_s, ix_s, add_ss, str_s, tuple_t, list_t, is_n, not_n, non_n, non_i, non_b, non_s, non_t, non_r, abs_i, max_ii, min_ii, int_i, int_b, gcd_ii, len_t, ix_t, eq_v, ne_v, eq_ii, eq_bb, eq_nn, eq_in, eq_ni, iv_n_list, iv_n_tuple, iv_n_bool, iv_n_str, iv_n_int, okt_n, iv_b_list, iv_b_tuple, iv_b_bool, iv_b_str, iv_b_int, okt_b, iv_i_list, iv_i_tuple, iv_i_bool, iv_i_str, iv_i_int, okt_i, iv_s_list, iv_s_tuple, iv_s_bool, iv_s_str, iv_s_int, okt_s, iv_t_list, iv_t_tuple, iv_t_bool, iv_t_str, iv_t_int, okt_t, iv_r_list, iv_r_tuple, iv_r_bool, iv_r_str, iv_r_int, tru_b, tru_i, tru_n, tru_t, Option.map_some, Option.map_none, List.map_cons, List.map_nil, List.length_cons, List.length_nil, List.set_cons_zero, List.set_cons_succ, List.cons_append, List.nil_append, List.replicate, Nat.reduceAdd, Nat.reduceSub, Nat.reduceLeDiff, true_and, and_true, decide_eq_true_eq, reduceIte, Bool.false_eq_true, Bool.not_true, Bool.not_false, decide_true, decide_false]
    rw [if_neg c]
    simp only [this]
/-! ## bounds of the speeds of a list -/
structure SpB (a d : Int) : Prop where
  d0 : 0 < d
  d1 : d < 18446744073709551616
  a0 : 0 ≤ a
  a1 : a ≤ 100000000000000000
  fq : Fq a d
theorem spv_shape {l : Loft} {rc : Race} {L : List Loft} {p q : Int} (ro : RaceOk L rc) (lo : LoftOk l) (hq : 0 < q) (hq2 : q ≤ 9999) (hp2 : p ≤ 9999 * q) :
    spv (sqd l rc) rc.start rc.close rc.dusk rc.dawn p q = .non ∨ ∃ a d, spv (sqd l rc) rc.start rc.close rc.dusk rc.dawn p q = fpv a d ∧ SpB a d := by
  have hD : 0 ≤ rc.dusk ∧ rc.dusk ≤ 1439 := by have := ro.dusk; omega
  have hW : 0 ≤ rc.dawn ∧ rc.dawn ≤ 1439 := by have := ro.dawn; omega
  have os := ro.start
  have sb := sqd_bd ro lo
  unfold spv
  by_cases c1 : p < rc.start * q ∨ rc.close * q < p
  · rw [if_pos c1]; exact .inl rfl
  · rw [if_neg c1]
    by_cases c2 : Nf rc.dusk rc.dawn rc.start p q ≤ 0
    · rw [if_pos c2]; exact .inl rfl
    · rw [if_neg c2]
      have hn := Nf_pos (D := rc.dusk) (W := rc.dawn) (s := rc.start) hD hW hq (p := p) (by omega)
      have hsq : 0 ≤ rc.start * q := Int.mul_nonneg os.1 (by omega)
      generalize Nf rc.dusk rc.dawn rc.start p q = N at *
      have hN : N ≤ 9999 * 9999 := by omega
      have hNN : N * N ≤ (9999 * 9999) * (9999 * 9999) := Int.mul_le_mul hN hN (by omega) (by omega)
      have hN0 : 0 < N * N := Int.mul_pos (by omega) (by omega)
      have hqq : q * q ≤ 9999 * 9999 := Int.mul_le_mul hq2 hq2 (by omega) (by decide)
      have hqq0 : 0 ≤ q * q := Int.mul_nonneg (by omega) (by omega)
      have h3 : sqd l rc * (q * q) ≤ 799840008 * (9999 * 9999) := Int.mul_le_mul sb.2 hqq hqq0 (by decide)
      have h4 : 0 ≤ sqd l rc * (q * q) := Int.mul_nonneg sb.1 hqq0
      obtain ⟨a, d, e1, e2, e3, e4, e5⟩ := lowv_red (p := sqd l rc * q * q) (q := N * N) hN0
      have es : sqd l rc * q * q = sqd l rc * (q * q) := Int.mul_assoc _ _ _
      rw [es] at e3 e4
      have ep := e2.pos
      have a0 : 0 ≤ a := by
        refine Int.le_of_mul_le_mul_right (a := N * N) ?_ hN0
        rw [e3, Int.zero_mul]
        exact Int.mul_nonneg h4 (by omega)
      exact .inr ⟨a, d, e1, ⟨ep, by omega, a0, by omega, e2⟩⟩
theorem tt_bd {b e sh r : Int} (hb : 0 ≤ b) (he : b < e) (he2 : e ≤ 9999) (hs : b < sh) (h1 : b ≤ r) (h2 : r ≤ sh) : b * (sh - b) + (r - b) * (e - b) ≤ 9999 * (sh - b) := by
  have : (r - b) * (e - b) ≤ (sh - b) * (e - b) := Int.mul_le_mul_of_nonneg_right (by omega) (by omega)
  have e6 : (sh - b) * (e - b) = e * (sh - b) - b * (sh - b) := by grind
  have h3 : e * (sh - b) ≤ 9999 * (sh - b) := Int.mul_le_mul_of_nonneg_right he2 (by omega)
  omega
section
variable {L : List Loft} {B : List Bird} {R : List Race} {cs : List Clk}
theorem spS_bd {s : Slp} (hcs : ∀ c ∈ cs, ClkG L R c) (hL : ∀ l ∈ L, LoftOk l) (hR : ∀ r ∈ R, RaceOk L r) : spS L B R cs s = .non ∨ ∃ a d, spS L B R cs s = fpv a d ∧ SpB a d := by
  unfold spS
  split
  · split
    · rename_i c hf
      have h := hcs c (fnd_mem hf).1
      have e1 : R[c.race]? = some (R[c.race]'h.race) := List.getElem?_eq_getElem h.race
      have e2 : L[c.loft]? = some (L[c.loft]'h.loft) := List.getElem?_eq_getElem h.loft
      have h0 := h.b0; have h1 := h.b1; have h2 := h.e; have h3 := h.s0; have h4 := h.s1
      unfold spC
      rw [e1, e2]
      dsimp only
      unfold spd
      split
      · rename_i z
        exact spv_shape (hR _ (List.mem_of_getElem? e1)) (hL _ (List.mem_of_getElem? e2)) (by omega) (by omega) (tt_bd h0 h1 h2 h3 z.1 z.2)
      · exact .inl rfl
    · exact .inl rfl
  · exact .inl rfl
/-- the pairs behind the list of a race -/
def prs (L : List Loft) (B : List Bird) (R : List Race) (cs : List Clk) (ss : List Slp) (i : Nat) : List Pr := (cntS ss).filterMap (prO L B R cs i)
theorem listR_prs {ss : List Slp} {i : Nat} : listR L B R cs ss i = rowsS (rk (prs L B R cs ss i)) := rfl
theorem prs_len {ss : List Slp} {i : Nat} : (prs L B R cs ss i).length ≤ ss.length := Nat.le_trans filterMap_le cntL_len
theorem prs_of {ss : List Slp} {i : Nat} {p : Pr} (hcs : ∀ c ∈ cs, ClkG L R c) (hL : ∀ l ∈ L, LoftOk l) (hR : ∀ r ∈ R, RaceOk L r) (h : p ∈ prs L B R cs ss i) : ∃ s ∈ ss, s.race = i ∧ s.ring = p.t ∧ spS L B R cs s = fpv p.a p.d ∧ SpB p.a p.d := by
  obtain ⟨s, hs, e⟩ := List.mem_filterMap.mp h
  unfold prO at e
  split at e
  · rename_i hi
    rcases spS_bd (B := B) (s := s) hcs hL hR with z | ⟨a, d, z, sb⟩
    · rw [z] at e; cases e
    · rw [z, frO_f] at e
      cases e
      exact ⟨s, cntL_mem hs, hi, rfl, z, sb⟩
  · cases e
theorem filterMap_nodup {α β γ : Type} {f : α → Option β} {k : α → γ} {k' : β → γ} (e : ∀ a b, f a = some b → k' b = k a) : ∀ {xs : List α}, (xs.map k).Nodup → ((xs.filterMap f).map k').Nodup
  | [], _ => List.nodup_nil
  | x :: xs, h => by
    rw [List.map_cons] at h
    obtain ⟨h1, h2⟩ := List.nodup_cons.mp h
    have ih := filterMap_nodup e h2
    cases hf : f x with
    | none => rw [List.filterMap_cons_none hf]; exact ih
    | some b =>
      rw [List.filterMap_cons_some hf, List.map_cons]
      refine List.nodup_cons.mpr ⟨fun hm => h1 ?_, ih⟩
      obtain ⟨b', hb', e'⟩ := List.mem_map.mp hm
      obtain ⟨a, ha, fa⟩ := List.mem_filterMap.mp hb'
      exact List.mem_map.mpr ⟨a, ha, by rw [← e a b' fa, e', e x b hf]⟩
theorem prs_nodup {ss : List Slp} {i : Nat} : ((prs L B R cs ss i).map Pr.t).Nodup := by
  have h := cntL_nodup (key := k2 (fun s : Slp => ((s.race : Nat) : Int)) Slp.ring) (xs := ss)
  have h2 : ((prs L B R cs ss i).map fun p : Pr => [((i : Nat) : Int), p.t]).Nodup := by
    unfold prs
    refine filterMap_nodup (f := prO L B R cs i) (k := k2 (fun s : Slp => ((s.race : Nat) : Int)) Slp.ring) (k' := fun p : Pr => [((i : Nat) : Int), p.t]) (fun s p e => ?_) h
    unfold prO at e
    split at e
    · rename_i hi
      obtain ⟨v, _, e2⟩ := Option.map_eq_some_iff.mp e
      subst e2 hi
      rfl
    · cases e
  have e : ((prs L B R cs ss i).map fun p : Pr => [((i : Nat) : Int), p.t]) = ((prs L B R cs ss i).map Pr.t).map fun t => [((i : Nat) : Int), t] := by rw [List.map_map]; rfl
  rw [e] at h2
  exact (List.pairwise_map.mp h2).imp fun h z => h (by rw [z])
end
theorem rows_perm {rows : List Rw} : (rowsS rows).Perm rows := List.mergeSort_perm _ _
theorem rk_mem {ps : List Pr} {r : Rw} (h : r ∈ rowsS (rk ps)) : ∃ p ∈ ps, r.t = p.t ∧ r.a = p.a ∧ r.d = p.d ∧ r.k = (ps.filter fun q => decide (p.a * q.d < q.a * p.d)).length := by
  have h2 := rows_perm.mem_iff.mp h
  unfold rk at h2
  obtain ⟨p, hp, e⟩ := List.mem_map.mp h2
  subst e
  exact ⟨p, hp, rfl, rfl, rfl, rfl⟩
theorem flight1_ok {D W s p : Int} {m : MH} {x1 x2 x3 x5 : PV} (hD : 0 ≤ D ∧ D ≤ 1439) (hW : 0 ≤ W ∧ W ≤ 1439) :
    WP (f_flight [.tup [x1, x2, x3, .int s, x5, .int D, .int W], fpv p 1] m) (fun x m' => x = fpv (Nf D W s p 1) 1 ∧ m' = m) NoE := (flight_ok (by decide) (by decide) hD hW).mono fun x m' h => ⟨by rw [h.1]; unfold flv; exact lowv_one, h.2⟩
/-! ## the law's times -/
structure TmOk (rc : Race) (now : Int) (ts : List (Int × Int)) : Prop where
  rng : ∀ t ∈ ts, 0 < t.2 ∧ t.2 ≤ 1000000000 ∧ now * t.2 ≤ t.1 ∧ t.1 ≤ rc.close * t.2
  fst : (now, 1) ∈ ts
  len : ts.length ≤ 9
  dark : Nf rc.dusk rc.dawn rc.start now 1 = 0 → 0 < Nf rc.dusk rc.dawn rc.start rc.close 1 → ∃ M, now ≤ M ∧ M < rc.close ∧ Nf rc.dusk rc.dawn rc.start M 1 = 0 ∧ 0 < Nf rc.dusk rc.dawn rc.start (M + 1) 1 ∧ (M * 1000000000 + 1, 1000000000) ∈ ts
def tmPV (t : Int × Int) : PV := fpv t.1 t.2
theorem ltimes_ok {m : MH} {L : List Loft} {B : List Bird} {R : List Race} {i : Nat} {rc : Race} {now : Int} (hr : R[i]? = some rc) (ro : RaceOk L rc) (rs : 300 ≤ rc.start ∧ rc.close ≤ 3000) (h1 : rc.start ≤ now) (h2 : now ≤ rc.close) :
    WP (f_law_times [clubPV L B R, .int (i : Nat), .int now] m) (fun x m' => ∃ (ts : List (Int × Int)) (k : Nat), x = .ref k ∧ m'[k]? = some (.lst (ts.map tmPV)) ∧ TmOk rc now ts ∧ Gr m m') NoE := by
  have hD : 0 ≤ rc.dusk ∧ rc.dusk ≤ 1439 := by have := ro.dusk; omega
  have hW : 0 ≤ rc.dawn ∧ rc.dawn ≤ 1439 := by have := ro.dawn; omega
  have oc := ro.close
  have hfl := fun (p : Int) (m : MH) => flight1_ok (s := rc.start) (p := p) (m := m) (x1 := .str rc.name) (x2 := .int rc.x) (x3 := .int rc.y) (x5 := .int rc.close) hD hW
  have hmono := fun (p p' : Int) (h : p ≤ p') => (Nf_mono (D := rc.dusk) (W := rc.dawn) (s := rc.start) (p := p) (q := 1) (p' := p') (q' := 1) hD hW (by decide) (by decide) (by omega)).1
  have hpos := fun (p : Int) (h : rc.start ≤ p) => Nf_pos (D := rc.dusk) (W := rc.dawn) (s := rc.start) (p := p) (q := 1) hD hW (by decide) (by omega)
  unfold f_law_times b_law_times clubPV fpv at *
  try simp -dsimp only [at0, at1, at2, at3, at4, at5, at6, wp_fn, s_nil, s_brk, s_cnt, s_expr, s_ret, s_retN, s_if, s_asn, s_par, s_asg, g_nm, g_nil, g_cons, g_tupT, g_subW, w_v0, w_vS, w_c, w_op, w_un, w_anil, w_acons, w_tup, w_lst, w_call, w_callU, w_isi, w_meth, w_tru, w_bool, w_notS, w_andS, w_orS, w_ifx, w_andV, w_orV, w_notV, w_chain, wp_ok, wp_bad, wp_some, wp_none, wp_liftif, wp_if, asB_b, wp_noex, add_ii, sub_ii, mul_ii, fdiv_ii, mod_ii, pow_ii, neg_i, cmp_ii, lt_ii, le_ii, gt_ii, ge_ii, le_cc, muls_ii, muls_si, ins_cs, iadd_ii, isub_ii, w_onone, w_osome, w_sl, sl_s, sl_t, s_aug, eq_ss, len_s, ix_s, add_ss, str_s, tuple_t, list_t, is_n, not_n, non_n, non_i, non_b, non_s, non_t, non_r, abs_i, max_ii, min_ii, int_i, int_b, gcd_ii, len_t, ix_t, eq_v, ne_v, eq_ii, eq_bb, eq_nn, eq_in, eq_ni, iv_n_list, iv_n_tuple, iv_n_bool, iv_n_str, iv_n_int, okt_n, iv_b_list, iv_b_tuple, iv_b_bool, iv_b_str, iv_b_int, okt_b, iv_i_list, iv_i_tuple, iv_i_bool, iv_i_str, iv_i_int, okt_i, iv_s_list, iv_s_tuple, iv_s_bool, iv_s_str, iv_s_int, okt_s, iv_t_list, iv_t_tuple, iv_t_bool, iv_t_str, iv_t_int, okt_t, iv_r_list, iv_r_tuple, iv_r_bool, iv_r_str, iv_r_int, tru_b, tru_i, tru_n, tru_t, Option.map_some, Option.map_none, List.map_cons, List.map_nil, List.length_cons, List.length_nil, List.set_cons_zero, List.set_cons_succ, List.cons_append, List.nil_append, List.replicate, Nat.reduceAdd, Nat.reduceSub, Nat.reduceLeDiff, true_and, and_true, decide_eq_true_eq, reduceIte, Bool.false_eq_true, Bool.not_true, Bool.not_false, decide_true, decide_false]
  rw [s_seq]
  try simp -dsimp only [at0, at1, at2, at3, at4, at5, at6, wp_fn, s_nil, s_brk, s_cnt, s_expr, s_ret, s_retN, s_if, s_asn, s_par, s_asg, g_nm, g_nil, g_cons, g_tupT, g_subW, w_v0, w_vS, w_c, w_op, w_un, w_anil, w_acons, w_tup, w_lst, w_call, w_callU, w_isi, w_meth, w_tru, w_bool, w_notS, w_andS, w_orS, w_ifx, w_andV, w_orV, w_notV, w_chain, wp_ok, wp_bad, wp_some, wp_none, wp_liftif, wp_if, asB_b, wp_noex, add_ii, sub_ii, mul_ii, fdiv_ii, mod_ii, pow_ii, neg_i, cmp_ii, lt_ii, le_ii, gt_ii, ge_ii, le_cc, muls_ii, muls_si, ins_cs, iadd_ii, isub_ii, w_onone, w_osome, w_sl, sl_s, sl_t, s_aug, eq_ss, len_s, ix_s, add_ss, str_s, tuple_t, list_t, is_n, not_n, non_n, non_i, non_b, non_s, non_t, non_r, abs_i, max_ii, min_ii, int_i, int_b, gcd_ii, len_t, ix_t, eq_v, ne_v, eq_ii, eq_bb, eq_nn, eq_in, eq_ni, iv_n_list, iv_n_tuple, iv_n_bool, iv_n_str, iv_n_int, okt_n, iv_b_list, iv_b_tuple, iv_b_bool, iv_b_str, iv_b_int, okt_b, iv_i_list, iv_i_tuple, iv_i_bool, iv_i_str, iv_i_int, okt_i, iv_s_list, iv_s_tuple, iv_s_bool, iv_s_str, iv_s_int, okt_s, iv_t_list, iv_t_tuple, iv_t_bool, iv_t_str, iv_t_int, okt_t, iv_r_list, iv_r_tuple, iv_r_bool, iv_r_str, iv_r_int, tru_b, tru_i, tru_n, tru_t, Option.map_some, Option.map_none, List.map_cons, List.map_nil, List.length_cons, List.length_nil, List.set_cons_zero, List.set_cons_succ, List.cons_append, List.nil_append, List.replicate, Nat.reduceAdd, Nat.reduceSub, Nat.reduceLeDiff, true_and, and_true, decide_eq_true_eq, reduceIte, Bool.false_eq_true, Bool.not_true, Bool.not_false, decide_true, decide_false]
  rw [s_seq]
  try simp -dsimp only [at_map hr, Race.pv, at0, at1, at2, at3, at4, at5, at6, wp_fn, s_nil, s_brk, s_cnt, s_expr, s_ret, s_retN, s_if, s_asn, s_par, s_asg, g_nm, g_nil, g_cons, g_tupT, g_subW, w_v0, w_vS, w_c, w_op, w_un, w_anil, w_acons, w_tup, w_lst, w_call, w_callU, w_isi, w_meth, w_tru, w_bool, w_notS, w_andS, w_orS, w_ifx, w_andV, w_orV, w_notV, w_chain, wp_ok, wp_bad, wp_some, wp_none, wp_liftif, wp_if, asB_b, wp_noex, add_ii, sub_ii, mul_ii, fdiv_ii, mod_ii, pow_ii, neg_i, cmp_ii, lt_ii, le_ii, gt_ii, ge_ii, le_cc, muls_ii, muls_si, ins_cs, iadd_ii, isub_ii, w_onone, w_osome, w_sl, sl_s, sl_t, s_aug, eq_ss, len_s, ix_s, add_ss, str_s, tuple_t, list_t, is_n, not_n, non_n, non_i, non_b, non_s, non_t, non_r, abs_i, max_ii, min_ii, int_i, int_b, gcd_ii, len_t, ix_t, eq_v, ne_v, eq_ii, eq_bb, eq_nn, eq_in, eq_ni, iv_n_list, iv_n_tuple, iv_n_bool, iv_n_str, iv_n_int, okt_n, iv_b_list, iv_b_tuple, iv_b_bool, iv_b_str, iv_b_int, okt_b, iv_i_list, iv_i_tuple, iv_i_bool, iv_i_str, iv_i_int, okt_i, iv_s_list, iv_s_tuple, iv_s_bool, iv_s_str, iv_s_int, okt_s, iv_t_list, iv_t_tuple, iv_t_bool, iv_t_str, iv_t_int, okt_t, iv_r_list, iv_r_tuple, iv_r_bool, iv_r_str, iv_r_int, tru_b, tru_i, tru_n, tru_t, Option.map_some, Option.map_none, List.map_cons, List.map_nil, List.length_cons, List.length_nil, List.set_cons_zero, List.set_cons_succ, List.cons_append, List.nil_append, List.replicate, Nat.reduceAdd, Nat.reduceSub, Nat.reduceLeDiff, true_and, and_true, decide_eq_true_eq, reduceIte, Bool.false_eq_true, Bool.not_true, Bool.not_false, decide_true, decide_false]
  have P0 := get_new (m := m) (o := MO.lst [])
  have G0 : Gr m (m ++ [MO.lst []]) := Gr.one
  generalize hm1 : m ++ [MO.lst []] = m1 at *
  have hml : m.length < m1.length := by rw [← hm1]; simp
  rw [s_seq]
  refine s_forLW ?_
  try simp -dsimp only [at0, at1, at2, at3, at4, at5, at6, wp_fn, s_nil, s_brk, s_cnt, s_expr, s_ret, s_retN, s_if, s_asn, s_par, s_asg, g_nm, g_nil, g_cons, g_tupT, g_subW, w_v0, w_vS, w_c, w_op, w_un, w_anil, w_acons, w_tup, w_lst, w_call, w_callU, w_isi, w_meth, w_tru, w_bool, w_notS, w_andS, w_orS, w_ifx, w_andV, w_orV, w_notV, w_chain, wp_ok, wp_bad, wp_some, wp_none, wp_liftif, wp_if, asB_b, wp_noex, add_ii, sub_ii, mul_ii, fdiv_ii, mod_ii, pow_ii, neg_i, cmp_ii, lt_ii, le_ii, gt_ii, ge_ii, le_cc, muls_ii, muls_si, ins_cs, iadd_ii, isub_ii, w_onone, w_osome, w_sl, sl_s, sl_t, s_aug, eq_ss, len_s, ix_s, add_ss, str_s, tuple_t, list_t, is_n, not_n, non_n, non_i, non_b, non_s, non_t, non_r, abs_i, max_ii, min_ii, int_i, int_b, gcd_ii, len_t, ix_t, eq_v, ne_v, eq_ii, eq_bb, eq_nn, eq_in, eq_ni, iv_n_list, iv_n_tuple, iv_n_bool, iv_n_str, iv_n_int, okt_n, iv_b_list, iv_b_tuple, iv_b_bool, iv_b_str, iv_b_int, okt_b, iv_i_list, iv_i_tuple, iv_i_bool, iv_i_str, iv_i_int, okt_i, iv_s_list, iv_s_tuple, iv_s_bool, iv_s_str, iv_s_int, okt_s, iv_t_list, iv_t_tuple, iv_t_bool, iv_t_str, iv_t_int, okt_t, iv_r_list, iv_r_tuple, iv_r_bool, iv_r_str, iv_r_int, tru_b, tru_i, tru_n, tru_t, Option.map_some, Option.map_none, List.map_cons, List.map_nil, List.length_cons, List.length_nil, List.set_cons_zero, List.set_cons_succ, List.cons_append, List.nil_append, List.replicate, Nat.reduceAdd, Nat.reduceSub, Nat.reduceLeDiff, true_and, and_true, decide_eq_true_eq, reduceIte, Bool.false_eq_true, Bool.not_true, Bool.not_false, decide_true, decide_false]
  have P1 := get_old (o := MO.lst [.int now, .int (now + 1), .int (now + 2), .int (now + 7), .int rc.close]) P0
  have Q1 := get_new (m := m1) (o := MO.lst [.int now, .int (now + 1), .int (now + 2), .int (now + 7), .int rc.close])
  have G1 := G0.push (MO.lst [.int now, .int (now + 1), .int (now + 2), .int (now + 7), .int rc.close])
  refine ⟨_, _, rfl, seq_of_lst Q1, fun j l m' => ∃ (ts : List (Int × Int)) (x5 : Option PV), l = [some (.tup [.tup (L.map Loft.pv), .tup (B.map Bird.pv), .tup (R.map Race.pv)]), some (.int (i : Nat)), some (.int now), some (.ref m.length), some (.int rc.close), x5, none] ∧ m'[m.length]? = some (.lst (ts.map tmPV)) ∧ m'[m1.length]? = some (MO.lst [.int now, .int (now + 1), .int (now + 2), .int (now + 7), .int rc.close]) ∧ (∀ t ∈ ts, t.2 = 1 ∧ now ≤ t.1 ∧ t.1 ≤ rc.close) ∧ (0 < j → (now, 1) ∈ ts) ∧ ts.length ≤ j ∧ Gr m m', ⟨[], _, rfl, P1, Q1, no_mem1, fun h => absurd h (by decide), Nat.le_refl _, G1⟩, ?_, ?_, ?_⟩
  · rintro j l m' ⟨ts, x5, rfl, P, Q, ht, hf, hl, G⟩
    exact seq_of_lst Q
  · rintro j x l m' hx ⟨ts, x5, rfl, P, Q, ht, hf, hl, G⟩
    obtain ⟨v, rfl, hv, hv0⟩ : ∃ v : Int, x = .int v ∧ now ≤ v ∧ (j = 0 → v = now) := by
      have hj := (List.getElem?_eq_some_iff.mp hx).1
      simp at hj
      rcases (by omega : j = 0 ∨ j = 1 ∨ j = 2 ∨ j = 3 ∨ j = 4) with rfl | rfl | rfl | rfl | rfl
      all_goals
        simp at hx
        exact ⟨_, hx.symm, by omega, by omega⟩
    have hj5 : j < 5 := by have := (List.getElem?_eq_some_iff.mp hx).1; simpa using this
    unfold law_times_l1
    try simp -dsimp only [at0, at1, at2, at3, at4, at5, at6, wp_fn, s_nil, s_brk, s_cnt, s_expr, s_ret, s_retN, s_if, s_asn, s_par, s_asg, g_nm, g_nil, g_cons, g_tupT, g_subW, w_v0, w_vS, w_c, w_op, w_un, w_anil, w_acons, w_tup, w_lst, w_call, w_callU, w_isi, w_meth, w_tru, w_bool, w_notS, w_andS, w_orS, w_ifx, w_andV, w_orV, w_notV, w_chain, wp_ok, wp_bad, wp_some, wp_none, wp_liftif, wp_if, asB_b, wp_noex, add_ii, sub_ii, mul_ii, fdiv_ii, mod_ii, pow_ii, neg_i, cmp_ii, lt_ii, le_ii, gt_ii, ge_ii, le_cc, muls_ii, muls_si, ins_cs, iadd_ii, isub_ii, w_onone, w_osome, w_sl, sl_s, sl_t, s_aug, eq_ss, len_s, ix_s, add_ss, str_s, tuple_t, list_t, is_n, not_n, non_n, non_i, non_b, non_s, non_t, non_r, abs_i, max_ii, min_ii, int_i, int_b, gcd_ii, len_t, ix_t, eq_v, ne_v, eq_ii, eq_bb, eq_nn, eq_in, eq_ni, iv_n_list, iv_n_tuple, iv_n_bool, iv_n_str, iv_n_int, okt_n, iv_b_list, iv_b_tuple, iv_b_bool, iv_b_str, iv_b_int, okt_b, iv_i_list, iv_i_tuple, iv_i_bool, iv_i_str, iv_i_int, okt_i, iv_s_list, iv_s_tuple, iv_s_bool, iv_s_str, iv_s_int, okt_s, iv_t_list, iv_t_tuple, iv_t_bool, iv_t_str, iv_t_int, okt_t, iv_r_list, iv_r_tuple, iv_r_bool, iv_r_str, iv_r_int, tru_b, tru_i, tru_n, tru_t, Option.map_some, Option.map_none, List.map_cons, List.map_nil, List.length_cons, List.length_nil, List.set_cons_zero, List.set_cons_succ, List.cons_append, List.nil_append, List.replicate, Nat.reduceAdd, Nat.reduceSub, Nat.reduceLeDiff, true_and, and_true, decide_eq_true_eq, reduceIte, Bool.false_eq_true, Bool.not_true, Bool.not_false, decide_true, decide_false]
    by_cases c : v ≤ rc.close
    · rw [if_pos c]
      try simp -dsimp only [at0, at1, at2, at3, at4, at5, at6, wp_fn, s_nil, s_brk, s_cnt, s_expr, s_ret, s_retN, s_if, s_asn, s_par, s_asg, g_nm, g_nil, g_cons, g_tupT, g_subW, w_v0, w_vS, w_c, w_op, w_un, w_anil, w_acons, w_tup, w_lst, w_call, w_callU, w_isi, w_meth, w_tru, w_bool, w_notS, w_andS, w_orS, w_ifx, w_andV, w_orV, w_notV, w_chain, wp_ok, wp_bad, wp_some, wp_none, wp_liftif, wp_if, asB_b, wp_noex, add_ii, sub_ii, mul_ii, fdiv_ii, mod_ii, pow_ii, neg_i, cmp_ii, lt_ii, le_ii, gt_ii, ge_ii, le_cc, muls_ii, muls_si, ins_cs, iadd_ii, isub_ii, w_onone, w_osome, w_sl, sl_s, sl_t, s_aug, eq_ss, len_s, ix_s, add_ss, str_s, tuple_t, list_t, is_n, not_n, non_n, non_i, non_b, non_s, non_t, non_r, abs_i, max_ii, min_ii, int_i, int_b, gcd_ii, len_t, ix_t, eq_v, ne_v, eq_ii, eq_bb, eq_nn, eq_in, eq_ni, iv_n_list, iv_n_tuple, iv_n_bool, iv_n_str, iv_n_int, okt_n, iv_b_list, iv_b_tuple, iv_b_bool, iv_b_str, iv_b_int, okt_b, iv_i_list, iv_i_tuple, iv_i_bool, iv_i_str, iv_i_int, okt_i, iv_s_list, iv_s_tuple, iv_s_bool, iv_s_str, iv_s_int, okt_s, iv_t_list, iv_t_tuple, iv_t_bool, iv_t_str, iv_t_int, okt_t, iv_r_list, iv_r_tuple, iv_r_bool, iv_r_str, iv_r_int, tru_b, tru_i, tru_n, tru_t, Option.map_some, Option.map_none, List.map_cons, List.map_nil, List.length_cons, List.length_nil, List.set_cons_zero, List.set_cons_succ, List.cons_append, List.nil_append, List.replicate, Nat.reduceAdd, Nat.reduceSub, Nat.reduceLeDiff, true_and, and_true, decide_eq_true_eq, reduceIte, Bool.false_eq_true, Bool.not_true, Bool.not_false, decide_true, decide_false]
      refine ⟨isLst_r P, ?_⟩
      rw [append_r P (by rw [List.length_map]; omega)]
      try simp -dsimp only [at0, at1, at2, at3, at4, at5, at6, wp_fn, s_nil, s_brk, s_cnt, s_expr, s_ret, s_retN, s_if, s_asn, s_par, s_asg, g_nm, g_nil, g_cons, g_tupT, g_subW, w_v0, w_vS, w_c, w_op, w_un, w_anil, w_acons, w_tup, w_lst, w_call, w_callU, w_isi, w_meth, w_tru, w_bool, w_notS, w_andS, w_orS, w_ifx, w_andV, w_orV, w_notV, w_chain, wp_ok, wp_bad, wp_some, wp_none, wp_liftif, wp_if, asB_b, wp_noex, add_ii, sub_ii, mul_ii, fdiv_ii, mod_ii, pow_ii, neg_i, cmp_ii, lt_ii, le_ii, gt_ii, ge_ii, le_cc, muls_ii, muls_si, ins_cs, iadd_ii, isub_ii, w_onone, w_osome, w_sl, sl_s, sl_t, s_aug, eq_ss, len_s, ix_s, add_ss, str_s, tuple_t, list_t, is_n, not_n, non_n, non_i, non_b, non_s, non_t, non_r, abs_i, max_ii, min_ii, int_i, int_b, gcd_ii, len_t, ix_t, eq_v, ne_v, eq_ii, eq_bb, eq_nn, eq_in, eq_ni, iv_n_list, iv_n_tuple, iv_n_bool, iv_n_str, iv_n_int, okt_n, iv_b_list, iv_b_tuple, iv_b_bool, iv_b_str, iv_b_int, okt_b, iv_i_list, iv_i_tuple, iv_i_bool, iv_i_str, iv_i_int, okt_i, iv_s_list, iv_s_tuple, iv_s_bool, iv_s_str, iv_s_int, okt_s, iv_t_list, iv_t_tuple, iv_t_bool, iv_t_str, iv_t_int, okt_t, iv_r_list, iv_r_tuple, iv_r_bool, iv_r_str, iv_r_int, tru_b, tru_i, tru_n, tru_t, Option.map_some, Option.map_none, List.map_cons, List.map_nil, List.length_cons, List.length_nil, List.set_cons_zero, List.set_cons_succ, List.cons_append, List.nil_append, List.replicate, Nat.reduceAdd, Nat.reduceSub, Nat.reduceLeDiff, true_and, and_true, decide_eq_true_eq, reduceIte, Bool.false_eq_true, Bool.not_true, Bool.not_false, decide_true, decide_false]
      refine ⟨ts ++ [(v, 1)], _, rfl, (get_set_eq P).trans ?_, by rw [List.getElem?_set_ne (by omega)]; exact Q, fun t h => (List.mem_append.mp h).elim (ht t) fun e => ?_, fun _ => ?_, by simp; omega, G.set (Nat.le_refl _)⟩
      · rw [List.map_append]; rfl
      · rw [List.mem_singleton.mp e]
        exact ⟨rfl, hv, c⟩
      · by_cases h0 : j = 0
        · rw [hv0 h0]
          exact List.mem_append_right _ List.mem_cons_self
        · exact List.mem_append_left _ (hf (by omega))
    · rw [if_neg c]
      refine ⟨ts, _, rfl, P, Q, ht, fun _ => hf ?_, by omega, G⟩
      have : j ≠ 0 := fun h => c (by rw [hv0 h]; exact h2)
      omega
  clear P0 G0 P1 Q1 G1
  rintro l m2 ⟨ts, x5, rfl, P, Q, ht, hf, hl, G⟩
  have hf := hf (by simp)
  have hl : ts.length ≤ 5 := by simpa using hl
  clear Q
  rw [s_seq]
  try simp -dsimp only [at0, at1, at2, at3, at4, at5, at6, wp_fn, s_nil, s_brk, s_cnt, s_expr, s_ret, s_retN, s_if, s_asn, s_par, s_asg, g_nm, g_nil, g_cons, g_tupT, g_subW, w_v0, w_vS, w_c, w_op, w_un, w_anil, w_acons, w_tup, w_lst, w_call, w_callU, w_isi, w_meth, w_tru, w_bool, w_notS, w_andS, w_orS, w_ifx, w_andV, w_orV, w_notV, w_chain, wp_ok, wp_bad, wp_some, wp_none, wp_liftif, wp_if, asB_b, wp_noex, add_ii, sub_ii, mul_ii, fdiv_ii, mod_ii, pow_ii, neg_i, cmp_ii, lt_ii, le_ii, gt_ii, ge_ii, le_cc, muls_ii, muls_si, ins_cs, iadd_ii, isub_ii, w_onone, w_osome, w_sl, sl_s, sl_t, s_aug, eq_ss, len_s, ix_s, add_ss, str_s, tuple_t, list_t, is_n, not_n, non_n, non_i, non_b, non_s, non_t, non_r, abs_i, max_ii, min_ii, int_i, int_b, gcd_ii, len_t, ix_t, eq_v, ne_v, eq_ii, eq_bb, eq_nn, eq_in, eq_ni, iv_n_list, iv_n_tuple, iv_n_bool, iv_n_str, iv_n_int, okt_n, iv_b_list, iv_b_tuple, iv_b_bool, iv_b_str, iv_b_int, okt_b, iv_i_list, iv_i_tuple, iv_i_bool, iv_i_str, iv_i_int, okt_i, iv_s_list, iv_s_tuple, iv_s_bool, iv_s_str, iv_s_int, okt_s, iv_t_list, iv_t_tuple, iv_t_bool, iv_t_str, iv_t_int, okt_t, iv_r_list, iv_r_tuple, iv_r_bool, iv_r_str, iv_r_int, tru_b, tru_i, tru_n, tru_t, Option.map_some, Option.map_none, List.map_cons, List.map_nil, List.length_cons, List.length_nil, List.set_cons_zero, List.set_cons_succ, List.cons_append, List.nil_append, List.replicate, Nat.reduceAdd, Nat.reduceSub, Nat.reduceLeDiff, true_and, and_true, decide_eq_true_eq, reduceIte, Bool.false_eq_true, Bool.not_true, Bool.not_false, decide_true, decide_false]
  refine s_cut (mid := fun l m' => ∃ M, l = [some (.tup [.tup (L.map Loft.pv), .tup (B.map Bird.pv), .tup (R.map Race.pv)]), some (.int (i : Nat)), some (.int now), some (.ref m.length), some (.int rc.close), some (.int M), none] ∧ m' = m2 ∧ now ≤ M ∧ M ≤ rc.close ∧ (M = now ∨ Nf rc.dusk rc.dawn rc.start M 1 = 0) ∧ (M = rc.close ∨ Nf rc.dusk rc.dawn rc.start (M + 1) 1 ≠ 0)) ?_ ?_
  · refine s_while 3000 (by decide) (fun z l m' => ∃ M, l = [some (.tup [.tup (L.map Loft.pv), .tup (B.map Bird.pv), .tup (R.map Race.pv)]), some (.int (i : Nat)), some (.int now), some (.ref m.length), some (.int rc.close), some (.int M), none] ∧ m' = m2 ∧ now ≤ M ∧ M ≤ rc.close ∧ (M = now ∨ Nf rc.dusk rc.dawn rc.start M 1 = 0) ∧ rc.close - M ≤ z) ⟨now, rfl, rfl, Int.le_refl _, h2, .inl rfl, by omega⟩ ?_
    rintro z l m' ⟨M, rfl, rfl, M1, M2, M3, M4⟩
    try simp -dsimp only [at0, at1, at2, at3, at4, at5, at6, wp_fn, s_nil, s_brk, s_cnt, s_expr, s_ret, s_retN, s_if, s_asn, s_par, s_asg, g_nm, g_nil, g_cons, g_tupT, g_subW, w_v0, w_vS, w_c, w_op, w_un, w_anil, w_acons, w_tup, w_lst, w_call, w_callU, w_isi, w_meth, w_tru, w_bool, w_notS, w_andS, w_orS, w_ifx, w_andV, w_orV, w_notV, w_chain, wp_ok, wp_bad, wp_some, wp_none, wp_liftif, wp_if, asB_b, wp_noex, add_ii, sub_ii, mul_ii, fdiv_ii, mod_ii, pow_ii, neg_i, cmp_ii, lt_ii, le_ii, gt_ii, ge_ii, le_cc, muls_ii, muls_si, ins_cs, iadd_ii, isub_ii, w_onone, w_osome, w_sl, sl_s, sl_t, s_aug, eq_ss, len_s, ix_s, add_ss, str_s, tuple_t, list_t, is_n, not_n, non_n, non_i, non_b, non_s, non_t, non_r, abs_i, max_ii, min_ii, int_i, int_b, gcd_ii, len_t, ix_t, eq_v, ne_v, eq_ii, eq_bb, eq_nn, eq_in, eq_ni, iv_n_list, iv_n_tuple, iv_n_bool, iv_n_str, iv_n_int, okt_n, iv_b_list, iv_b_tuple, iv_b_bool, iv_b_str, iv_b_int, okt_b, iv_i_list, iv_i_tuple, iv_i_bool, iv_i_str, iv_i_int, okt_i, iv_s_list, iv_s_tuple, iv_s_bool, iv_s_str, iv_s_int, okt_s, iv_t_list, iv_t_tuple, iv_t_bool, iv_t_str, iv_t_int, okt_t, iv_r_list, iv_r_tuple, iv_r_bool, iv_r_str, iv_r_int, tru_b, tru_i, tru_n, tru_t, Option.map_some, Option.map_none, List.map_cons, List.map_nil, List.length_cons, List.length_nil, List.set_cons_zero, List.set_cons_succ, List.cons_append, List.nil_append, List.replicate, Nat.reduceAdd, Nat.reduceSub, Nat.reduceLeDiff, true_and, and_true, decide_eq_true_eq, reduceIte, Bool.false_eq_true, Bool.not_true, Bool.not_false, decide_true, decide_false]
    by_cases c : M < rc.close
    · rw [if_pos c]
      try simp -dsimp only [at_map hr, Race.pv, at0, at1, at2, at3, at4, at5, at6, wp_fn, s_nil, s_brk, s_cnt, s_expr, s_ret, s_retN, s_if, s_asn, s_par, s_asg, g_nm, g_nil, g_cons, g_tupT, g_subW, w_v0, w_vS, w_c, w_op, w_un, w_anil, w_acons, w_tup, w_lst, w_call, w_callU, w_isi, w_meth, w_tru, w_bool, w_notS, w_andS, w_orS, w_ifx, w_andV, w_orV, w_notV, w_chain, wp_ok, wp_bad, wp_some, wp_none, wp_liftif, wp_if, asB_b, wp_noex, add_ii, sub_ii, mul_ii, fdiv_ii, mod_ii, pow_ii, neg_i, cmp_ii, lt_ii, le_ii, gt_ii, ge_ii, le_cc, muls_ii, muls_si, ins_cs, iadd_ii, isub_ii, w_onone, w_osome, w_sl, sl_s, sl_t, s_aug, eq_ss, len_s, ix_s, add_ss, str_s, tuple_t, list_t, is_n, not_n, non_n, non_i, non_b, non_s, non_t, non_r, abs_i, max_ii, min_ii, int_i, int_b, gcd_ii, len_t, ix_t, eq_v, ne_v, eq_ii, eq_bb, eq_nn, eq_in, eq_ni, iv_n_list, iv_n_tuple, iv_n_bool, iv_n_str, iv_n_int, okt_n, iv_b_list, iv_b_tuple, iv_b_bool, iv_b_str, iv_b_int, okt_b, iv_i_list, iv_i_tuple, iv_i_bool, iv_i_str, iv_i_int, okt_i, iv_s_list, iv_s_tuple, iv_s_bool, iv_s_str, iv_s_int, okt_s, iv_t_list, iv_t_tuple, iv_t_bool, iv_t_str, iv_t_int, okt_t, iv_r_list, iv_r_tuple, iv_r_bool, iv_r_str, iv_r_int, tru_b, tru_i, tru_n, tru_t, Option.map_some, Option.map_none, List.map_cons, List.map_nil, List.length_cons, List.length_nil, List.set_cons_zero, List.set_cons_succ, List.cons_append, List.nil_append, List.replicate, Nat.reduceAdd, Nat.reduceSub, Nat.reduceLeDiff, true_and, and_true, decide_eq_true_eq, reduceIte, Bool.false_eq_true, Bool.not_true, Bool.not_false, decide_true, decide_false]
      refine (hfl _ _).mono ?_
      rintro _ m' ⟨rfl, rfl⟩
      try simp -dsimp only [at0, at1, at2, at3, at4, at5, at6, wp_fn, s_nil, s_brk, s_cnt, s_expr, s_ret, s_retN, s_if, s_asn, s_par, s_asg, g_nm, g_nil, g_cons, g_tupT, g_subW, w_v0, w_vS, w_c, w_op, w_un, w_anil, w_acons, w_tup, w_lst, w_call, w_callU, w_isi, w_meth, w_tru, w_bool, w_notS, w_andS, w_orS, w_ifx, w_andV, w_orV, w_notV, w_chain, wp_ok, wp_bad, wp_some, wp_none, wp_liftif, wp_if, asB_b, wp_noex, add_ii, sub_ii, mul_ii, fdiv_ii, mod_ii, pow_ii, neg_i, cmp_ii, lt_ii, le_ii, gt_ii, ge_ii, le_cc, muls_ii, muls_si, ins_cs, iadd_ii, isub_ii, w_onone, w_osome, w_sl, sl_s, sl_t, s_aug, eq_ss, len_s, ix_s, add_ss, str_s, tuple_t, list_t, is_n, not_n, non_n, non_i, non_b, non_s, non_t, non_r, abs_i, max_ii, min_ii, int_i, int_b, gcd_ii, len_t, ix_t, eq_v, ne_v, eq_ii, eq_bb, eq_nn, eq_in, eq_ni, iv_n_list, iv_n_tuple, iv_n_bool, iv_n_str, iv_n_int, okt_n, iv_b_list, iv_b_tuple, iv_b_bool, iv_b_str, iv_b_int, okt_b, iv_i_list, iv_i_tuple, iv_i_bool, iv_i_str, iv_i_int, okt_i, iv_s_list, iv_s_tuple, iv_s_bool, iv_s_str, iv_s_int, okt_s, iv_t_list, iv_t_tuple, iv_t_bool, iv_t_str, iv_t_int, okt_t, iv_r_list, iv_r_tuple, iv_r_bool, iv_r_str, iv_r_int, tru_b, tru_i, tru_n, tru_t, Option.map_some, Option.map_none, List.map_cons, List.map_nil, List.length_cons, List.length_nil, List.set_cons_zero, List.set_cons_succ, List.cons_append, List.nil_append, List.replicate, Nat.reduceAdd, Nat.reduceSub, Nat.reduceLeDiff, true_and, and_true, decide_eq_true_eq, reduceIte, Bool.false_eq_true, Bool.not_true, Bool.not_false, decide_true, decide_false]
      by_cases c2 : Nf rc.dusk rc.dawn rc.start (M + 1) 1 = 0
      · rw [if_pos c2]
        refine ⟨by omega, ?_⟩
        unfold law_times_l2
        try simp -dsimp only [at0, at1, at2, at3, at4, at5, at6, wp_fn, s_nil, s_brk, s_cnt, s_expr, s_ret, s_retN, s_if, s_asn, s_par, s_asg, g_nm, g_nil, g_cons, g_tupT, g_subW, w_v0, w_vS, w_c, w_op, w_un, w_anil, w_acons, w_tup, w_lst, w_call, w_callU, w_isi, w_meth, w_tru, w_bool, w_notS, w_andS, w_orS, w_ifx, w_andV, w_orV, w_notV, w_chain, wp_ok, wp_bad, wp_some, wp_none, wp_liftif, wp_if, asB_b, wp_noex, add_ii, sub_ii, mul_ii, fdiv_ii, mod_ii, pow_ii, neg_i, cmp_ii, lt_ii, le_ii, gt_ii, ge_ii, le_cc, muls_ii, muls_si, ins_cs, iadd_ii, isub_ii, w_onone, w_osome, w_sl, sl_s, sl_t, s_aug, eq_ss, len_s, ix_s, add_ss, str_s, tuple_t, list_t, is_n, not_n, non_n, non_i, non_b, non_s, non_t, non_r, abs_i, max_ii, min_ii, int_i, int_b, gcd_ii, len_t, ix_t, eq_v, ne_v, eq_ii, eq_bb, eq_nn, eq_in, eq_ni, iv_n_list, iv_n_tuple, iv_n_bool, iv_n_str, iv_n_int, okt_n, iv_b_list, iv_b_tuple, iv_b_bool, iv_b_str, iv_b_int, okt_b, iv_i_list, iv_i_tuple, iv_i_bool, iv_i_str, iv_i_int, okt_i, iv_s_list, iv_s_tuple, iv_s_bool, iv_s_str, iv_s_int, okt_s, iv_t_list, iv_t_tuple, iv_t_bool, iv_t_str, iv_t_int, okt_t, iv_r_list, iv_r_tuple, iv_r_bool, iv_r_str, iv_r_int, tru_b, tru_i, tru_n, tru_t, Option.map_some, Option.map_none, List.map_cons, List.map_nil, List.length_cons, List.length_nil, List.set_cons_zero, List.set_cons_succ, List.cons_append, List.nil_append, List.replicate, Nat.reduceAdd, Nat.reduceSub, Nat.reduceLeDiff, true_and, and_true, decide_eq_true_eq, reduceIte, Bool.false_eq_true, Bool.not_true, Bool.not_false, decide_true, decide_false]
        exact ⟨_, rfl, by omega, by omega, .inr c2, by omega⟩
      · rw [if_neg c2]
        exact ⟨M, rfl, M1, M2, M3, .inr c2⟩
    · rw [if_neg c]
      exact ⟨M, rfl, M1, M2, M3, .inl (by omega)⟩
  rintro _ _ ⟨M, rfl, rfl, M1, M2, M3, M4⟩
  have rng0 : ∀ t ∈ ts, 0 < t.2 ∧ t.2 ≤ 1000000000 ∧ now * t.2 ≤ t.1 ∧ t.1 ≤ rc.close * t.2 := fun t h => by
    obtain ⟨a, b, c⟩ := ht t h
    rw [a]
    omega
  refine s_cut (mid := fun l m' => ∃ (ts' : List (Int × Int)) (x6 : Option PV), l = [some (.tup [.tup (L.map Loft.pv), .tup (B.map Bird.pv), .tup (R.map Race.pv)]), some (.int (i : Nat)), some (.int now), some (.ref m.length), some (.int rc.close), some (.int M), x6] ∧ m'[m.length]? = some (.lst (ts'.map tmPV)) ∧ TmOk rc now ts' ∧ Gr m m') ?_ ?_
  · try simp -dsimp only [at_map hr, Race.pv, at0, at1, at2, at3, at4, at5, at6, wp_fn, s_nil, s_brk, s_cnt, s_expr, s_ret, s_retN, s_if, s_asn, s_par, s_asg, g_nm, g_nil, g_cons, g_tupT, g_subW, w_v0, w_vS, w_c, w_op, w_un, w_anil, w_acons, w_tup, w_lst, w_call, w_callU, w_isi, w_meth, w_tru, w_bool, w_notS, w_andS, w_orS, w_ifx, w_andV, w_orV, w_notV, w_chain, wp_ok, wp_bad, wp_some, wp_none, wp_liftif, wp_if, asB_b, wp_noex, add_ii, sub_ii, mul_ii, fdiv_ii, mod_ii, pow_ii, neg_i, cmp_ii, lt_ii, le_ii, gt_ii, ge_ii, le_cc, muls_ii, muls_si, ins_cs, iadd_ii, isub_ii, w_onone, w_osome, w_sl, sl_s, sl_t, s_aug, eq_ss, len_s, ix_s, add_ss, str_s, tuple_t, list_t, is_n, not_n, non_n, non_i, non_b, non_s, non_t, non_r, abs_i, max_ii, min_ii, int_i, int_b, gcd_ii, len_t, ix_t, eq_v, ne_v, eq_ii, eq_bb, eq_nn, eq_in, eq_ni, iv_n_list, iv_n_tuple, iv_n_bool, iv_n_str, iv_n_int, okt_n, iv_b_list, iv_b_tuple, iv_b_bool, iv_b_str, iv_b_int, okt_b, iv_i_list, iv_i_tuple, iv_i_bool, iv_i_str, iv_i_int, okt_i, iv_s_list, iv_s_tuple, iv_s_bool, iv_s_str, iv_s_int, okt_s, iv_t_list, iv_t_tuple, iv_t_bool, iv_t_str, iv_t_int, okt_t, iv_r_list, iv_r_tuple, iv_r_bool, iv_r_str, iv_r_int, tru_b, tru_i, tru_n, tru_t, Option.map_some, Option.map_none, List.map_cons, List.map_nil, List.length_cons, List.length_nil, List.set_cons_zero, List.set_cons_succ, List.cons_append, List.nil_append, List.replicate, Nat.reduceAdd, Nat.reduceSub, Nat.reduceLeDiff, true_and, and_true, decide_eq_true_eq, reduceIte, Bool.false_eq_true, Bool.not_true, Bool.not_false, decide_true, decide_false]
    refine (hfl _ _).mono ?_
    rintro _ m' ⟨rfl, rfl⟩
    try simp -dsimp only [at0, at1, at2, at3, at4, at5, at6, wp_fn, s_nil, s_brk, s_cnt, s_expr, s_ret, s_retN, s_if, s_asn, s_par, s_asg, g_nm, g_nil, g_cons, g_tupT, g_subW, w_v0, w_vS, w_c, w_op, w_un, w_anil, w_acons, w_tup, w_lst, w_call, w_callU, w_isi, w_meth, w_tru, w_bool, w_notS, w_andS, w_orS, w_ifx, w_andV, w_orV, w_notV, w_chain, wp_ok, wp_bad, wp_some, wp_none, wp_liftif, wp_if, asB_b, wp_noex, add_ii, sub_ii, mul_ii, fdiv_ii, mod_ii, pow_ii, neg_i, cmp_ii, lt_ii, le_ii, gt_ii, ge_ii, le_cc, muls_ii, muls_si, ins_cs, iadd_ii, isub_ii, w_onone, w_osome, w_sl, sl_s, sl_t, s_aug, eq_ss, len_s, ix_s, add_ss, str_s, tuple_t, list_t, is_n, not_n, non_n, non_i, non_b, non_s, non_t, non_r, abs_i, max_ii, min_ii, int_i, int_b, gcd_ii, len_t, ix_t, eq_v, ne_v, eq_ii, eq_bb, eq_nn, eq_in, eq_ni, iv_n_list, iv_n_tuple, iv_n_bool, iv_n_str, iv_n_int, okt_n, iv_b_list, iv_b_tuple, iv_b_bool, iv_b_str, iv_b_int, okt_b, iv_i_list, iv_i_tuple, iv_i_bool, iv_i_str, iv_i_int, okt_i, iv_s_list, iv_s_tuple, iv_s_bool, iv_s_str, iv_s_int, okt_s, iv_t_list, iv_t_tuple, iv_t_bool, iv_t_str, iv_t_int, okt_t, iv_r_list, iv_r_tuple, iv_r_bool, iv_r_str, iv_r_int, tru_b, tru_i, tru_n, tru_t, Option.map_some, Option.map_none, List.map_cons, List.map_nil, List.length_cons, List.length_nil, List.set_cons_zero, List.set_cons_succ, List.cons_append, List.nil_append, List.replicate, Nat.reduceAdd, Nat.reduceSub, Nat.reduceLeDiff, true_and, and_true, decide_eq_true_eq, reduceIte, Bool.false_eq_true, Bool.not_true, Bool.not_false, decide_true, decide_false]
    by_cases c : Nf rc.dusk rc.dawn rc.start now 1 = 0
    · rw [if_pos c]
      have M5 : Nf rc.dusk rc.dawn rc.start M 1 = 0 := M3.elim (fun e => by rw [e]; exact c) id
      by_cases c2 : M < rc.close
      · rw [if_pos c2]
        refine s_forLW ?_
        try simp -dsimp only [at0, at1, at2, at3, at4, at5, at6, wp_fn, s_nil, s_brk, s_cnt, s_expr, s_ret, s_retN, s_if, s_asn, s_par, s_asg, g_nm, g_nil, g_cons, g_tupT, g_subW, w_v0, w_vS, w_c, w_op, w_un, w_anil, w_acons, w_tup, w_lst, w_call, w_callU, w_isi, w_meth, w_tru, w_bool, w_notS, w_andS, w_orS, w_ifx, w_andV, w_orV, w_notV, w_chain, wp_ok, wp_bad, wp_some, wp_none, wp_liftif, wp_if, asB_b, wp_noex, add_ii, sub_ii, mul_ii, fdiv_ii, mod_ii, pow_ii, neg_i, cmp_ii, lt_ii, le_ii, gt_ii, ge_ii, le_cc, muls_ii, muls_si, ins_cs, iadd_ii, isub_ii, w_onone, w_osome, w_sl, sl_s, sl_t, s_aug, eq_ss, len_s, ix_s, add_ss, str_s, tuple_t, list_t, is_n, not_n, non_n, non_i, non_b, non_s, non_t, non_r, abs_i, max_ii, min_ii, int_i, int_b, gcd_ii, len_t, ix_t, eq_v, ne_v, eq_ii, eq_bb, eq_nn, eq_in, eq_ni, iv_n_list, iv_n_tuple, iv_n_bool, iv_n_str, iv_n_int, okt_n, iv_b_list, iv_b_tuple, iv_b_bool, iv_b_str, iv_b_int, okt_b, iv_i_list, iv_i_tuple, iv_i_bool, iv_i_str, iv_i_int, okt_i, iv_s_list, iv_s_tuple, iv_s_bool, iv_s_str, iv_s_int, okt_s, iv_t_list, iv_t_tuple, iv_t_bool, iv_t_str, iv_t_int, okt_t, iv_r_list, iv_r_tuple, iv_r_bool, iv_r_str, iv_r_int, tru_b, tru_i, tru_n, tru_t, Option.map_some, Option.map_none, List.map_cons, List.map_nil, List.length_cons, List.length_nil, List.set_cons_zero, List.set_cons_succ, List.cons_append, List.nil_append, List.replicate, Nat.reduceAdd, Nat.reduceSub, Nat.reduceLeDiff, true_and, and_true, decide_eq_true_eq, reduceIte, Bool.false_eq_true, Bool.not_true, Bool.not_false, decide_true, decide_false]
        rw [if_pos (by decide)]
        try simp -dsimp only [at0, at1, at2, at3, at4, at5, at6, wp_fn, s_nil, s_brk, s_cnt, s_expr, s_ret, s_retN, s_if, s_asn, s_par, s_asg, g_nm, g_nil, g_cons, g_tupT, g_subW, w_v0, w_vS, w_c, w_op, w_un, w_anil, w_acons, w_tup, w_lst, w_call, w_callU, w_isi, w_meth, w_tru, w_bool, w_notS, w_andS, w_orS, w_ifx, w_andV, w_orV, w_notV, w_chain, wp_ok, wp_bad, wp_some, wp_none, wp_liftif, wp_if, asB_b, wp_noex, add_ii, sub_ii, mul_ii, fdiv_ii, mod_ii, pow_ii, neg_i, cmp_ii, lt_ii, le_ii, gt_ii, ge_ii, le_cc, muls_ii, muls_si, ins_cs, iadd_ii, isub_ii, w_onone, w_osome, w_sl, sl_s, sl_t, s_aug, eq_ss, len_s, ix_s, add_ss, str_s, tuple_t, list_t, is_n, not_n, non_n, non_i, non_b, non_s, non_t, non_r, abs_i, max_ii, min_ii, int_i, int_b, gcd_ii, len_t, ix_t, eq_v, ne_v, eq_ii, eq_bb, eq_nn, eq_in, eq_ni, iv_n_list, iv_n_tuple, iv_n_bool, iv_n_str, iv_n_int, okt_n, iv_b_list, iv_b_tuple, iv_b_bool, iv_b_str, iv_b_int, okt_b, iv_i_list, iv_i_tuple, iv_i_bool, iv_i_str, iv_i_int, okt_i, iv_s_list, iv_s_tuple, iv_s_bool, iv_s_str, iv_s_int, okt_s, iv_t_list, iv_t_tuple, iv_t_bool, iv_t_str, iv_t_int, okt_t, iv_r_list, iv_r_tuple, iv_r_bool, iv_r_str, iv_r_int, tru_b, tru_i, tru_n, tru_t, Option.map_some, Option.map_none, List.map_cons, List.map_nil, List.length_cons, List.length_nil, List.set_cons_zero, List.set_cons_succ, List.cons_append, List.nil_append, List.replicate, Nat.reduceAdd, Nat.reduceSub, Nat.reduceLeDiff, true_and, and_true, decide_eq_true_eq, reduceIte, Bool.false_eq_true, Bool.not_true, Bool.not_false, decide_true, decide_false]
        have e9 : (10 : Int) ^ (Int.toNat 9) = 1000000000 := by decide
        simp only [e9]
        have P1 := get_old (o := MO.lst [.int 3, .int 100, .int 100000, .int 1000000000]) P
        have Q1 := get_new (m := m') (o := MO.lst [.int 3, .int 100, .int 100000, .int 1000000000])
        have G1 := G.push (MO.lst [.int 3, .int 100, .int 100000, .int 1000000000])
        have hgl := G.len
        have hml2 : m.length < m'.length := (List.getElem?_eq_some_iff.mp P).1
        refine ⟨_, _, rfl, seq_of_lst Q1, fun j l m3 => ∃ (ts' : List (Int × Int)) (x6 : Option PV), l = [some (.tup [.tup (L.map Loft.pv), .tup (B.map Bird.pv), .tup (R.map Race.pv)]), some (.int (i : Nat)), some (.int now), some (.ref m.length), some (.int rc.close), some (.int M), x6] ∧ m3[m.length]? = some (.lst (ts'.map tmPV)) ∧ m3[m'.length]? = some (MO.lst [.int 3, .int 100, .int 100000, .int 1000000000]) ∧ (∀ t ∈ ts', 0 < t.2 ∧ t.2 ≤ 1000000000 ∧ now * t.2 ≤ t.1 ∧ t.1 ≤ rc.close * t.2) ∧ (now, 1) ∈ ts' ∧ (j = 4 → (M * 1000000000 + 1, 1000000000) ∈ ts') ∧ ts'.length ≤ 5 + j ∧ Gr m m3, ⟨ts, _, rfl, P1, Q1, rng0, hf, fun h => absurd h (by decide), by omega, G1⟩, ?_, ?_, ?_⟩
        · rintro j l m3 ⟨ts', x6, rfl, P, Q, _⟩
          exact seq_of_lst Q
        · clear P1 Q1 G1 P G
          rintro j x l m3 hx ⟨ts', x6, rfl, P, Q, hr', hf', hg', hl', G⟩
          have hj4 : j < 4 := by have := (List.getElem?_eq_some_iff.mp hx).1; simpa using this
          obtain ⟨v, rfl, hv0, hv1, hv2⟩ : ∃ v : Int, x = .int v ∧ 0 < v ∧ v ≤ 1000000000 ∧ (j = 3 → v = 1000000000) := by
            rcases (by omega : j = 0 ∨ j = 1 ∨ j = 2 ∨ j = 3) with rfl | rfl | rfl | rfl
            all_goals
              simp at hx
              exact ⟨_, hx.symm, by omega, by omega, by omega⟩
          unfold law_times_l3
          try simp -dsimp only [at0, at1, at2, at3, at4, at5, at6, wp_fn, s_nil, s_brk, s_cnt, s_expr, s_ret, s_retN, s_if, s_asn, s_par, s_asg, g_nm, g_nil, g_cons, g_tupT, g_subW, w_v0, w_vS, w_c, w_op, w_un, w_anil, w_acons, w_tup, w_lst, w_call, w_callU, w_isi, w_meth, w_tru, w_bool, w_notS, w_andS, w_orS, w_ifx, w_andV, w_orV, w_notV, w_chain, wp_ok, wp_bad, wp_some, wp_none, wp_liftif, wp_if, asB_b, wp_noex, add_ii, sub_ii, mul_ii, fdiv_ii, mod_ii, pow_ii, neg_i, cmp_ii, lt_ii, le_ii, gt_ii, ge_ii, le_cc, muls_ii, muls_si, ins_cs, iadd_ii, isub_ii, w_onone, w_osome, w_sl, sl_s, sl_t, s_aug, eq_ss, len_s, ix_s, add_ss, str_s, tuple_t, list_t, is_n, not_n, non_n, non_i, non_b, non_s, non_t, non_r, abs_i, max_ii, min_ii, int_i, int_b, gcd_ii, len_t, ix_t, eq_v, ne_v, eq_ii, eq_bb, eq_nn, eq_in, eq_ni, iv_n_list, iv_n_tuple, iv_n_bool, iv_n_str, iv_n_int, okt_n, iv_b_list, iv_b_tuple, iv_b_bool, iv_b_str, iv_b_int, okt_b, iv_i_list, iv_i_tuple, iv_i_bool, iv_i_str, iv_i_int, okt_i, iv_s_list, iv_s_tuple, iv_s_bool, iv_s_str, iv_s_int, okt_s, iv_t_list, iv_t_tuple, iv_t_bool, iv_t_str, iv_t_int, okt_t, iv_r_list, iv_r_tuple, iv_r_bool, iv_r_str, iv_r_int, tru_b, tru_i, tru_n, tru_t, Option.map_some, Option.map_none, List.map_cons, List.map_nil, List.length_cons, List.length_nil, List.set_cons_zero, List.set_cons_succ, List.cons_append, List.nil_append, List.replicate, Nat.reduceAdd, Nat.reduceSub, Nat.reduceLeDiff, true_and, and_true, decide_eq_true_eq, reduceIte, Bool.false_eq_true, Bool.not_true, Bool.not_false, decide_true, decide_false]
          refine ⟨isLst_r P, ?_⟩
          rw [if_pos (.inl (.inl (by omega)))]
          try simp -dsimp only [at0, at1, at2, at3, at4, at5, at6, wp_fn, s_nil, s_brk, s_cnt, s_expr, s_ret, s_retN, s_if, s_asn, s_par, s_asg, g_nm, g_nil, g_cons, g_tupT, g_subW, w_v0, w_vS, w_c, w_op, w_un, w_anil, w_acons, w_tup, w_lst, w_call, w_callU, w_isi, w_meth, w_tru, w_bool, w_notS, w_andS, w_orS, w_ifx, w_andV, w_orV, w_notV, w_chain, wp_ok, wp_bad, wp_some, wp_none, wp_liftif, wp_if, asB_b, wp_noex, add_ii, sub_ii, mul_ii, fdiv_ii, mod_ii, pow_ii, neg_i, cmp_ii, lt_ii, le_ii, gt_ii, ge_ii, le_cc, muls_ii, muls_si, ins_cs, iadd_ii, isub_ii, w_onone, w_osome, w_sl, sl_s, sl_t, s_aug, eq_ss, len_s, ix_s, add_ss, str_s, tuple_t, list_t, is_n, not_n, non_n, non_i, non_b, non_s, non_t, non_r, abs_i, max_ii, min_ii, int_i, int_b, gcd_ii, len_t, ix_t, eq_v, ne_v, eq_ii, eq_bb, eq_nn, eq_in, eq_ni, iv_n_list, iv_n_tuple, iv_n_bool, iv_n_str, iv_n_int, okt_n, iv_b_list, iv_b_tuple, iv_b_bool, iv_b_str, iv_b_int, okt_b, iv_i_list, iv_i_tuple, iv_i_bool, iv_i_str, iv_i_int, okt_i, iv_s_list, iv_s_tuple, iv_s_bool, iv_s_str, iv_s_int, okt_s, iv_t_list, iv_t_tuple, iv_t_bool, iv_t_str, iv_t_int, okt_t, iv_r_list, iv_r_tuple, iv_r_bool, iv_r_str, iv_r_int, tru_b, tru_i, tru_n, tru_t, Option.map_some, Option.map_none, List.map_cons, List.map_nil, List.length_cons, List.length_nil, List.set_cons_zero, List.set_cons_succ, List.cons_append, List.nil_append, List.replicate, Nat.reduceAdd, Nat.reduceSub, Nat.reduceLeDiff, true_and, and_true, decide_eq_true_eq, reduceIte, Bool.false_eq_true, Bool.not_true, Bool.not_false, decide_true, decide_false]
          rw [append_r P (by rw [List.length_map]; omega)]
          try simp -dsimp only [at0, at1, at2, at3, at4, at5, at6, wp_fn, s_nil, s_brk, s_cnt, s_expr, s_ret, s_retN, s_if, s_asn, s_par, s_asg, g_nm, g_nil, g_cons, g_tupT, g_subW, w_v0, w_vS, w_c, w_op, w_un, w_anil, w_acons, w_tup, w_lst, w_call, w_callU, w_isi, w_meth, w_tru, w_bool, w_notS, w_andS, w_orS, w_ifx, w_andV, w_orV, w_notV, w_chain, wp_ok, wp_bad, wp_some, wp_none, wp_liftif, wp_if, asB_b, wp_noex, add_ii, sub_ii, mul_ii, fdiv_ii, mod_ii, pow_ii, neg_i, cmp_ii, lt_ii, le_ii, gt_ii, ge_ii, le_cc, muls_ii, muls_si, ins_cs, iadd_ii, isub_ii, w_onone, w_osome, w_sl, sl_s, sl_t, s_aug, eq_ss, len_s, ix_s, add_ss, str_s, tuple_t, list_t, is_n, not_n, non_n, non_i, non_b, non_s, non_t, non_r, abs_i, max_ii, min_ii, int_i, int_b, gcd_ii, len_t, ix_t, eq_v, ne_v, eq_ii, eq_bb, eq_nn, eq_in, eq_ni, iv_n_list, iv_n_tuple, iv_n_bool, iv_n_str, iv_n_int, okt_n, iv_b_list, iv_b_tuple, iv_b_bool, iv_b_str, iv_b_int, okt_b, iv_i_list, iv_i_tuple, iv_i_bool, iv_i_str, iv_i_int, okt_i, iv_s_list, iv_s_tuple, iv_s_bool, iv_s_str, iv_s_int, okt_s, iv_t_list, iv_t_tuple, iv_t_bool, iv_t_str, iv_t_int, okt_t, iv_r_list, iv_r_tuple, iv_r_bool, iv_r_str, iv_r_int, tru_b, tru_i, tru_n, tru_t, Option.map_some, Option.map_none, List.map_cons, List.map_nil, List.length_cons, List.length_nil, List.set_cons_zero, List.set_cons_succ, List.cons_append, List.nil_append, List.replicate, Nat.reduceAdd, Nat.reduceSub, Nat.reduceLeDiff, true_and, and_true, decide_eq_true_eq, reduceIte, Bool.false_eq_true, Bool.not_true, Bool.not_false, decide_true, decide_false]
          refine ⟨ts' ++ [(M * v + 1, v)], _, rfl, (get_set_eq P).trans ?_, by rw [List.getElem?_set_ne (by omega)]; exact Q, fun t h => (List.mem_append.mp h).elim (hr' t) fun e => ?_, List.mem_append_left _ hf', fun h => ?_, by simp; omega, G.set (Nat.le_refl _)⟩
          · rw [List.map_append]; rfl
          · rw [List.mem_singleton.mp e]
            have a1 : now * v ≤ M * v := Int.mul_le_mul_of_nonneg_right M1 (by omega)
            have a2 : (M + 1) * v ≤ rc.close * v := Int.mul_le_mul_of_nonneg_right (by omega) (by omega)
            rw [Int.add_mul] at a2
            refine ⟨hv0, hv1, ?_, ?_⟩
            · show now * v ≤ M * v + 1
              omega
            · show M * v + 1 ≤ rc.close * v
              omega
          · rw [hv2 (by omega)]
            exact List.mem_append_right _ List.mem_cons_self
        · clear P1 Q1 G1 P G
          rintro l m3 ⟨ts', x6, rfl, P, Q, hr', hf', hg', hl', G⟩
          have hN := hpos (M + 1) (by omega)
          refine ⟨ts', _, rfl, P, ⟨hr', hf', by simpa using hl', fun _ _ => ⟨M, M1, c2, M5, ?_, hg' (by simp)⟩⟩, G⟩
          rcases M4 with h | h
          · omega
          · omega
      · rw [if_neg c2]
        refine ⟨ts, _, rfl, P, ⟨rng0, hf, by omega, fun _ h => ?_⟩, G⟩
        have : M = rc.close := by omega
        rw [this] at M5
        omega
    · rw [if_neg c]
      exact ⟨ts, _, rfl, P, ⟨rng0, hf, by omega, fun h => absurd h c⟩, G⟩
  · rintro _ m3 ⟨ts', x6, rfl, P, hT, G⟩
    try simp -dsimp only [at0, at1, at2, at3, at4, at5, at6, wp_fn, s_nil, s_brk, s_cnt, s_expr, s_ret, s_retN, s_if, s_asn, s_par, s_asg, g_nm, g_nil, g_cons, g_tupT, g_subW, w_v0, w_vS, w_c, w_op, w_un, w_anil, w_acons, w_tup, w_lst, w_call, w_callU, w_isi, w_meth, w_tru, w_bool, w_notS, w_andS, w_orS, w_ifx, w_andV, w_orV, w_notV, w_chain, wp_ok, wp_bad, wp_some, wp_none, wp_liftif, wp_if, asB_b, wp_noex, add_ii, sub_ii, mul_ii, fdiv_ii, mod_ii, pow_ii, neg_i, cmp_ii, lt_ii, le_ii, gt_ii, ge_ii, le_cc, muls_ii, muls_si, ins_cs, iadd_ii, isub_ii, w_onone, w_osome, w_sl, sl_s, sl_t, s_aug, eq_ss, len_s, ix_s, add_ss, str_s, tuple_t, list_t, is_n, not_n, non_n, non_i, non_b, non_s, non_t, non_r, abs_i, max_ii, min_ii, int_i, int_b, gcd_ii, len_t, ix_t, eq_v, ne_v, eq_ii, eq_bb, eq_nn, eq_in, eq_ni, iv_n_list, iv_n_tuple, iv_n_bool, iv_n_str, iv_n_int, okt_n, iv_b_list, iv_b_tuple, iv_b_bool, iv_b_str, iv_b_int, okt_b, iv_i_list, iv_i_tuple, iv_i_bool, iv_i_str, iv_i_int, okt_i, iv_s_list, iv_s_tuple, iv_s_bool, iv_s_str, iv_s_int, okt_s, iv_t_list, iv_t_tuple, iv_t_bool, iv_t_str, iv_t_int, okt_t, iv_r_list, iv_r_tuple, iv_r_bool, iv_r_str, iv_r_int, tru_b, tru_i, tru_n, tru_t, Option.map_some, Option.map_none, List.map_cons, List.map_nil, List.length_cons, List.length_nil, List.set_cons_zero, List.set_cons_succ, List.cons_append, List.nil_append, List.replicate, Nat.reduceAdd, Nat.reduceSub, Nat.reduceLeDiff, true_and, and_true, decide_eq_true_eq, reduceIte, Bool.false_eq_true, Bool.not_true, Bool.not_false, decide_true, decide_false]
    exact ⟨ts', _, rfl, P, hT, G⟩
/-! ## who can be ahead, by the times -/
theorem Nf_step {D W s M Q : Int} (hD : 0 ≤ D ∧ D ≤ 1439) (hW : 0 ≤ W ∧ W ≤ 1439) (hQ : 1 ≤ Q) (h0 : Nf D W s M 1 = 0) (h1 : 0 < Nf D W s (M + 1) 1) : Nf D W s (M * Q + 1) Q = 1 := by
  have g1 : Gn D W (M * Q + 1) Q = Cn D W M * Q + dkn D W M * (M * Q + 1 - M * Q) := Gn_in hD hW (by omega) (by omega) (by rw [Int.add_mul]; omega)
  have g2 : Gn D W M 1 = Cn D W M * 1 + dkn D W M * (M - M * 1) := Gn_in hD hW (by decide) (by omega) (by omega)
  have g3 : Gn D W (M + 1) 1 = Cn D W M * 1 + dkn D W M * (M + 1 - M * 1) := Gn_in hD hW (by decide) (by omega) (by omega)
  have d := dkn_01 D W M
  unfold Nf at *
  rw [g1]
  rw [g2] at h0
  rw [g3] at h1
  have hd : dkn D W M = 0 := by
    rcases d with d | d
    · exact d
    · rw [d] at h0 h1; omega
  rw [hd] at h0 ⊢
  have e : M - s = Cn D W M - Gn D W s 1 := by omega
  have e2 : M = s + Cn D W M - Gn D W s 1 := by omega
  generalize Cn D W M = c at *
  generalize Gn D W s 1 = g at *
  rw [e2]
  grind
/-- the law's due -/
def dueP (sq : Int) (rc : Race) (a d : Int) (t : Int × Int) : Bool := match lspF sq rc.start rc.close rc.dusk rc.dawn t.1 t.2 with
  | .tup [.int u, .int v] => decide (a * v < u * d)
  | _ => false
theorem due_iff {sq : Int} {rc : Race} {L : List Loft} {now a d : Int} {ts : List (Int × Int)} (ro : RaceOk L rc) (hT : TmOk rc now ts) (h1 : rc.start ≤ now) (h2 : now ≤ rc.close) (hs : 0 < sq) (sb : SpB a d) :
    (ts.any (dueP sq rc a d)) = cba sq rc.start rc.close rc.dusk rc.dawn now a d := by
  have hD : 0 ≤ rc.dusk ∧ rc.dusk ≤ 1439 := by have := ro.dusk; omega
  have hW : 0 ≤ rc.dawn ∧ rc.dawn ≤ 1439 := by have := ro.dawn; omega
  have hd := sb.d0
  have ha := sb.a0
  rw [Bool.eq_iff_iff, List.any_eq_true]
  unfold cba
  have hn0 := Nf_pos (D := rc.dusk) (W := rc.dawn) (s := rc.start) (p := now) (q := 1) hD hW (by decide) (by omega)
  have due : ∀ t ∈ ts, dueP sq rc a d t = true ↔ 0 < Nf rc.dusk rc.dawn rc.start t.1 t.2 ∧ a * (Nf rc.dusk rc.dawn rc.start t.1 t.2 * Nf rc.dusk rc.dawn rc.start t.1 t.2) < sq * t.2 * t.2 * d := by
    intro t ht
    obtain ⟨q0, q1, q2, q3⟩ := hT.rng t ht
    unfold dueP
    by_cases c : rc.close * t.2 < t.1 ∨ Nf rc.dusk rc.dawn rc.start t.1 t.2 ≤ 0
    · rw [lspF_non c]
      simp
      intro h
      omega
    · obtain ⟨f, g, f1, f2, f3, f4, f5, f6⟩ := lspF_some (sq := sq) (s := rc.start) (D := rc.dusk) (W := rc.dawn) (c := rc.close) (p := t.1) (q := t.2) q0 c
      rw [f6]
      unfold fpv
      simp only [decide_eq_true_eq]
      have hN : 0 < Nf rc.dusk rc.dawn rc.start t.1 t.2 := by omega
      generalize Nf rc.dusk rc.dawn rc.start t.1 t.2 = N at *
      generalize t.2 = q at *
      have e1 : sq * g * g * (N * N) = sq * q * q * (f * f) := by
        have : sq * g * g * (N * N) = sq * ((N * g) * (N * g)) := by grind
        rw [this, ← f5]
        grind
      have := lt_red (a1 := a) (b1 := d) (a2 := sq * g * g) (b2 := f * f) (N1 := a) (D1 := d) (N2 := sq * q * q) (D2 := N * N) hd (Int.mul_pos f1 f1) hd (Int.mul_pos hN hN) rfl e1
      rw [this]
      exact ⟨fun h => ⟨hN, h⟩, fun h => h.2⟩
  by_cases c : Nf rc.dusk rc.dawn rc.start now 1 ≤ 0
  · rw [if_pos c, decide_eq_true_eq]
    constructor
    · rintro ⟨t, ht, h⟩
      obtain ⟨q0, q1, q2, q3⟩ := hT.rng t ht
      have hN := ((due t ht).mp h).1
      have := (Nf_mono (D := rc.dusk) (W := rc.dawn) (s := rc.start) (p := t.1) (q := t.2) (p' := rc.close) (q' := 1) hD hW q0 (by decide) (by omega)).1
      refine Int.pos_of_mul_pos_left (b := t.2) ?_ q0
      omega
    · intro hc
      obtain ⟨M, M1, M2, M3, M4, M5⟩ := hT.dark (by omega) hc
      refine ⟨_, M5, (due _ M5).mpr ?_⟩
      show 0 < Nf rc.dusk rc.dawn rc.start (M * 1000000000 + 1) 1000000000 ∧ _
      have e := Nf_step (s := rc.start) hD hW (show (1 : Int) ≤ 1000000000 by decide) M3 M4
      refine ⟨by omega, ?_⟩
      show a * (Nf rc.dusk rc.dawn rc.start (M * 1000000000 + 1) 1000000000 * Nf rc.dusk rc.dawn rc.start (M * 1000000000 + 1) 1000000000) < _
      rw [e]
      have a1 := sb.a1
      have h3 : 1 * 1 ≤ sq * d := Int.mul_le_mul (by omega) (by omega) (by decide) (by omega)
      have h4 : sq * 1000000000 * 1000000000 * d = sq * d * 1000000000000000000 := by grind
      show a * (1 * 1) < sq * 1000000000 * 1000000000 * d
      omega
  · rw [if_neg c, decide_eq_true_eq]
    constructor
    · rintro ⟨t, ht, h⟩
      obtain ⟨q0, q1, q2, q3⟩ := hT.rng t ht
      obtain ⟨hN, hlt⟩ := (due t ht).mp h
      have hm := (Nf_mono (D := rc.dusk) (W := rc.dawn) (s := rc.start) (p := now) (q := 1) (p' := t.1) (q' := t.2) hD hW (by decide) q0 (by omega)).1
      generalize Nf rc.dusk rc.dawn rc.start t.1 t.2 = N at *
      generalize Nf rc.dusk rc.dawn rc.start now 1 = n at *
      generalize t.2 = q at *
      -- n * q ≤ N
      have h3 : n * q * (n * q) ≤ N * N := Int.mul_le_mul (by omega) (by omega) (Int.mul_nonneg (by omega) (by omega)) (by omega)
      have h4 : a * (n * q * (n * q)) ≤ a * (N * N) := Int.mul_le_mul_of_nonneg_left h3 ha
      have e1 : a * (n * q * (n * q)) = a * (n * n) * (q * q) := by grind
      have e2 : sq * q * q * d = sq * d * (q * q) := by grind
      refine Int.lt_of_mul_lt_mul_right (a := q * q) ?_ (Int.mul_nonneg (by omega) (by omega))
      omega
    · intro h
      refine ⟨(now, 1), hT.fst, (due _ hT.fst).mpr ⟨?_, ?_⟩⟩
      · show 0 < Nf rc.dusk rc.dawn rc.start now 1
        omega
      · show a * (Nf rc.dusk rc.dawn rc.start now 1 * Nf rc.dusk rc.dawn rc.start now 1) < sq * 1 * 1 * d
        rw [Int.mul_one, Int.mul_one]
        exact h
/-! ## comprehensions that go item by item -/
theorem lc_mapL {α : Type} {f g : α → PV} {l : SM.Loc} {m : MH} {i : Nat} {Q : PV → MH → Prop} {E : EX} {se body : SE} (hi : i < l.length)
    (h : WP (se l m) (fun x m1 => ∃ (n : Nat) (xs : List α), x = .ref n ∧ m1[n]? = some (.lst (xs.map f)) ∧ xs.length ≤ 10000 ∧ (∀ x ∈ xs, ∀ m2, WP (body ((l.set i none).set i (some (f x))) m2) (fun y m' => y = g x ∧ m' = m2) NoE) ∧
      ∀ m2, Gr m1 m2 → m2[m1.length]? = some (.lst (xs.map g)) → Q (.ref m1.length) m2) NoE) : WP (sLc (iSeq se) (gNm i) tYesS body [i] l m) Q E := by
  refine w_lcL (h.mono ?_)
  rintro _ m1 ⟨n, xs, rfl, hn, hl, hb, q⟩
  refine ⟨n, _, rfl, seq_of_lst hn, fun j acc m2 => acc = (xs.take j).map g ∧ Gr m1 m2, ⟨rfl, Gr.one⟩, ?_, ?_⟩
  · rintro j x acc m2 hx ha ⟨rfl, G⟩
    refine ⟨seq_of_lst (G.get _ _ hn), ?_⟩
    rw [List.getElem?_map] at hx
    cases es : xs[j]? with
    | none => rw [es] at hx; cases hx
    | some r =>
    rw [es] at hx
    cases hx
    have hj := (List.getElem?_eq_some_iff.mp es).1
    have et : xs.take (j + 1) = xs.take j ++ [r] := by rw [List.take_succ, es]; rfl
    simp only [wipeP]
    rw [g_nm, w_yes, if_pos rfl]
    refine (hb r (List.mem_of_getElem? es) m2).mono ?_
    rintro _ m2 ⟨rfl, rfl⟩
    exact ⟨ha, by rw [List.length_map, List.length_take]; omega, by rw [et, List.map_append]; rfl, G.set (Nat.le_refl _)⟩
  · rintro acc m2 ha ⟨rfl, G⟩
    rw [List.length_map, List.take_length] at ha
    exact ⟨seq_of_lst (G.get _ _ hn), q m2 G ha⟩
theorem lc_mapT {α : Type} {f g : α → PV} {l : SM.Loc} {m : MH} {i : Nat} {Q : PV → MH → Prop} {E : EX} {se body : SE} (hi : i < l.length)
    (h : WP (se l m) (fun x m1 => ∃ (xs : List α), x = .tup (xs.map f) ∧ xs.length ≤ 10000 ∧ (∀ x ∈ xs, ∀ m2, WP (body ((l.set i none).set i (some (f x))) m2) (fun y m' => y = g x ∧ m' = m2) NoE) ∧
      ∀ m2, Gr m1 m2 → m2[m1.length]? = some (.lst (xs.map g)) → Q (.ref m1.length) m2) NoE) : WP (sLc (iSeq se) (gNm i) tYesS body [i] l m) Q E := by
  refine w_lcT (h.mono ?_)
  rintro _ m1 ⟨xs, rfl, hl, hb, q⟩
  refine ⟨_, rfl, fun j acc m2 => acc = (xs.take j).map g ∧ Gr m1 m2, ⟨rfl, Gr.one⟩, ?_, ?_⟩
  · rintro j x acc m2 hx ha ⟨rfl, G⟩
    rw [List.getElem?_map] at hx
    cases es : xs[j]? with
    | none => rw [es] at hx; cases hx
    | some r =>
    rw [es] at hx
    cases hx
    have hj := (List.getElem?_eq_some_iff.mp es).1
    have et : xs.take (j + 1) = xs.take j ++ [r] := by rw [List.take_succ, es]; rfl
    simp only [wipeP]
    rw [g_nm, w_yes, if_pos rfl]
    refine (hb r (List.mem_of_getElem? es) m2).mono ?_
    rintro _ m2 ⟨rfl, rfl⟩
    exact ⟨ha, by rw [List.length_map, List.length_take]; omega, by rw [et, List.map_append]; rfl, G.set (Nat.le_refl _)⟩
  · rintro acc m2 ha ⟨rfl, G⟩
    rw [List.length_map, List.take_length] at ha
    exact q m2 G ha
theorem tm_pv (t : Int × Int) : tmPV t = .tup [.int t.1, .int t.2] := rfl
theorem sqd_pos {l : Loft} {L : List Loft} {r : Race} (ro : RaceOk L r) (hl : l ∈ L) : 0 < sqd l r := by
  have h : (r.x, r.y) ≠ l.At := fun e => ro.pl (by rw [e]; exact List.mem_map_of_mem hl)
  unfold Loft.At at h
  have sq1 : ∀ z : Int, 0 ≤ z * z ∧ (z ≠ 0 → 0 < z * z) := by
    intro z
    rcases Int.lt_trichotomy z 0 with h | h | h
    · have : 0 < z * z := Int.mul_pos_of_neg_of_neg h h
      exact ⟨by omega, fun _ => this⟩
    · subst h; exact ⟨by decide, fun h => absurd rfl h⟩
    · have := Int.mul_pos h h
      exact ⟨by omega, fun _ => this⟩
  have a1 := sq1 (r.x - l.x)
  have a2 := sq1 (r.y - l.y)
  unfold sqd
  by_cases c : r.x = l.x
  · have c2 : r.y ≠ l.y := fun e => h (by rw [c, e])
    have := a2.2 (by omega)
    omega
  · have := a1.2 (by omega)
    omega
theorem loftB_mem {L : List Loft} {B : List Bird} {R : List Race} {bd : Bird} (hC : ClubG L B R) (hb : bd ∈ B) : loftB L bd ∈ L := by
  obtain ⟨j, _, e, _⟩ := loftB_ok hC hb
  exact List.mem_of_getElem? e
theorem goal : Goal := by
  intro ns hns
  suffices h : WP (f_law [.ref 0] [.frz (ns.map .int)]) (fun x m' => x = .bl true) NoE by
    obtain ⟨x, m', e, rfl⟩ := h.run
    exact ⟨m', e⟩
  have h0 : ([MO.frz (ns.map PV.int)] : MH)[0]? = some (.frz (ns.map .int)) := rfl
  unfold f_law b_law
  generalize [MO.frz (ns.map PV.int)] = m0 at *
  walk_at "w1"
  rw [s_seq]
  walk_at "w1"
  refine (given_ok h0).mono ?_
  rintro _ m1 ⟨L, B, R, cs, ss, n, q, rfl, hC, hc, hcl, hn, hq, hs, hsl, G1⟩
  have r1 := hC.r1
  have b2 := hC.b2
  walk_at "w1"
  rw [s_seq]
  walk_at "w1"
  refine (cell_ok (seq_of_frz (G1.get _ _ h0)) (by decide)).mono ?_
  rintro _ m1 ⟨rfl, rfl⟩
  generalize ns.getD _ 0 = c20
  unfold clubPV
  try simp -dsimp only [at0, at1, at2, at3, at4, at5, at6, wp_fn, s_nil, s_brk, s_cnt, s_expr, s_ret, s_retN, s_if, s_asn, s_par, s_asg, g_nm, g_nil, g_cons, g_tupT, g_subW, w_v0, w_vS, w_c, w_op, w_un, w_anil, w_acons, w_tup, w_lst, w_call, w_callU, w_isi, w_meth, w_tru, w_bool, w_notS, w_andS, w_orS, w_ifx, w_andV, w_orV, w_notV, w_chain, wp_ok, wp_bad, wp_some, wp_none, wp_liftif, wp_if, asB_b, wp_noex, add_ii, sub_ii, mul_ii, fdiv_ii, mod_ii, pow_ii, neg_i, cmp_ii, lt_ii, le_ii, gt_ii, ge_ii, le_cc, muls_ii, muls_si, ins_cs, iadd_ii, isub_ii, w_onone, w_osome, w_sl, sl_s, sl_t, s_aug, eq_ss, len_s, ix_s, add_ss, str_s, tuple_t, list_t, is_n, not_n, non_n, non_i, non_b, non_s, non_t, non_r, abs_i, max_ii, min_ii, int_i, int_b, gcd_ii, len_t, ix_t, eq_v, ne_v, eq_ii, eq_bb, eq_nn, eq_in, eq_ni, iv_n_list, iv_n_tuple, iv_n_bool, iv_n_str, iv_n_int, okt_n, iv_b_list, iv_b_tuple, iv_b_bool, iv_b_str, iv_b_int, okt_b, iv_i_list, iv_i_tuple, iv_i_bool, iv_i_str, iv_i_int, okt_i, iv_s_list, iv_s_tuple, iv_s_bool, iv_s_str, iv_s_int, okt_s, iv_t_list, iv_t_tuple, iv_t_bool, iv_t_str, iv_t_int, okt_t, iv_r_list, iv_r_tuple, iv_r_bool, iv_r_str, iv_r_int, tru_b, tru_i, tru_n, tru_t, Option.map_some, Option.map_none, List.map_cons, List.map_nil, List.length_cons, List.length_nil, List.set_cons_zero, List.set_cons_succ, List.cons_append, List.nil_append, List.replicate, Nat.reduceAdd, Nat.reduceSub, Nat.reduceLeDiff, true_and, and_true, decide_eq_true_eq, reduceIte, Bool.false_eq_true, Bool.not_true, Bool.not_false, decide_true, decide_false]
  rw [List.length_map, if_pos (by omega), fmod_pos (by omega)]
  have q1 := Int.emod_nonneg c20 (show ((R.length : Nat) : Int) ≠ 0 by omega)
  have q2 := Int.emod_lt_of_pos c20 (show (0 : Int) < (R.length : Nat) by omega)
  generalize c20 % ((R.length : Nat) : Int) = i at *
  obtain ⟨i, rfl⟩ := Int.eq_ofNat_of_zero_le q1
  have hr : R[i]? = some (R[i]'(by omega)) := List.getElem?_eq_getElem (by omega)
  generalize R[i]'(by omega) = rc at *
  have ro := hC.rx _ (List.mem_of_getElem? hr)
  have rs := hC.rs _ (List.mem_of_getElem? hr)
  have oc := ro.close
  have hD : 0 ≤ rc.dusk ∧ rc.dusk ≤ 1439 := by have := ro.dusk; omega
  have hW : 0 ≤ rc.dawn ∧ rc.dawn ≤ 1439 := by have := ro.dawn; omega
  have ln := fun (c : Int) (m : MH) => lnow_ok (m := m) (L := L) (B := B) (c := c) hr ro
  have rl := fun (m : MH) (hn : m[n]? = some (.lst (cs.map Clk.pv))) (hq : m[q]? = some (.lst (ss.map Slp.pv))) => racelist_okX (m := m) (i := i) (B := B) hn hq hc.ok hC.lx hC.rx hC.bn (fun s h => (hs s h).1) (by omega)
  have lt := fun (now : Int) (m : MH) (h1 : rc.start ≤ now) (h2 : now ≤ rc.close) => ltimes_ok (m := m) (L := L) (B := B) hr ro rs h1 h2
  have ls := fun (k : Nat) (bd : Bird) (p q : Int) (m : MH) (hk : B[k]? = some bd) (h1 : 0 < q) (h2 : q ≤ 1000000000) (h3 : rc.start * q ≤ p) (h4 : p ≤ 9999 * q) => lspeed_ok (m := m) hC hr hk rfl h1 h2 h3 h4
  have ah := fun (k : Nat) (bd : Bird) (now a d : Int) (m : MH) (hk : B[k]? = some bd) (h1 : rc.start ≤ now) (h2 : now ≤ rc.close) (hd : 0 < d) (hd2 : d < 18446744073709551616) => ahead_ok (m := m) (a := a) hC hr hk rfl h1 h2 hd hd2
  unfold clubPV at ln rl lt ls ah
  rw [s_seq]
  try simp -dsimp only [at0, at1, at2, at3, at4, at5, at6, wp_fn, s_nil, s_brk, s_cnt, s_expr, s_ret, s_retN, s_if, s_asn, s_par, s_asg, g_nm, g_nil, g_cons, g_tupT, g_subW, w_v0, w_vS, w_c, w_op, w_un, w_anil, w_acons, w_tup, w_lst, w_call, w_callU, w_isi, w_meth, w_tru, w_bool, w_notS, w_andS, w_orS, w_ifx, w_andV, w_orV, w_notV, w_chain, wp_ok, wp_bad, wp_some, wp_none, wp_liftif, wp_if, asB_b, wp_noex, add_ii, sub_ii, mul_ii, fdiv_ii, mod_ii, pow_ii, neg_i, cmp_ii, lt_ii, le_ii, gt_ii, ge_ii, le_cc, muls_ii, muls_si, ins_cs, iadd_ii, isub_ii, w_onone, w_osome, w_sl, sl_s, sl_t, s_aug, eq_ss, len_s, ix_s, add_ss, str_s, tuple_t, list_t, is_n, not_n, non_n, non_i, non_b, non_s, non_t, non_r, abs_i, max_ii, min_ii, int_i, int_b, gcd_ii, len_t, ix_t, eq_v, ne_v, eq_ii, eq_bb, eq_nn, eq_in, eq_ni, iv_n_list, iv_n_tuple, iv_n_bool, iv_n_str, iv_n_int, okt_n, iv_b_list, iv_b_tuple, iv_b_bool, iv_b_str, iv_b_int, okt_b, iv_i_list, iv_i_tuple, iv_i_bool, iv_i_str, iv_i_int, okt_i, iv_s_list, iv_s_tuple, iv_s_bool, iv_s_str, iv_s_int, okt_s, iv_t_list, iv_t_tuple, iv_t_bool, iv_t_str, iv_t_int, okt_t, iv_r_list, iv_r_tuple, iv_r_bool, iv_r_str, iv_r_int, tru_b, tru_i, tru_n, tru_t, Option.map_some, Option.map_none, List.map_cons, List.map_nil, List.length_cons, List.length_nil, List.set_cons_zero, List.set_cons_succ, List.cons_append, List.nil_append, List.replicate, Nat.reduceAdd, Nat.reduceSub, Nat.reduceLeDiff, true_and, and_true, decide_eq_true_eq, reduceIte, Bool.false_eq_true, Bool.not_true, Bool.not_false, decide_true, decide_false]
  refine (cell_ok (seq_of_frz (G1.get _ _ h0)) (by decide)).mono ?_
  rintro _ m1 ⟨rfl, rfl⟩
  generalize ns.getD _ 0 = c21
  try simp -dsimp only [at0, at1, at2, at3, at4, at5, at6, wp_fn, s_nil, s_brk, s_cnt, s_expr, s_ret, s_retN, s_if, s_asn, s_par, s_asg, g_nm, g_nil, g_cons, g_tupT, g_subW, w_v0, w_vS, w_c, w_op, w_un, w_anil, w_acons, w_tup, w_lst, w_call, w_callU, w_isi, w_meth, w_tru, w_bool, w_notS, w_andS, w_orS, w_ifx, w_andV, w_orV, w_notV, w_chain, wp_ok, wp_bad, wp_some, wp_none, wp_liftif, wp_if, asB_b, wp_noex, add_ii, sub_ii, mul_ii, fdiv_ii, mod_ii, pow_ii, neg_i, cmp_ii, lt_ii, le_ii, gt_ii, ge_ii, le_cc, muls_ii, muls_si, ins_cs, iadd_ii, isub_ii, w_onone, w_osome, w_sl, sl_s, sl_t, s_aug, eq_ss, len_s, ix_s, add_ss, str_s, tuple_t, list_t, is_n, not_n, non_n, non_i, non_b, non_s, non_t, non_r, abs_i, max_ii, min_ii, int_i, int_b, gcd_ii, len_t, ix_t, eq_v, ne_v, eq_ii, eq_bb, eq_nn, eq_in, eq_ni, iv_n_list, iv_n_tuple, iv_n_bool, iv_n_str, iv_n_int, okt_n, iv_b_list, iv_b_tuple, iv_b_bool, iv_b_str, iv_b_int, okt_b, iv_i_list, iv_i_tuple, iv_i_bool, iv_i_str, iv_i_int, okt_i, iv_s_list, iv_s_tuple, iv_s_bool, iv_s_str, iv_s_int, okt_s, iv_t_list, iv_t_tuple, iv_t_bool, iv_t_str, iv_t_int, okt_t, iv_r_list, iv_r_tuple, iv_r_bool, iv_r_str, iv_r_int, tru_b, tru_i, tru_n, tru_t, Option.map_some, Option.map_none, List.map_cons, List.map_nil, List.length_cons, List.length_nil, List.set_cons_zero, List.set_cons_succ, List.cons_append, List.nil_append, List.replicate, Nat.reduceAdd, Nat.reduceSub, Nat.reduceLeDiff, true_and, and_true, decide_eq_true_eq, reduceIte, Bool.false_eq_true, Bool.not_true, Bool.not_false, decide_true, decide_false]
  refine (ln _ _).mono ?_
  rintro _ m1 ⟨⟨now, rfl, w1, w2⟩, rfl⟩
  try simp -dsimp only [at0, at1, at2, at3, at4, at5, at6, wp_fn, s_nil, s_brk, s_cnt, s_expr, s_ret, s_retN, s_if, s_asn, s_par, s_asg, g_nm, g_nil, g_cons, g_tupT, g_subW, w_v0, w_vS, w_c, w_op, w_un, w_anil, w_acons, w_tup, w_lst, w_call, w_callU, w_isi, w_meth, w_tru, w_bool, w_notS, w_andS, w_orS, w_ifx, w_andV, w_orV, w_notV, w_chain, wp_ok, wp_bad, wp_some, wp_none, wp_liftif, wp_if, asB_b, wp_noex, add_ii, sub_ii, mul_ii, fdiv_ii, mod_ii, pow_ii, neg_i, cmp_ii, lt_ii, le_ii, gt_ii, ge_ii, le_cc, muls_ii, muls_si, ins_cs, iadd_ii, isub_ii, w_onone, w_osome, w_sl, sl_s, sl_t, s_aug, eq_ss, len_s, ix_s, add_ss, str_s, tuple_t, list_t, is_n, not_n, non_n, non_i, non_b, non_s, non_t, non_r, abs_i, max_ii, min_ii, int_i, int_b, gcd_ii, len_t, ix_t, eq_v, ne_v, eq_ii, eq_bb, eq_nn, eq_in, eq_ni, iv_n_list, iv_n_tuple, iv_n_bool, iv_n_str, iv_n_int, okt_n, iv_b_list, iv_b_tuple, iv_b_bool, iv_b_str, iv_b_int, okt_b, iv_i_list, iv_i_tuple, iv_i_bool, iv_i_str, iv_i_int, okt_i, iv_s_list, iv_s_tuple, iv_s_bool, iv_s_str, iv_s_int, okt_s, iv_t_list, iv_t_tuple, iv_t_bool, iv_t_str, iv_t_int, okt_t, iv_r_list, iv_r_tuple, iv_r_bool, iv_r_str, iv_r_int, tru_b, tru_i, tru_n, tru_t, Option.map_some, Option.map_none, List.map_cons, List.map_nil, List.length_cons, List.length_nil, List.set_cons_zero, List.set_cons_succ, List.cons_append, List.nil_append, List.replicate, Nat.reduceAdd, Nat.reduceSub, Nat.reduceLeDiff, true_and, and_true, decide_eq_true_eq, reduceIte, Bool.false_eq_true, Bool.not_true, Bool.not_false, decide_true, decide_false]
  rw [s_seq]
  try simp -dsimp only [at0, at1, at2, at3, at4, at5, at6, wp_fn, s_nil, s_brk, s_cnt, s_expr, s_ret, s_retN, s_if, s_asn, s_par, s_asg, g_nm, g_nil, g_cons, g_tupT, g_subW, w_v0, w_vS, w_c, w_op, w_un, w_anil, w_acons, w_tup, w_lst, w_call, w_callU, w_isi, w_meth, w_tru, w_bool, w_notS, w_andS, w_orS, w_ifx, w_andV, w_orV, w_notV, w_chain, wp_ok, wp_bad, wp_some, wp_none, wp_liftif, wp_if, asB_b, wp_noex, add_ii, sub_ii, mul_ii, fdiv_ii, mod_ii, pow_ii, neg_i, cmp_ii, lt_ii, le_ii, gt_ii, ge_ii, le_cc, muls_ii, muls_si, ins_cs, iadd_ii, isub_ii, w_onone, w_osome, w_sl, sl_s, sl_t, s_aug, eq_ss, len_s, ix_s, add_ss, str_s, tuple_t, list_t, is_n, not_n, non_n, non_i, non_b, non_s, non_t, non_r, abs_i, max_ii, min_ii, int_i, int_b, gcd_ii, len_t, ix_t, eq_v, ne_v, eq_ii, eq_bb, eq_nn, eq_in, eq_ni, iv_n_list, iv_n_tuple, iv_n_bool, iv_n_str, iv_n_int, okt_n, iv_b_list, iv_b_tuple, iv_b_bool, iv_b_str, iv_b_int, okt_b, iv_i_list, iv_i_tuple, iv_i_bool, iv_i_str, iv_i_int, okt_i, iv_s_list, iv_s_tuple, iv_s_bool, iv_s_str, iv_s_int, okt_s, iv_t_list, iv_t_tuple, iv_t_bool, iv_t_str, iv_t_int, okt_t, iv_r_list, iv_r_tuple, iv_r_bool, iv_r_str, iv_r_int, tru_b, tru_i, tru_n, tru_t, Option.map_some, Option.map_none, List.map_cons, List.map_nil, List.length_cons, List.length_nil, List.set_cons_zero, List.set_cons_succ, List.cons_append, List.nil_append, List.replicate, Nat.reduceAdd, Nat.reduceSub, Nat.reduceLeDiff, true_and, and_true, decide_eq_true_eq, reduceIte, Bool.false_eq_true, Bool.not_true, Bool.not_false, decide_true, decide_false]
  refine (rl _ hn hq).mono ?_
  rintro _ m2 ⟨k, rfl, hk, _, G2⟩
  have G2 := G1.trans G2
  have hrows : ∀ r ∈ listR L B R cs ss i, SpB r.a r.d := fun r h => by
    obtain ⟨p, hp, e1, e2, e3, _⟩ := rk_mem h
    obtain ⟨_, _, _, _, _, sb⟩ := prs_of hc.ok hC.lx hC.rx hp
    rw [e2, e3]; exact sb
  have hrl : (listR L B R cs ss i).length ≤ 9 := Nat.le_trans listR_len hsl
  generalize listR L B R cs ss i = rows at *
  clear rl hn hq
  try simp -dsimp only [at0, at1, at2, at3, at4, at5, at6, wp_fn, s_nil, s_brk, s_cnt, s_expr, s_ret, s_retN, s_if, s_asn, s_par, s_asg, g_nm, g_nil, g_cons, g_tupT, g_subW, w_v0, w_vS, w_c, w_op, w_un, w_anil, w_acons, w_tup, w_lst, w_call, w_callU, w_isi, w_meth, w_tru, w_bool, w_notS, w_andS, w_orS, w_ifx, w_andV, w_orV, w_notV, w_chain, wp_ok, wp_bad, wp_some, wp_none, wp_liftif, wp_if, asB_b, wp_noex, add_ii, sub_ii, mul_ii, fdiv_ii, mod_ii, pow_ii, neg_i, cmp_ii, lt_ii, le_ii, gt_ii, ge_ii, le_cc, muls_ii, muls_si, ins_cs, iadd_ii, isub_ii, w_onone, w_osome, w_sl, sl_s, sl_t, s_aug, eq_ss, len_s, ix_s, add_ss, str_s, tuple_t, list_t, is_n, not_n, non_n, non_i, non_b, non_s, non_t, non_r, abs_i, max_ii, min_ii, int_i, int_b, gcd_ii, len_t, ix_t, eq_v, ne_v, eq_ii, eq_bb, eq_nn, eq_in, eq_ni, iv_n_list, iv_n_tuple, iv_n_bool, iv_n_str, iv_n_int, okt_n, iv_b_list, iv_b_tuple, iv_b_bool, iv_b_str, iv_b_int, okt_b, iv_i_list, iv_i_tuple, iv_i_bool, iv_i_str, iv_i_int, okt_i, iv_s_list, iv_s_tuple, iv_s_bool, iv_s_str, iv_s_int, okt_s, iv_t_list, iv_t_tuple, iv_t_bool, iv_t_str, iv_t_int, okt_t, iv_r_list, iv_r_tuple, iv_r_bool, iv_r_str, iv_r_int, tru_b, tru_i, tru_n, tru_t, Option.map_some, Option.map_none, List.map_cons, List.map_nil, List.length_cons, List.length_nil, List.set_cons_zero, List.set_cons_succ, List.cons_append, List.nil_append, List.replicate, Nat.reduceAdd, Nat.reduceSub, Nat.reduceLeDiff, true_and, and_true, decide_eq_true_eq, reduceIte, Bool.false_eq_true, Bool.not_true, Bool.not_false, decide_true, decide_false]
  rw [s_seq]
  try simp -dsimp only [at0, at1, at2, at3, at4, at5, at6, wp_fn, s_nil, s_brk, s_cnt, s_expr, s_ret, s_retN, s_if, s_asn, s_par, s_asg, g_nm, g_nil, g_cons, g_tupT, g_subW, w_v0, w_vS, w_c, w_op, w_un, w_anil, w_acons, w_tup, w_lst, w_call, w_callU, w_isi, w_meth, w_tru, w_bool, w_notS, w_andS, w_orS, w_ifx, w_andV, w_orV, w_notV, w_chain, wp_ok, wp_bad, wp_some, wp_none, wp_liftif, wp_if, asB_b, wp_noex, add_ii, sub_ii, mul_ii, fdiv_ii, mod_ii, pow_ii, neg_i, cmp_ii, lt_ii, le_ii, gt_ii, ge_ii, le_cc, muls_ii, muls_si, ins_cs, iadd_ii, isub_ii, w_onone, w_osome, w_sl, sl_s, sl_t, s_aug, eq_ss, len_s, ix_s, add_ss, str_s, tuple_t, list_t, is_n, not_n, non_n, non_i, non_b, non_s, non_t, non_r, abs_i, max_ii, min_ii, int_i, int_b, gcd_ii, len_t, ix_t, eq_v, ne_v, eq_ii, eq_bb, eq_nn, eq_in, eq_ni, iv_n_list, iv_n_tuple, iv_n_bool, iv_n_str, iv_n_int, okt_n, iv_b_list, iv_b_tuple, iv_b_bool, iv_b_str, iv_b_int, okt_b, iv_i_list, iv_i_tuple, iv_i_bool, iv_i_str, iv_i_int, okt_i, iv_s_list, iv_s_tuple, iv_s_bool, iv_s_str, iv_s_int, okt_s, iv_t_list, iv_t_tuple, iv_t_bool, iv_t_str, iv_t_int, okt_t, iv_r_list, iv_r_tuple, iv_r_bool, iv_r_str, iv_r_int, tru_b, tru_i, tru_n, tru_t, Option.map_some, Option.map_none, List.map_cons, List.map_nil, List.length_cons, List.length_nil, List.set_cons_zero, List.set_cons_succ, List.cons_append, List.nil_append, List.replicate, Nat.reduceAdd, Nat.reduceSub, Nat.reduceLeDiff, true_and, and_true, decide_eq_true_eq, reduceIte, Bool.false_eq_true, Bool.not_true, Bool.not_false, decide_true, decide_false]
  refine lc_mapL (f := Rw.pv) (g := fun r : Rw => fpv r.a r.d) (by simp) ?_
  try simp -dsimp only [at0, at1, at2, at3, at4, at5, at6, wp_fn, s_nil, s_brk, s_cnt, s_expr, s_ret, s_retN, s_if, s_asn, s_par, s_asg, g_nm, g_nil, g_cons, g_tupT, g_subW, w_v0, w_vS, w_c, w_op, w_un, w_anil, w_acons, w_tup, w_lst, w_call, w_callU, w_isi, w_meth, w_tru, w_bool, w_notS, w_andS, w_orS, w_ifx, w_andV, w_orV, w_notV, w_chain, wp_ok, wp_bad, wp_some, wp_none, wp_liftif, wp_if, asB_b, wp_noex, add_ii, sub_ii, mul_ii, fdiv_ii, mod_ii, pow_ii, neg_i, cmp_ii, lt_ii, le_ii, gt_ii, ge_ii, le_cc, muls_ii, muls_si, ins_cs, iadd_ii, isub_ii, w_onone, w_osome, w_sl, sl_s, sl_t, s_aug, eq_ss, len_s, ix_s, add_ss, str_s, tuple_t, list_t, is_n, not_n, non_n, non_i, non_b, non_s, non_t, non_r, abs_i, max_ii, min_ii, int_i, int_b, gcd_ii, len_t, ix_t, eq_v, ne_v, eq_ii, eq_bb, eq_nn, eq_in, eq_ni, iv_n_list, iv_n_tuple, iv_n_bool, iv_n_str, iv_n_int, okt_n, iv_b_list, iv_b_tuple, iv_b_bool, iv_b_str, iv_b_int, okt_b, iv_i_list, iv_i_tuple, iv_i_bool, iv_i_str, iv_i_int, okt_i, iv_s_list, iv_s_tuple, iv_s_bool, iv_s_str, iv_s_int, okt_s, iv_t_list, iv_t_tuple, iv_t_bool, iv_t_str, iv_t_int, okt_t, iv_r_list, iv_r_tuple, iv_r_bool, iv_r_str, iv_r_int, tru_b, tru_i, tru_n, tru_t, Option.map_some, Option.map_none, List.map_cons, List.map_nil, List.length_cons, List.length_nil, List.set_cons_zero, List.set_cons_succ, List.cons_append, List.nil_append, List.replicate, Nat.reduceAdd, Nat.reduceSub, Nat.reduceLeDiff, true_and, and_true, decide_eq_true_eq, reduceIte, Bool.false_eq_true, Bool.not_true, Bool.not_false, decide_true, decide_false]
  refine ⟨k, rows, rfl, hk, by omega, fun r _ m => ?_, fun m3 G3 hm3 => ?_⟩
  · unfold Rw.pv
    try simp -dsimp only [at0, at1, at2, at3, at4, at5, at6, wp_fn, s_nil, s_brk, s_cnt, s_expr, s_ret, s_retN, s_if, s_asn, s_par, s_asg, g_nm, g_nil, g_cons, g_tupT, g_subW, w_v0, w_vS, w_c, w_op, w_un, w_anil, w_acons, w_tup, w_lst, w_call, w_callU, w_isi, w_meth, w_tru, w_bool, w_notS, w_andS, w_orS, w_ifx, w_andV, w_orV, w_notV, w_chain, wp_ok, wp_bad, wp_some, wp_none, wp_liftif, wp_if, asB_b, wp_noex, add_ii, sub_ii, mul_ii, fdiv_ii, mod_ii, pow_ii, neg_i, cmp_ii, lt_ii, le_ii, gt_ii, ge_ii, le_cc, muls_ii, muls_si, ins_cs, iadd_ii, isub_ii, w_onone, w_osome, w_sl, sl_s, sl_t, s_aug, eq_ss, len_s, ix_s, add_ss, str_s, tuple_t, list_t, is_n, not_n, non_n, non_i, non_b, non_s, non_t, non_r, abs_i, max_ii, min_ii, int_i, int_b, gcd_ii, len_t, ix_t, eq_v, ne_v, eq_ii, eq_bb, eq_nn, eq_in, eq_ni, iv_n_list, iv_n_tuple, iv_n_bool, iv_n_str, iv_n_int, okt_n, iv_b_list, iv_b_tuple, iv_b_bool, iv_b_str, iv_b_int, okt_b, iv_i_list, iv_i_tuple, iv_i_bool, iv_i_str, iv_i_int, okt_i, iv_s_list, iv_s_tuple, iv_s_bool, iv_s_str, iv_s_int, okt_s, iv_t_list, iv_t_tuple, iv_t_bool, iv_t_str, iv_t_int, okt_t, iv_r_list, iv_r_tuple, iv_r_bool, iv_r_str, iv_r_int, tru_b, tru_i, tru_n, tru_t, Option.map_some, Option.map_none, List.map_cons, List.map_nil, List.length_cons, List.length_nil, List.set_cons_zero, List.set_cons_succ, List.cons_append, List.nil_append, List.replicate, Nat.reduceAdd, Nat.reduceSub, Nat.reduceLeDiff, true_and, and_true, decide_eq_true_eq, reduceIte, Bool.false_eq_true, Bool.not_true, Bool.not_false, decide_true, decide_false]
  have G3 := G2.trans G3
  generalize m2.length = k3 at *
  try simp -dsimp only [at0, at1, at2, at3, at4, at5, at6, wp_fn, s_nil, s_brk, s_cnt, s_expr, s_ret, s_retN, s_if, s_asn, s_par, s_asg, g_nm, g_nil, g_cons, g_tupT, g_subW, w_v0, w_vS, w_c, w_op, w_un, w_anil, w_acons, w_tup, w_lst, w_call, w_callU, w_isi, w_meth, w_tru, w_bool, w_notS, w_andS, w_orS, w_ifx, w_andV, w_orV, w_notV, w_chain, wp_ok, wp_bad, wp_some, wp_none, wp_liftif, wp_if, asB_b, wp_noex, add_ii, sub_ii, mul_ii, fdiv_ii, mod_ii, pow_ii, neg_i, cmp_ii, lt_ii, le_ii, gt_ii, ge_ii, le_cc, muls_ii, muls_si, ins_cs, iadd_ii, isub_ii, w_onone, w_osome, w_sl, sl_s, sl_t, s_aug, eq_ss, len_s, ix_s, add_ss, str_s, tuple_t, list_t, is_n, not_n, non_n, non_i, non_b, non_s, non_t, non_r, abs_i, max_ii, min_ii, int_i, int_b, gcd_ii, len_t, ix_t, eq_v, ne_v, eq_ii, eq_bb, eq_nn, eq_in, eq_ni, iv_n_list, iv_n_tuple, iv_n_bool, iv_n_str, iv_n_int, okt_n, iv_b_list, iv_b_tuple, iv_b_bool, iv_b_str, iv_b_int, okt_b, iv_i_list, iv_i_tuple, iv_i_bool, iv_i_str, iv_i_int, okt_i, iv_s_list, iv_s_tuple, iv_s_bool, iv_s_str, iv_s_int, okt_s, iv_t_list, iv_t_tuple, iv_t_bool, iv_t_str, iv_t_int, okt_t, iv_r_list, iv_r_tuple, iv_r_bool, iv_r_str, iv_r_int, tru_b, tru_i, tru_n, tru_t, Option.map_some, Option.map_none, List.map_cons, List.map_nil, List.length_cons, List.length_nil, List.set_cons_zero, List.set_cons_succ, List.cons_append, List.nil_append, List.replicate, Nat.reduceAdd, Nat.reduceSub, Nat.reduceLeDiff, true_and, and_true, decide_eq_true_eq, reduceIte, Bool.false_eq_true, Bool.not_true, Bool.not_false, decide_true, decide_false]
  refine (cell_ok (seq_of_frz (G3.get _ _ h0)) (by decide)).mono ?_
  rintro _ m3 ⟨rfl, rfl⟩
  generalize ns.getD _ 0 = c22
  try simp -dsimp only [at0, at1, at2, at3, at4, at5, at6, wp_fn, s_nil, s_brk, s_cnt, s_expr, s_ret, s_retN, s_if, s_asn, s_par, s_asg, g_nm, g_nil, g_cons, g_tupT, g_subW, w_v0, w_vS, w_c, w_op, w_un, w_anil, w_acons, w_tup, w_lst, w_call, w_callU, w_isi, w_meth, w_tru, w_bool, w_notS, w_andS, w_orS, w_ifx, w_andV, w_orV, w_notV, w_chain, wp_ok, wp_bad, wp_some, wp_none, wp_liftif, wp_if, asB_b, wp_noex, add_ii, sub_ii, mul_ii, fdiv_ii, mod_ii, pow_ii, neg_i, cmp_ii, lt_ii, le_ii, gt_ii, ge_ii, le_cc, muls_ii, muls_si, ins_cs, iadd_ii, isub_ii, w_onone, w_osome, w_sl, sl_s, sl_t, s_aug, eq_ss, len_s, ix_s, add_ss, str_s, tuple_t, list_t, is_n, not_n, non_n, non_i, non_b, non_s, non_t, non_r, abs_i, max_ii, min_ii, int_i, int_b, gcd_ii, len_t, ix_t, eq_v, ne_v, eq_ii, eq_bb, eq_nn, eq_in, eq_ni, iv_n_list, iv_n_tuple, iv_n_bool, iv_n_str, iv_n_int, okt_n, iv_b_list, iv_b_tuple, iv_b_bool, iv_b_str, iv_b_int, okt_b, iv_i_list, iv_i_tuple, iv_i_bool, iv_i_str, iv_i_int, okt_i, iv_s_list, iv_s_tuple, iv_s_bool, iv_s_str, iv_s_int, okt_s, iv_t_list, iv_t_tuple, iv_t_bool, iv_t_str, iv_t_int, okt_t, iv_r_list, iv_r_tuple, iv_r_bool, iv_r_str, iv_r_int, tru_b, tru_i, tru_n, tru_t, Option.map_some, Option.map_none, List.map_cons, List.map_nil, List.length_cons, List.length_nil, List.set_cons_zero, List.set_cons_succ, List.cons_append, List.nil_append, List.replicate, Nat.reduceAdd, Nat.reduceSub, Nat.reduceLeDiff, true_and, and_true, decide_eq_true_eq, reduceIte, Bool.false_eq_true, Bool.not_true, Bool.not_false, decide_true, decide_false]
  rw [if_pos (by decide), fmod_pos (by decide)]
  try simp -dsimp only [at0, at1, at2, at3, at4, at5, at6, wp_fn, s_nil, s_brk, s_cnt, s_expr, s_ret, s_retN, s_if, s_asn, s_par, s_asg, g_nm, g_nil, g_cons, g_tupT, g_subW, w_v0, w_vS, w_c, w_op, w_un, w_anil, w_acons, w_tup, w_lst, w_call, w_callU, w_isi, w_meth, w_tru, w_bool, w_notS, w_andS, w_orS, w_ifx, w_andV, w_orV, w_notV, w_chain, wp_ok, wp_bad, wp_some, wp_none, wp_liftif, wp_if, asB_b, wp_noex, add_ii, sub_ii, mul_ii, fdiv_ii, mod_ii, pow_ii, neg_i, cmp_ii, lt_ii, le_ii, gt_ii, ge_ii, le_cc, muls_ii, muls_si, ins_cs, iadd_ii, isub_ii, w_onone, w_osome, w_sl, sl_s, sl_t, s_aug, eq_ss, len_s, ix_s, add_ss, str_s, tuple_t, list_t, is_n, not_n, non_n, non_i, non_b, non_s, non_t, non_r, abs_i, max_ii, min_ii, int_i, int_b, gcd_ii, len_t, ix_t, eq_v, ne_v, eq_ii, eq_bb, eq_nn, eq_in, eq_ni, iv_n_list, iv_n_tuple, iv_n_bool, iv_n_str, iv_n_int, okt_n, iv_b_list, iv_b_tuple, iv_b_bool, iv_b_str, iv_b_int, okt_b, iv_i_list, iv_i_tuple, iv_i_bool, iv_i_str, iv_i_int, okt_i, iv_s_list, iv_s_tuple, iv_s_bool, iv_s_str, iv_s_int, okt_s, iv_t_list, iv_t_tuple, iv_t_bool, iv_t_str, iv_t_int, okt_t, iv_r_list, iv_r_tuple, iv_r_bool, iv_r_str, iv_r_int, tru_b, tru_i, tru_n, tru_t, Option.map_some, Option.map_none, List.map_cons, List.map_nil, List.length_cons, List.length_nil, List.set_cons_zero, List.set_cons_succ, List.cons_append, List.nil_append, List.replicate, Nat.reduceAdd, Nat.reduceSub, Nat.reduceLeDiff, true_and, and_true, decide_eq_true_eq, reduceIte, Bool.false_eq_true, Bool.not_true, Bool.not_false, decide_true, decide_false]
  refine (cell_ok (seq_of_frz (G3.get _ _ h0)) (by decide)).mono ?_
  rintro _ m3 ⟨rfl, rfl⟩
  generalize ns.getD _ 0 = c23
  try simp -dsimp only [at0, at1, at2, at3, at4, at5, at6, wp_fn, s_nil, s_brk, s_cnt, s_expr, s_ret, s_retN, s_if, s_asn, s_par, s_asg, g_nm, g_nil, g_cons, g_tupT, g_subW, w_v0, w_vS, w_c, w_op, w_un, w_anil, w_acons, w_tup, w_lst, w_call, w_callU, w_isi, w_meth, w_tru, w_bool, w_notS, w_andS, w_orS, w_ifx, w_andV, w_orV, w_notV, w_chain, wp_ok, wp_bad, wp_some, wp_none, wp_liftif, wp_if, asB_b, wp_noex, add_ii, sub_ii, mul_ii, fdiv_ii, mod_ii, pow_ii, neg_i, cmp_ii, lt_ii, le_ii, gt_ii, ge_ii, le_cc, muls_ii, muls_si, ins_cs, iadd_ii, isub_ii, w_onone, w_osome, w_sl, sl_s, sl_t, s_aug, eq_ss, len_s, ix_s, add_ss, str_s, tuple_t, list_t, is_n, not_n, non_n, non_i, non_b, non_s, non_t, non_r, abs_i, max_ii, min_ii, int_i, int_b, gcd_ii, len_t, ix_t, eq_v, ne_v, eq_ii, eq_bb, eq_nn, eq_in, eq_ni, iv_n_list, iv_n_tuple, iv_n_bool, iv_n_str, iv_n_int, okt_n, iv_b_list, iv_b_tuple, iv_b_bool, iv_b_str, iv_b_int, okt_b, iv_i_list, iv_i_tuple, iv_i_bool, iv_i_str, iv_i_int, okt_i, iv_s_list, iv_s_tuple, iv_s_bool, iv_s_str, iv_s_int, okt_s, iv_t_list, iv_t_tuple, iv_t_bool, iv_t_str, iv_t_int, okt_t, iv_r_list, iv_r_tuple, iv_r_bool, iv_r_str, iv_r_int, tru_b, tru_i, tru_n, tru_t, Option.map_some, Option.map_none, List.map_cons, List.map_nil, List.length_cons, List.length_nil, List.set_cons_zero, List.set_cons_succ, List.cons_append, List.nil_append, List.replicate, Nat.reduceAdd, Nat.reduceSub, Nat.reduceLeDiff, true_and, and_true, decide_eq_true_eq, reduceIte, Bool.false_eq_true, Bool.not_true, Bool.not_false, decide_true, decide_false]
  rw [if_pos (by decide), fmod_pos (by decide)]
  try simp -dsimp only [at0, at1, at2, at3, at4, at5, at6, wp_fn, s_nil, s_brk, s_cnt, s_expr, s_ret, s_retN, s_if, s_asn, s_par, s_asg, g_nm, g_nil, g_cons, g_tupT, g_subW, w_v0, w_vS, w_c, w_op, w_un, w_anil, w_acons, w_tup, w_lst, w_call, w_callU, w_isi, w_meth, w_tru, w_bool, w_notS, w_andS, w_orS, w_ifx, w_andV, w_orV, w_notV, w_chain, wp_ok, wp_bad, wp_some, wp_none, wp_liftif, wp_if, asB_b, wp_noex, add_ii, sub_ii, mul_ii, fdiv_ii, mod_ii, pow_ii, neg_i, cmp_ii, lt_ii, le_ii, gt_ii, ge_ii, le_cc, muls_ii, muls_si, ins_cs, iadd_ii, isub_ii, w_onone, w_osome, w_sl, sl_s, sl_t, s_aug, eq_ss, len_s, ix_s, add_ss, str_s, tuple_t, list_t, is_n, not_n, non_n, non_i, non_b, non_s, non_t, non_r, abs_i, max_ii, min_ii, int_i, int_b, gcd_ii, len_t, ix_t, eq_v, ne_v, eq_ii, eq_bb, eq_nn, eq_in, eq_ni, iv_n_list, iv_n_tuple, iv_n_bool, iv_n_str, iv_n_int, okt_n, iv_b_list, iv_b_tuple, iv_b_bool, iv_b_str, iv_b_int, okt_b, iv_i_list, iv_i_tuple, iv_i_bool, iv_i_str, iv_i_int, okt_i, iv_s_list, iv_s_tuple, iv_s_bool, iv_s_str, iv_s_int, okt_s, iv_t_list, iv_t_tuple, iv_t_bool, iv_t_str, iv_t_int, okt_t, iv_r_list, iv_r_tuple, iv_r_bool, iv_r_str, iv_r_int, tru_b, tru_i, tru_n, tru_t, Option.map_some, Option.map_none, List.map_cons, List.map_nil, List.length_cons, List.length_nil, List.set_cons_zero, List.set_cons_succ, List.cons_append, List.nil_append, List.replicate, Nat.reduceAdd, Nat.reduceSub, Nat.reduceLeDiff, true_and, and_true, decide_eq_true_eq, reduceIte, Bool.false_eq_true, Bool.not_true, Bool.not_false, decide_true, decide_false]
  refine (lfrac_ok (p := 1 + c22 % 5000) (q := 1 + c23 % 90) (by omega) (by omega) (by omega) (by omega)).mono ?_
  rintro _ m3 ⟨rfl, rfl⟩
  obtain ⟨a0, d0, e1, e2, e3, e4, e5⟩ := lowv_red (p := 1 + c22 % 5000) (q := 1 + c23 % 90) (by omega)
  have hd0 := e2.pos
  have ha0 : 0 ≤ a0 := by
    refine Int.le_of_mul_le_mul_right (a := 1 + c23 % 90) ?_ (by omega)
    rw [e3, Int.zero_mul]
    exact Int.mul_nonneg (by omega) (by omega)
  have sb0 : SpB a0 d0 := ⟨hd0, by omega, ha0, by omega, e2⟩
  rw [e1]
  try simp -dsimp only [at0, at1, at2, at3, at4, at5, at6, wp_fn, s_nil, s_brk, s_cnt, s_expr, s_ret, s_retN, s_if, s_asn, s_par, s_asg, g_nm, g_nil, g_cons, g_tupT, g_subW, w_v0, w_vS, w_c, w_op, w_un, w_anil, w_acons, w_tup, w_lst, w_call, w_callU, w_isi, w_meth, w_tru, w_bool, w_notS, w_andS, w_orS, w_ifx, w_andV, w_orV, w_notV, w_chain, wp_ok, wp_bad, wp_some, wp_none, wp_liftif, wp_if, asB_b, wp_noex, add_ii, sub_ii, mul_ii, fdiv_ii, mod_ii, pow_ii, neg_i, cmp_ii, lt_ii, le_ii, gt_ii, ge_ii, le_cc, muls_ii, muls_si, ins_cs, iadd_ii, isub_ii, w_onone, w_osome, w_sl, sl_s, sl_t, s_aug, eq_ss, len_s, ix_s, add_ss, str_s, tuple_t, list_t, is_n, not_n, non_n, non_i, non_b, non_s, non_t, non_r, abs_i, max_ii, min_ii, int_i, int_b, gcd_ii, len_t, ix_t, eq_v, ne_v, eq_ii, eq_bb, eq_nn, eq_in, eq_ni, iv_n_list, iv_n_tuple, iv_n_bool, iv_n_str, iv_n_int, okt_n, iv_b_list, iv_b_tuple, iv_b_bool, iv_b_str, iv_b_int, okt_b, iv_i_list, iv_i_tuple, iv_i_bool, iv_i_str, iv_i_int, okt_i, iv_s_list, iv_s_tuple, iv_s_bool, iv_s_str, iv_s_int, okt_s, iv_t_list, iv_t_tuple, iv_t_bool, iv_t_str, iv_t_int, okt_t, iv_r_list, iv_r_tuple, iv_r_bool, iv_r_str, iv_r_int, tru_b, tru_i, tru_n, tru_t, Option.map_some, Option.map_none, List.map_cons, List.map_nil, List.length_cons, List.length_nil, List.set_cons_zero, List.set_cons_succ, List.cons_append, List.nil_append, List.replicate, Nat.reduceAdd, Nat.reduceSub, Nat.reduceLeDiff, true_and, and_true, decide_eq_true_eq, reduceIte, Bool.false_eq_true, Bool.not_true, Bool.not_false, decide_true, decide_false]
  rw [add_rr (lst_of (get_old hm3)) (lst_of get_new), if_pos (by simp; omega)]
  try simp -dsimp only [at0, at1, at2, at3, at4, at5, at6, wp_fn, s_nil, s_brk, s_cnt, s_expr, s_ret, s_retN, s_if, s_asn, s_par, s_asg, g_nm, g_nil, g_cons, g_tupT, g_subW, w_v0, w_vS, w_c, w_op, w_un, w_anil, w_acons, w_tup, w_lst, w_call, w_callU, w_isi, w_meth, w_tru, w_bool, w_notS, w_andS, w_orS, w_ifx, w_andV, w_orV, w_notV, w_chain, wp_ok, wp_bad, wp_some, wp_none, wp_liftif, wp_if, asB_b, wp_noex, add_ii, sub_ii, mul_ii, fdiv_ii, mod_ii, pow_ii, neg_i, cmp_ii, lt_ii, le_ii, gt_ii, ge_ii, le_cc, muls_ii, muls_si, ins_cs, iadd_ii, isub_ii, w_onone, w_osome, w_sl, sl_s, sl_t, s_aug, eq_ss, len_s, ix_s, add_ss, str_s, tuple_t, list_t, is_n, not_n, non_n, non_i, non_b, non_s, non_t, non_r, abs_i, max_ii, min_ii, int_i, int_b, gcd_ii, len_t, ix_t, eq_v, ne_v, eq_ii, eq_bb, eq_nn, eq_in, eq_ni, iv_n_list, iv_n_tuple, iv_n_bool, iv_n_str, iv_n_int, okt_n, iv_b_list, iv_b_tuple, iv_b_bool, iv_b_str, iv_b_int, okt_b, iv_i_list, iv_i_tuple, iv_i_bool, iv_i_str, iv_i_int, okt_i, iv_s_list, iv_s_tuple, iv_s_bool, iv_s_str, iv_s_int, okt_s, iv_t_list, iv_t_tuple, iv_t_bool, iv_t_str, iv_t_int, okt_t, iv_r_list, iv_r_tuple, iv_r_bool, iv_r_str, iv_r_int, tru_b, tru_i, tru_n, tru_t, Option.map_some, Option.map_none, List.map_cons, List.map_nil, List.length_cons, List.length_nil, List.set_cons_zero, List.set_cons_succ, List.cons_append, List.nil_append, List.replicate, Nat.reduceAdd, Nat.reduceSub, Nat.reduceLeDiff, true_and, and_true, decide_eq_true_eq, reduceIte, Bool.false_eq_true, Bool.not_true, Bool.not_false, decide_true, decide_false]
  obtain ⟨sp, esp, hsp, hspl⟩ : ∃ sp : List (Int × Int), (rows.map fun r : Rw => fpv r.a r.d) ++ [fpv a0 d0] = sp.map tmPV ∧ (∀ s ∈ sp, SpB s.1 s.2) ∧ sp.length ≤ 10 := by
    refine ⟨rows.map (fun r => (r.a, r.d)) ++ [(a0, d0)], ?_, fun s h => ?_, by simp; omega⟩
    · rw [List.map_append, List.map_map]; rfl
    · rcases List.mem_append.mp h with h | h
      · obtain ⟨r, hr', rfl⟩ := List.mem_map.mp h
        exact hrows r hr'
      · rw [List.mem_singleton.mp h]; exact sb0
  have S4 := get_new (m := m3 ++ [MO.lst [fpv a0 d0]]) (o := MO.lst ((rows.map fun r : Rw => fpv r.a r.d) ++ [fpv a0 d0]))
  have G4 := (G3.push (MO.lst [fpv a0 d0])).push (MO.lst ((rows.map fun r : Rw => fpv r.a r.d) ++ [fpv a0 d0]))
  rw [esp] at S4 G4 ⊢
  generalize (m3 ++ [MO.lst [fpv a0 d0]]) ++ [MO.lst (sp.map tmPV)] = m4 at *
  generalize (m3 ++ [MO.lst [fpv a0 d0]]).length = k4 at *
  clear hm3 G3 hk G2 ln
  rw [s_seq]
  try simp -dsimp only [at0, at1, at2, at3, at4, at5, at6, wp_fn, s_nil, s_brk, s_cnt, s_expr, s_ret, s_retN, s_if, s_asn, s_par, s_asg, g_nm, g_nil, g_cons, g_tupT, g_subW, w_v0, w_vS, w_c, w_op, w_un, w_anil, w_acons, w_tup, w_lst, w_call, w_callU, w_isi, w_meth, w_tru, w_bool, w_notS, w_andS, w_orS, w_ifx, w_andV, w_orV, w_notV, w_chain, wp_ok, wp_bad, wp_some, wp_none, wp_liftif, wp_if, asB_b, wp_noex, add_ii, sub_ii, mul_ii, fdiv_ii, mod_ii, pow_ii, neg_i, cmp_ii, lt_ii, le_ii, gt_ii, ge_ii, le_cc, muls_ii, muls_si, ins_cs, iadd_ii, isub_ii, w_onone, w_osome, w_sl, sl_s, sl_t, s_aug, eq_ss, len_s, ix_s, add_ss, str_s, tuple_t, list_t, is_n, not_n, non_n, non_i, non_b, non_s, non_t, non_r, abs_i, max_ii, min_ii, int_i, int_b, gcd_ii, len_t, ix_t, eq_v, ne_v, eq_ii, eq_bb, eq_nn, eq_in, eq_ni, iv_n_list, iv_n_tuple, iv_n_bool, iv_n_str, iv_n_int, okt_n, iv_b_list, iv_b_tuple, iv_b_bool, iv_b_str, iv_b_int, okt_b, iv_i_list, iv_i_tuple, iv_i_bool, iv_i_str, iv_i_int, okt_i, iv_s_list, iv_s_tuple, iv_s_bool, iv_s_str, iv_s_int, okt_s, iv_t_list, iv_t_tuple, iv_t_bool, iv_t_str, iv_t_int, okt_t, iv_r_list, iv_r_tuple, iv_r_bool, iv_r_str, iv_r_int, tru_b, tru_i, tru_n, tru_t, Option.map_some, Option.map_none, List.map_cons, List.map_nil, List.length_cons, List.length_nil, List.set_cons_zero, List.set_cons_succ, List.cons_append, List.nil_append, List.replicate, Nat.reduceAdd, Nat.reduceSub, Nat.reduceLeDiff, true_and, and_true, decide_eq_true_eq, reduceIte, Bool.false_eq_true, Bool.not_true, Bool.not_false, decide_true, decide_false]
  refine (lt _ _ w1 w2).mono ?_
  rintro _ m5 ⟨ts, k5, rfl, T5, hT, G5⟩
  have S5 := G5.get _ _ S4
  clear S4 G4 lt
  have tl := hT.len
  try simp -dsimp only [at0, at1, at2, at3, at4, at5, at6, wp_fn, s_nil, s_brk, s_cnt, s_expr, s_ret, s_retN, s_if, s_asn, s_par, s_asg, g_nm, g_nil, g_cons, g_tupT, g_subW, w_v0, w_vS, w_c, w_op, w_un, w_anil, w_acons, w_tup, w_lst, w_call, w_callU, w_isi, w_meth, w_tru, w_bool, w_notS, w_andS, w_orS, w_ifx, w_andV, w_orV, w_notV, w_chain, wp_ok, wp_bad, wp_some, wp_none, wp_liftif, wp_if, asB_b, wp_noex, add_ii, sub_ii, mul_ii, fdiv_ii, mod_ii, pow_ii, neg_i, cmp_ii, lt_ii, le_ii, gt_ii, ge_ii, le_cc, muls_ii, muls_si, ins_cs, iadd_ii, isub_ii, w_onone, w_osome, w_sl, sl_s, sl_t, s_aug, eq_ss, len_s, ix_s, add_ss, str_s, tuple_t, list_t, is_n, not_n, non_n, non_i, non_b, non_s, non_t, non_r, abs_i, max_ii, min_ii, int_i, int_b, gcd_ii, len_t, ix_t, eq_v, ne_v, eq_ii, eq_bb, eq_nn, eq_in, eq_ni, iv_n_list, iv_n_tuple, iv_n_bool, iv_n_str, iv_n_int, okt_n, iv_b_list, iv_b_tuple, iv_b_bool, iv_b_str, iv_b_int, okt_b, iv_i_list, iv_i_tuple, iv_i_bool, iv_i_str, iv_i_int, okt_i, iv_s_list, iv_s_tuple, iv_s_bool, iv_s_str, iv_s_int, okt_s, iv_t_list, iv_t_tuple, iv_t_bool, iv_t_str, iv_t_int, okt_t, iv_r_list, iv_r_tuple, iv_r_bool, iv_r_str, iv_r_int, tru_b, tru_i, tru_n, tru_t, Option.map_some, Option.map_none, List.map_cons, List.map_nil, List.length_cons, List.length_nil, List.set_cons_zero, List.set_cons_succ, List.cons_append, List.nil_append, List.replicate, Nat.reduceAdd, Nat.reduceSub, Nat.reduceLeDiff, true_and, and_true, decide_eq_true_eq, reduceIte, Bool.false_eq_true, Bool.not_true, Bool.not_false, decide_true, decide_false]
  rw [s_seq]
  refine s_forTW ?_
  try simp -dsimp only [at0, at1, at2, at3, at4, at5, at6, wp_fn, s_nil, s_brk, s_cnt, s_expr, s_ret, s_retN, s_if, s_asn, s_par, s_asg, g_nm, g_nil, g_cons, g_tupT, g_subW, w_v0, w_vS, w_c, w_op, w_un, w_anil, w_acons, w_tup, w_lst, w_call, w_callU, w_isi, w_meth, w_tru, w_bool, w_notS, w_andS, w_orS, w_ifx, w_andV, w_orV, w_notV, w_chain, wp_ok, wp_bad, wp_some, wp_none, wp_liftif, wp_if, asB_b, wp_noex, add_ii, sub_ii, mul_ii, fdiv_ii, mod_ii, pow_ii, neg_i, cmp_ii, lt_ii, le_ii, gt_ii, ge_ii, le_cc, muls_ii, muls_si, ins_cs, iadd_ii, isub_ii, w_onone, w_osome, w_sl, sl_s, sl_t, s_aug, eq_ss, len_s, ix_s, add_ss, str_s, tuple_t, list_t, is_n, not_n, non_n, non_i, non_b, non_s, non_t, non_r, abs_i, max_ii, min_ii, int_i, int_b, gcd_ii, len_t, ix_t, eq_v, ne_v, eq_ii, eq_bb, eq_nn, eq_in, eq_ni, iv_n_list, iv_n_tuple, iv_n_bool, iv_n_str, iv_n_int, okt_n, iv_b_list, iv_b_tuple, iv_b_bool, iv_b_str, iv_b_int, okt_b, iv_i_list, iv_i_tuple, iv_i_bool, iv_i_str, iv_i_int, okt_i, iv_s_list, iv_s_tuple, iv_s_bool, iv_s_str, iv_s_int, okt_s, iv_t_list, iv_t_tuple, iv_t_bool, iv_t_str, iv_t_int, okt_t, iv_r_list, iv_r_tuple, iv_r_bool, iv_r_str, iv_r_int, tru_b, tru_i, tru_n, tru_t, Option.map_some, Option.map_none, List.map_cons, List.map_nil, List.length_cons, List.length_nil, List.set_cons_zero, List.set_cons_succ, List.cons_append, List.nil_append, List.replicate, Nat.reduceAdd, Nat.reduceSub, Nat.reduceLeDiff, true_and, and_true, decide_eq_true_eq, reduceIte, Bool.false_eq_true, Bool.not_true, Bool.not_false, decide_true, decide_false]
  refine ⟨_, rfl, fun j l m' => ∃ x8 x10 x11 x12 x13 x14 x15, l = [some (.ref 0), some (.tup [.tup (L.map Loft.pv), .tup (B.map Bird.pv), .tup (R.map Race.pv)]), some (.ref n), some (.ref q), some (.int (i : Nat)), some (.int now), some (.ref k), some (.ref k4), x8, some (.ref k5), x10, x11, x12, x13, x14, x15] ∧ m'[k4]? = some (.lst (sp.map tmPV)) ∧ m'[k5]? = some (.lst (ts.map tmPV)), ⟨_, _, _, _, _, _, _, rfl, S5, T5⟩, ?_, ?_⟩
  · clear S5 T5 G5
    rintro j x l m' hx ⟨x8, x10, x11, x12, x13, x14, x15, rfl, S, T⟩
    rw [List.getElem?_map] at hx
    cases es : B[j]? with
    | none => rw [es] at hx; cases hx
    | some bd =>
    rw [es] at hx
    cases hx
    have hs0 := sqd_pos ro (loftB_mem hC (List.mem_of_getElem? es))
    have hsb := sqd_bd ro (hC.lx _ (loftB_mem hC (List.mem_of_getElem? es)))
    unfold law_l2 Bird.pv
    try simp -dsimp only [at0, at1, at2, at3, at4, at5, at6, wp_fn, s_nil, s_brk, s_cnt, s_expr, s_ret, s_retN, s_if, s_asn, s_par, s_asg, g_nm, g_nil, g_cons, g_tupT, g_subW, w_v0, w_vS, w_c, w_op, w_un, w_anil, w_acons, w_tup, w_lst, w_call, w_callU, w_isi, w_meth, w_tru, w_bool, w_notS, w_andS, w_orS, w_ifx, w_andV, w_orV, w_notV, w_chain, wp_ok, wp_bad, wp_some, wp_none, wp_liftif, wp_if, asB_b, wp_noex, add_ii, sub_ii, mul_ii, fdiv_ii, mod_ii, pow_ii, neg_i, cmp_ii, lt_ii, le_ii, gt_ii, ge_ii, le_cc, muls_ii, muls_si, ins_cs, iadd_ii, isub_ii, w_onone, w_osome, w_sl, sl_s, sl_t, s_aug, eq_ss, len_s, ix_s, add_ss, str_s, tuple_t, list_t, is_n, not_n, non_n, non_i, non_b, non_s, non_t, non_r, abs_i, max_ii, min_ii, int_i, int_b, gcd_ii, len_t, ix_t, eq_v, ne_v, eq_ii, eq_bb, eq_nn, eq_in, eq_ni, iv_n_list, iv_n_tuple, iv_n_bool, iv_n_str, iv_n_int, okt_n, iv_b_list, iv_b_tuple, iv_b_bool, iv_b_str, iv_b_int, okt_b, iv_i_list, iv_i_tuple, iv_i_bool, iv_i_str, iv_i_int, okt_i, iv_s_list, iv_s_tuple, iv_s_bool, iv_s_str, iv_s_int, okt_s, iv_t_list, iv_t_tuple, iv_t_bool, iv_t_str, iv_t_int, okt_t, iv_r_list, iv_r_tuple, iv_r_bool, iv_r_str, iv_r_int, tru_b, tru_i, tru_n, tru_t, Option.map_some, Option.map_none, List.map_cons, List.map_nil, List.length_cons, List.length_nil, List.set_cons_zero, List.set_cons_succ, List.cons_append, List.nil_append, List.replicate, Nat.reduceAdd, Nat.reduceSub, Nat.reduceLeDiff, true_and, and_true, decide_eq_true_eq, reduceIte, Bool.false_eq_true, Bool.not_true, Bool.not_false, decide_true, decide_false]
    rw [s_seq]
    try simp -dsimp only [at0, at1, at2, at3, at4, at5, at6, wp_fn, s_nil, s_brk, s_cnt, s_expr, s_ret, s_retN, s_if, s_asn, s_par, s_asg, g_nm, g_nil, g_cons, g_tupT, g_subW, w_v0, w_vS, w_c, w_op, w_un, w_anil, w_acons, w_tup, w_lst, w_call, w_callU, w_isi, w_meth, w_tru, w_bool, w_notS, w_andS, w_orS, w_ifx, w_andV, w_orV, w_notV, w_chain, wp_ok, wp_bad, wp_some, wp_none, wp_liftif, wp_if, asB_b, wp_noex, add_ii, sub_ii, mul_ii, fdiv_ii, mod_ii, pow_ii, neg_i, cmp_ii, lt_ii, le_ii, gt_ii, ge_ii, le_cc, muls_ii, muls_si, ins_cs, iadd_ii, isub_ii, w_onone, w_osome, w_sl, sl_s, sl_t, s_aug, eq_ss, len_s, ix_s, add_ss, str_s, tuple_t, list_t, is_n, not_n, non_n, non_i, non_b, non_s, non_t, non_r, abs_i, max_ii, min_ii, int_i, int_b, gcd_ii, len_t, ix_t, eq_v, ne_v, eq_ii, eq_bb, eq_nn, eq_in, eq_ni, iv_n_list, iv_n_tuple, iv_n_bool, iv_n_str, iv_n_int, okt_n, iv_b_list, iv_b_tuple, iv_b_bool, iv_b_str, iv_b_int, okt_b, iv_i_list, iv_i_tuple, iv_i_bool, iv_i_str, iv_i_int, okt_i, iv_s_list, iv_s_tuple, iv_s_bool, iv_s_str, iv_s_int, okt_s, iv_t_list, iv_t_tuple, iv_t_bool, iv_t_str, iv_t_int, okt_t, iv_r_list, iv_r_tuple, iv_r_bool, iv_r_str, iv_r_int, tru_b, tru_i, tru_n, tru_t, Option.map_some, Option.map_none, List.map_cons, List.map_nil, List.length_cons, List.length_nil, List.set_cons_zero, List.set_cons_succ, List.cons_append, List.nil_append, List.replicate, Nat.reduceAdd, Nat.reduceSub, Nat.reduceLeDiff, true_and, and_true, decide_eq_true_eq, reduceIte, Bool.false_eq_true, Bool.not_true, Bool.not_false, decide_true, decide_false]
    refine lc_fL (f := tmPV) (gg := fun t : Int × Int => lspF (sqd (loftB L bd) rc) rc.start rc.close rc.dusk rc.dawn t.1 t.2) (p := fun _ => true) ?_
    try simp -dsimp only [at0, at1, at2, at3, at4, at5, at6, wp_fn, s_nil, s_brk, s_cnt, s_expr, s_ret, s_retN, s_if, s_asn, s_par, s_asg, g_nm, g_nil, g_cons, g_tupT, g_subW, w_v0, w_vS, w_c, w_op, w_un, w_anil, w_acons, w_tup, w_lst, w_call, w_callU, w_isi, w_meth, w_tru, w_bool, w_notS, w_andS, w_orS, w_ifx, w_andV, w_orV, w_notV, w_chain, wp_ok, wp_bad, wp_some, wp_none, wp_liftif, wp_if, asB_b, wp_noex, add_ii, sub_ii, mul_ii, fdiv_ii, mod_ii, pow_ii, neg_i, cmp_ii, lt_ii, le_ii, gt_ii, ge_ii, le_cc, muls_ii, muls_si, ins_cs, iadd_ii, isub_ii, w_onone, w_osome, w_sl, sl_s, sl_t, s_aug, eq_ss, len_s, ix_s, add_ss, str_s, tuple_t, list_t, is_n, not_n, non_n, non_i, non_b, non_s, non_t, non_r, abs_i, max_ii, min_ii, int_i, int_b, gcd_ii, len_t, ix_t, eq_v, ne_v, eq_ii, eq_bb, eq_nn, eq_in, eq_ni, iv_n_list, iv_n_tuple, iv_n_bool, iv_n_str, iv_n_int, okt_n, iv_b_list, iv_b_tuple, iv_b_bool, iv_b_str, iv_b_int, okt_b, iv_i_list, iv_i_tuple, iv_i_bool, iv_i_str, iv_i_int, okt_i, iv_s_list, iv_s_tuple, iv_s_bool, iv_s_str, iv_s_int, okt_s, iv_t_list, iv_t_tuple, iv_t_bool, iv_t_str, iv_t_int, okt_t, iv_r_list, iv_r_tuple, iv_r_bool, iv_r_str, iv_r_int, tru_b, tru_i, tru_n, tru_t, Option.map_some, Option.map_none, List.map_cons, List.map_nil, List.length_cons, List.length_nil, List.set_cons_zero, List.set_cons_succ, List.cons_append, List.nil_append, List.replicate, Nat.reduceAdd, Nat.reduceSub, Nat.reduceLeDiff, true_and, and_true, decide_eq_true_eq, reduceIte, Bool.false_eq_true, Bool.not_true, Bool.not_false, decide_true, decide_false]
    refine ⟨k5, ts, rfl, T, by omega, fun t ht m2 G2 => ?_, fun m2 G2 O2 => ?_⟩
    · simp only [wipeP, tm_pv]
      obtain ⟨t0, t1, t2, t3⟩ := hT.rng t ht
      have z1 : rc.start * t.2 ≤ now * t.2 := Int.mul_le_mul_of_nonneg_right w1 (by omega)
      have z2 : rc.close * t.2 ≤ 9999 * t.2 := Int.mul_le_mul_of_nonneg_right (by omega) (by omega)
      have lsp := fun m => ls j bd t.1 t.2 m es t0 t1 (by omega) (by omega)
      unfold fpv at lsp
      try simp -dsimp only [at0, at1, at2, at3, at4, at5, at6, wp_fn, s_nil, s_brk, s_cnt, s_expr, s_ret, s_retN, s_if, s_asn, s_par, s_asg, g_nm, g_nil, g_cons, g_tupT, g_subW, w_v0, w_vS, w_c, w_op, w_un, w_anil, w_acons, w_tup, w_lst, w_call, w_callU, w_isi, w_meth, w_tru, w_bool, w_notS, w_andS, w_orS, w_ifx, w_andV, w_orV, w_notV, w_chain, wp_ok, wp_bad, wp_some, wp_none, wp_liftif, wp_if, asB_b, wp_noex, add_ii, sub_ii, mul_ii, fdiv_ii, mod_ii, pow_ii, neg_i, cmp_ii, lt_ii, le_ii, gt_ii, ge_ii, le_cc, muls_ii, muls_si, ins_cs, iadd_ii, isub_ii, w_onone, w_osome, w_sl, sl_s, sl_t, s_aug, eq_ss, len_s, ix_s, add_ss, str_s, tuple_t, list_t, is_n, not_n, non_n, non_i, non_b, non_s, non_t, non_r, abs_i, max_ii, min_ii, int_i, int_b, gcd_ii, len_t, ix_t, eq_v, ne_v, eq_ii, eq_bb, eq_nn, eq_in, eq_ni, iv_n_list, iv_n_tuple, iv_n_bool, iv_n_str, iv_n_int, okt_n, iv_b_list, iv_b_tuple, iv_b_bool, iv_b_str, iv_b_int, okt_b, iv_i_list, iv_i_tuple, iv_i_bool, iv_i_str, iv_i_int, okt_i, iv_s_list, iv_s_tuple, iv_s_bool, iv_s_str, iv_s_int, okt_s, iv_t_list, iv_t_tuple, iv_t_bool, iv_t_str, iv_t_int, okt_t, iv_r_list, iv_r_tuple, iv_r_bool, iv_r_str, iv_r_int, tru_b, tru_i, tru_n, tru_t, Option.map_some, Option.map_none, List.map_cons, List.map_nil, List.length_cons, List.length_nil, List.set_cons_zero, List.set_cons_succ, List.cons_append, List.nil_append, List.replicate, Nat.reduceAdd, Nat.reduceSub, Nat.reduceLeDiff, true_and, and_true, decide_eq_true_eq, reduceIte, Bool.false_eq_true, Bool.not_true, Bool.not_false, decide_true, decide_false]
      rw [w_yes]
      refine ⟨rfl, Gr.refl, fun _ => ?_⟩
      try simp -dsimp only [at0, at1, at2, at3, at4, at5, at6, wp_fn, s_nil, s_brk, s_cnt, s_expr, s_ret, s_retN, s_if, s_asn, s_par, s_asg, g_nm, g_nil, g_cons, g_tupT, g_subW, w_v0, w_vS, w_c, w_op, w_un, w_anil, w_acons, w_tup, w_lst, w_call, w_callU, w_isi, w_meth, w_tru, w_bool, w_notS, w_andS, w_orS, w_ifx, w_andV, w_orV, w_notV, w_chain, wp_ok, wp_bad, wp_some, wp_none, wp_liftif, wp_if, asB_b, wp_noex, add_ii, sub_ii, mul_ii, fdiv_ii, mod_ii, pow_ii, neg_i, cmp_ii, lt_ii, le_ii, gt_ii, ge_ii, le_cc, muls_ii, muls_si, ins_cs, iadd_ii, isub_ii, w_onone, w_osome, w_sl, sl_s, sl_t, s_aug, eq_ss, len_s, ix_s, add_ss, str_s, tuple_t, list_t, is_n, not_n, non_n, non_i, non_b, non_s, non_t, non_r, abs_i, max_ii, min_ii, int_i, int_b, gcd_ii, len_t, ix_t, eq_v, ne_v, eq_ii, eq_bb, eq_nn, eq_in, eq_ni, iv_n_list, iv_n_tuple, iv_n_bool, iv_n_str, iv_n_int, okt_n, iv_b_list, iv_b_tuple, iv_b_bool, iv_b_str, iv_b_int, okt_b, iv_i_list, iv_i_tuple, iv_i_bool, iv_i_str, iv_i_int, okt_i, iv_s_list, iv_s_tuple, iv_s_bool, iv_s_str, iv_s_int, okt_s, iv_t_list, iv_t_tuple, iv_t_bool, iv_t_str, iv_t_int, okt_t, iv_r_list, iv_r_tuple, iv_r_bool, iv_r_str, iv_r_int, tru_b, tru_i, tru_n, tru_t, Option.map_some, Option.map_none, List.map_cons, List.map_nil, List.length_cons, List.length_nil, List.set_cons_zero, List.set_cons_succ, List.cons_append, List.nil_append, List.replicate, Nat.reduceAdd, Nat.reduceSub, Nat.reduceLeDiff, true_and, and_true, decide_eq_true_eq, reduceIte, Bool.false_eq_true, Bool.not_true, Bool.not_false, decide_true, decide_false]
      exact lsp _
    rw [filter_tt] at O2
    have S2 := G2.get _ _ S
    have T2 := G2.get _ _ T
    generalize m'.length = k6 at *
    try simp -dsimp only [at0, at1, at2, at3, at4, at5, at6, wp_fn, s_nil, s_brk, s_cnt, s_expr, s_ret, s_retN, s_if, s_asn, s_par, s_asg, g_nm, g_nil, g_cons, g_tupT, g_subW, w_v0, w_vS, w_c, w_op, w_un, w_anil, w_acons, w_tup, w_lst, w_call, w_callU, w_isi, w_meth, w_tru, w_bool, w_notS, w_andS, w_orS, w_ifx, w_andV, w_orV, w_notV, w_chain, wp_ok, wp_bad, wp_some, wp_none, wp_liftif, wp_if, asB_b, wp_noex, add_ii, sub_ii, mul_ii, fdiv_ii, mod_ii, pow_ii, neg_i, cmp_ii, lt_ii, le_ii, gt_ii, ge_ii, le_cc, muls_ii, muls_si, ins_cs, iadd_ii, isub_ii, w_onone, w_osome, w_sl, sl_s, sl_t, s_aug, eq_ss, len_s, ix_s, add_ss, str_s, tuple_t, list_t, is_n, not_n, non_n, non_i, non_b, non_s, non_t, non_r, abs_i, max_ii, min_ii, int_i, int_b, gcd_ii, len_t, ix_t, eq_v, ne_v, eq_ii, eq_bb, eq_nn, eq_in, eq_ni, iv_n_list, iv_n_tuple, iv_n_bool, iv_n_str, iv_n_int, okt_n, iv_b_list, iv_b_tuple, iv_b_bool, iv_b_str, iv_b_int, okt_b, iv_i_list, iv_i_tuple, iv_i_bool, iv_i_str, iv_i_int, okt_i, iv_s_list, iv_s_tuple, iv_s_bool, iv_s_str, iv_s_int, okt_s, iv_t_list, iv_t_tuple, iv_t_bool, iv_t_str, iv_t_int, okt_t, iv_r_list, iv_r_tuple, iv_r_bool, iv_r_str, iv_r_int, tru_b, tru_i, tru_n, tru_t, Option.map_some, Option.map_none, List.map_cons, List.map_nil, List.length_cons, List.length_nil, List.set_cons_zero, List.set_cons_succ, List.cons_append, List.nil_append, List.replicate, Nat.reduceAdd, Nat.reduceSub, Nat.reduceLeDiff, true_and, and_true, decide_eq_true_eq, reduceIte, Bool.false_eq_true, Bool.not_true, Bool.not_false, decide_true, decide_false]
    refine s_forLW ?_
    try simp -dsimp only [at0, at1, at2, at3, at4, at5, at6, wp_fn, s_nil, s_brk, s_cnt, s_expr, s_ret, s_retN, s_if, s_asn, s_par, s_asg, g_nm, g_nil, g_cons, g_tupT, g_subW, w_v0, w_vS, w_c, w_op, w_un, w_anil, w_acons, w_tup, w_lst, w_call, w_callU, w_isi, w_meth, w_tru, w_bool, w_notS, w_andS, w_orS, w_ifx, w_andV, w_orV, w_notV, w_chain, wp_ok, wp_bad, wp_some, wp_none, wp_liftif, wp_if, asB_b, wp_noex, add_ii, sub_ii, mul_ii, fdiv_ii, mod_ii, pow_ii, neg_i, cmp_ii, lt_ii, le_ii, gt_ii, ge_ii, le_cc, muls_ii, muls_si, ins_cs, iadd_ii, isub_ii, w_onone, w_osome, w_sl, sl_s, sl_t, s_aug, eq_ss, len_s, ix_s, add_ss, str_s, tuple_t, list_t, is_n, not_n, non_n, non_i, non_b, non_s, non_t, non_r, abs_i, max_ii, min_ii, int_i, int_b, gcd_ii, len_t, ix_t, eq_v, ne_v, eq_ii, eq_bb, eq_nn, eq_in, eq_ni, iv_n_list, iv_n_tuple, iv_n_bool, iv_n_str, iv_n_int, okt_n, iv_b_list, iv_b_tuple, iv_b_bool, iv_b_str, iv_b_int, okt_b, iv_i_list, iv_i_tuple, iv_i_bool, iv_i_str, iv_i_int, okt_i, iv_s_list, iv_s_tuple, iv_s_bool, iv_s_str, iv_s_int, okt_s, iv_t_list, iv_t_tuple, iv_t_bool, iv_t_str, iv_t_int, okt_t, iv_r_list, iv_r_tuple, iv_r_bool, iv_r_str, iv_r_int, tru_b, tru_i, tru_n, tru_t, Option.map_some, Option.map_none, List.map_cons, List.map_nil, List.length_cons, List.length_nil, List.set_cons_zero, List.set_cons_succ, List.cons_append, List.nil_append, List.replicate, Nat.reduceAdd, Nat.reduceSub, Nat.reduceLeDiff, true_and, and_true, decide_eq_true_eq, reduceIte, Bool.false_eq_true, Bool.not_true, Bool.not_false, decide_true, decide_false]
    refine ⟨_, _, rfl, seq_of_lst S2, fun z l m' => ∃ x8 x12 x13 x14 x15, l = [some (.ref 0), some (.tup [.tup (L.map Loft.pv), .tup (B.map Bird.pv), .tup (R.map Race.pv)]), some (.ref n), some (.ref q), some (.int (i : Nat)), some (.int now), some (.ref k), some (.ref k4), x8, some (.ref k5), some (.tup [.int bd.ring, .int bd.loft, .int bd.year]), some (.ref k6), x12, x13, x14, x15] ∧ m'[k4]? = some (.lst (sp.map tmPV)) ∧ m'[k5]? = some (.lst (ts.map tmPV)) ∧ m'[k6]? = some (.lst (ts.map fun t : Int × Int => lspF (sqd (loftB L bd) rc) rc.start rc.close rc.dusk rc.dawn t.1 t.2)), ⟨_, _, _, _, _, rfl, S2, T2, O2⟩, ?_, ?_, ?_⟩
    · rintro z l m' ⟨x8, x12, x13, x14, x15, rfl, S, T, O⟩
      exact seq_of_lst S
    · clear S T S2 T2 O2 G2
      rintro z x l m' hx ⟨x8, x12, x13, x14, x15, rfl, S, T, O⟩
      rw [List.getElem?_map] at hx
      cases eq : sp[z]? with
      | none => rw [eq] at hx; cases hx
      | some sd =>
      rw [eq] at hx
      cases hx
      have sb := hsp sd (List.mem_of_getElem? eq)
      have b0 := sb.d0; have b1 := sb.d1; have b3 := sb.a0; have b4 := sb.a1
      have due := due_iff (sq := sqd (loftB L bd) rc) ro hT w1 w2 hs0 sb
      have ahd := fun m => ah j bd now sd.1 sd.2 m es w1 w2 b0 b1
      unfold fpv at ahd
      unfold law_l1
      simp only [tm_pv]
      try simp -dsimp only [at0, at1, at2, at3, at4, at5, at6, wp_fn, s_nil, s_brk, s_cnt, s_expr, s_ret, s_retN, s_if, s_asn, s_par, s_asg, g_nm, g_nil, g_cons, g_tupT, g_subW, w_v0, w_vS, w_c, w_op, w_un, w_anil, w_acons, w_tup, w_lst, w_call, w_callU, w_isi, w_meth, w_tru, w_bool, w_notS, w_andS, w_orS, w_ifx, w_andV, w_orV, w_notV, w_chain, wp_ok, wp_bad, wp_some, wp_none, wp_liftif, wp_if, asB_b, wp_noex, add_ii, sub_ii, mul_ii, fdiv_ii, mod_ii, pow_ii, neg_i, cmp_ii, lt_ii, le_ii, gt_ii, ge_ii, le_cc, muls_ii, muls_si, ins_cs, iadd_ii, isub_ii, w_onone, w_osome, w_sl, sl_s, sl_t, s_aug, eq_ss, len_s, ix_s, add_ss, str_s, tuple_t, list_t, is_n, not_n, non_n, non_i, non_b, non_s, non_t, non_r, abs_i, max_ii, min_ii, int_i, int_b, gcd_ii, len_t, ix_t, eq_v, ne_v, eq_ii, eq_bb, eq_nn, eq_in, eq_ni, iv_n_list, iv_n_tuple, iv_n_bool, iv_n_str, iv_n_int, okt_n, iv_b_list, iv_b_tuple, iv_b_bool, iv_b_str, iv_b_int, okt_b, iv_i_list, iv_i_tuple, iv_i_bool, iv_i_str, iv_i_int, okt_i, iv_s_list, iv_s_tuple, iv_s_bool, iv_s_str, iv_s_int, okt_s, iv_t_list, iv_t_tuple, iv_t_bool, iv_t_str, iv_t_int, okt_t, iv_r_list, iv_r_tuple, iv_r_bool, iv_r_str, iv_r_int, tru_b, tru_i, tru_n, tru_t, Option.map_some, Option.map_none, List.map_cons, List.map_nil, List.length_cons, List.length_nil, List.set_cons_zero, List.set_cons_succ, List.cons_append, List.nil_append, List.replicate, Nat.reduceAdd, Nat.reduceSub, Nat.reduceLeDiff, true_and, and_true, decide_eq_true_eq, reduceIte, Bool.false_eq_true, Bool.not_true, Bool.not_false, decide_true, decide_false]
      rw [s_seq]
      try simp -dsimp only [at0, at1, at2, at3, at4, at5, at6, wp_fn, s_nil, s_brk, s_cnt, s_expr, s_ret, s_retN, s_if, s_asn, s_par, s_asg, g_nm, g_nil, g_cons, g_tupT, g_subW, w_v0, w_vS, w_c, w_op, w_un, w_anil, w_acons, w_tup, w_lst, w_call, w_callU, w_isi, w_meth, w_tru, w_bool, w_notS, w_andS, w_orS, w_ifx, w_andV, w_orV, w_notV, w_chain, wp_ok, wp_bad, wp_some, wp_none, wp_liftif, wp_if, asB_b, wp_noex, add_ii, sub_ii, mul_ii, fdiv_ii, mod_ii, pow_ii, neg_i, cmp_ii, lt_ii, le_ii, gt_ii, ge_ii, le_cc, muls_ii, muls_si, ins_cs, iadd_ii, isub_ii, w_onone, w_osome, w_sl, sl_s, sl_t, s_aug, eq_ss, len_s, ix_s, add_ss, str_s, tuple_t, list_t, is_n, not_n, non_n, non_i, non_b, non_s, non_t, non_r, abs_i, max_ii, min_ii, int_i, int_b, gcd_ii, len_t, ix_t, eq_v, ne_v, eq_ii, eq_bb, eq_nn, eq_in, eq_ni, iv_n_list, iv_n_tuple, iv_n_bool, iv_n_str, iv_n_int, okt_n, iv_b_list, iv_b_tuple, iv_b_bool, iv_b_str, iv_b_int, okt_b, iv_i_list, iv_i_tuple, iv_i_bool, iv_i_str, iv_i_int, okt_i, iv_s_list, iv_s_tuple, iv_s_bool, iv_s_str, iv_s_int, okt_s, iv_t_list, iv_t_tuple, iv_t_bool, iv_t_str, iv_t_int, okt_t, iv_r_list, iv_r_tuple, iv_r_bool, iv_r_str, iv_r_int, tru_b, tru_i, tru_n, tru_t, Option.map_some, Option.map_none, List.map_cons, List.map_nil, List.length_cons, List.length_nil, List.set_cons_zero, List.set_cons_succ, List.cons_append, List.nil_append, List.replicate, Nat.reduceAdd, Nat.reduceSub, Nat.reduceLeDiff, true_and, and_true, decide_eq_true_eq, reduceIte, Bool.false_eq_true, Bool.not_true, Bool.not_false, decide_true, decide_false]
      refine lc_fL (f := fun t : Int × Int => lspF (sqd (loftB L bd) rc) rc.start rc.close rc.dusk rc.dawn t.1 t.2) (gg := fun t : Int × Int => lspF (sqd (loftB L bd) rc) rc.start rc.close rc.dusk rc.dawn t.1 t.2) (p := dueP (sqd (loftB L bd) rc) rc sd.1 sd.2) ?_
      try simp -dsimp only [at0, at1, at2, at3, at4, at5, at6, wp_fn, s_nil, s_brk, s_cnt, s_expr, s_ret, s_retN, s_if, s_asn, s_par, s_asg, g_nm, g_nil, g_cons, g_tupT, g_subW, w_v0, w_vS, w_c, w_op, w_un, w_anil, w_acons, w_tup, w_lst, w_call, w_callU, w_isi, w_meth, w_tru, w_bool, w_notS, w_andS, w_orS, w_ifx, w_andV, w_orV, w_notV, w_chain, wp_ok, wp_bad, wp_some, wp_none, wp_liftif, wp_if, asB_b, wp_noex, add_ii, sub_ii, mul_ii, fdiv_ii, mod_ii, pow_ii, neg_i, cmp_ii, lt_ii, le_ii, gt_ii, ge_ii, le_cc, muls_ii, muls_si, ins_cs, iadd_ii, isub_ii, w_onone, w_osome, w_sl, sl_s, sl_t, s_aug, eq_ss, len_s, ix_s, add_ss, str_s, tuple_t, list_t, is_n, not_n, non_n, non_i, non_b, non_s, non_t, non_r, abs_i, max_ii, min_ii, int_i, int_b, gcd_ii, len_t, ix_t, eq_v, ne_v, eq_ii, eq_bb, eq_nn, eq_in, eq_ni, iv_n_list, iv_n_tuple, iv_n_bool, iv_n_str, iv_n_int, okt_n, iv_b_list, iv_b_tuple, iv_b_bool, iv_b_str, iv_b_int, okt_b, iv_i_list, iv_i_tuple, iv_i_bool, iv_i_str, iv_i_int, okt_i, iv_s_list, iv_s_tuple, iv_s_bool, iv_s_str, iv_s_int, okt_s, iv_t_list, iv_t_tuple, iv_t_bool, iv_t_str, iv_t_int, okt_t, iv_r_list, iv_r_tuple, iv_r_bool, iv_r_str, iv_r_int, tru_b, tru_i, tru_n, tru_t, Option.map_some, Option.map_none, List.map_cons, List.map_nil, List.length_cons, List.length_nil, List.set_cons_zero, List.set_cons_succ, List.cons_append, List.nil_append, List.replicate, Nat.reduceAdd, Nat.reduceSub, Nat.reduceLeDiff, true_and, and_true, decide_eq_true_eq, reduceIte, Bool.false_eq_true, Bool.not_true, Bool.not_false, decide_true, decide_false]
      refine ⟨k6, ts, rfl, O, by omega, fun t ht m2 G2 => ?_, fun m2 G2 O2 => ?_⟩
      · obtain ⟨t0, t1, t2, t3⟩ := hT.rng t ht
        have z1 : rc.start * t.2 ≤ now * t.2 := Int.mul_le_mul_of_nonneg_right w1 (by omega)
        have z2 : rc.close * t.2 ≤ 9999 * t.2 := Int.mul_le_mul_of_nonneg_right (by omega) (by omega)
        have z3 : 0 ≤ rc.start * t.2 := Int.mul_nonneg (by omega) (by omega)
        have hN := Nf_pos (D := rc.dusk) (W := rc.dawn) (s := rc.start) (p := t.1) (q := t.2) hD hW t0 (by omega)
        simp only [wipeP]
        unfold dueP
        by_cases c : rc.close * t.2 < t.1 ∨ Nf rc.dusk rc.dawn rc.start t.1 t.2 ≤ 0
        · rw [lspF_non c]
          try simp -dsimp only [at0, at1, at2, at3, at4, at5, at6, wp_fn, s_nil, s_brk, s_cnt, s_expr, s_ret, s_retN, s_if, s_asn, s_par, s_asg, g_nm, g_nil, g_cons, g_tupT, g_subW, w_v0, w_vS, w_c, w_op, w_un, w_anil, w_acons, w_tup, w_lst, w_call, w_callU, w_isi, w_meth, w_tru, w_bool, w_notS, w_andS, w_orS, w_ifx, w_andV, w_orV, w_notV, w_chain, wp_ok, wp_bad, wp_some, wp_none, wp_liftif, wp_if, asB_b, wp_noex, add_ii, sub_ii, mul_ii, fdiv_ii, mod_ii, pow_ii, neg_i, cmp_ii, lt_ii, le_ii, gt_ii, ge_ii, le_cc, muls_ii, muls_si, ins_cs, iadd_ii, isub_ii, w_onone, w_osome, w_sl, sl_s, sl_t, s_aug, eq_ss, len_s, ix_s, add_ss, str_s, tuple_t, list_t, is_n, not_n, non_n, non_i, non_b, non_s, non_t, non_r, abs_i, max_ii, min_ii, int_i, int_b, gcd_ii, len_t, ix_t, eq_v, ne_v, eq_ii, eq_bb, eq_nn, eq_in, eq_ni, iv_n_list, iv_n_tuple, iv_n_bool, iv_n_str, iv_n_int, okt_n, iv_b_list, iv_b_tuple, iv_b_bool, iv_b_str, iv_b_int, okt_b, iv_i_list, iv_i_tuple, iv_i_bool, iv_i_str, iv_i_int, okt_i, iv_s_list, iv_s_tuple, iv_s_bool, iv_s_str, iv_s_int, okt_s, iv_t_list, iv_t_tuple, iv_t_bool, iv_t_str, iv_t_int, okt_t, iv_r_list, iv_r_tuple, iv_r_bool, iv_r_str, iv_r_int, tru_b, tru_i, tru_n, tru_t, Option.map_some, Option.map_none, List.map_cons, List.map_nil, List.length_cons, List.length_nil, List.set_cons_zero, List.set_cons_succ, List.cons_append, List.nil_append, List.replicate, Nat.reduceAdd, Nat.reduceSub, Nat.reduceLeDiff, true_and, and_true, decide_eq_true_eq, reduceIte, Bool.false_eq_true, Bool.not_true, Bool.not_false, decide_true, decide_false]
          exact ⟨Gr.refl, fun h => by cases h⟩
        · obtain ⟨f, g, f1, f2, f3, f4, f5, f6⟩ := lspF_some (sq := sqd (loftB L bd) rc) (s := rc.start) (D := rc.dusk) (W := rc.dawn) (c := rc.close) (p := t.1) (q := t.2) t0 c
          rw [f6]
          have g1 : g * g ≤ 1000000000 * 1000000000 := Int.mul_le_mul (by omega) (by omega) (by omega) (by decide)
          have g0 : 0 < g * g := Int.mul_pos f2 f2
          have g2 : sqd (loftB L bd) rc * (g * g) ≤ 799840008 * (1000000000 * 1000000000) := Int.mul_le_mul hsb.2 g1 (by omega) (by decide)
          have g3 : 0 < sqd (loftB L bd) rc * (g * g) := Int.mul_pos hs0 g0
          have g4 : f * f ≤ (9999 * 1000000000) * (9999 * 1000000000) := Int.mul_le_mul (by omega) (by omega) (by omega) (by decide)
          have g5 : 0 < f * f := Int.mul_pos f1 f1
          have eg : sqd (loftB L bd) rc * g * g = sqd (loftB L bd) rc * (g * g) := Int.mul_assoc _ _ _
          rw [eg]
          have ll := fun m => lless_ok (m := m) (p := sd.1) (q := sd.2) (r := sqd (loftB L bd) rc * (g * g)) (s := f * f) (by omega) (by omega) (by omega) (by omega)
          unfold fpv at ll ⊢
          try simp -dsimp only [at0, at1, at2, at3, at4, at5, at6, wp_fn, s_nil, s_brk, s_cnt, s_expr, s_ret, s_retN, s_if, s_asn, s_par, s_asg, g_nm, g_nil, g_cons, g_tupT, g_subW, w_v0, w_vS, w_c, w_op, w_un, w_anil, w_acons, w_tup, w_lst, w_call, w_callU, w_isi, w_meth, w_tru, w_bool, w_notS, w_andS, w_orS, w_ifx, w_andV, w_orV, w_notV, w_chain, wp_ok, wp_bad, wp_some, wp_none, wp_liftif, wp_if, asB_b, wp_noex, add_ii, sub_ii, mul_ii, fdiv_ii, mod_ii, pow_ii, neg_i, cmp_ii, lt_ii, le_ii, gt_ii, ge_ii, le_cc, muls_ii, muls_si, ins_cs, iadd_ii, isub_ii, w_onone, w_osome, w_sl, sl_s, sl_t, s_aug, eq_ss, len_s, ix_s, add_ss, str_s, tuple_t, list_t, is_n, not_n, non_n, non_i, non_b, non_s, non_t, non_r, abs_i, max_ii, min_ii, int_i, int_b, gcd_ii, len_t, ix_t, eq_v, ne_v, eq_ii, eq_bb, eq_nn, eq_in, eq_ni, iv_n_list, iv_n_tuple, iv_n_bool, iv_n_str, iv_n_int, okt_n, iv_b_list, iv_b_tuple, iv_b_bool, iv_b_str, iv_b_int, okt_b, iv_i_list, iv_i_tuple, iv_i_bool, iv_i_str, iv_i_int, okt_i, iv_s_list, iv_s_tuple, iv_s_bool, iv_s_str, iv_s_int, okt_s, iv_t_list, iv_t_tuple, iv_t_bool, iv_t_str, iv_t_int, okt_t, iv_r_list, iv_r_tuple, iv_r_bool, iv_r_str, iv_r_int, tru_b, tru_i, tru_n, tru_t, Option.map_some, Option.map_none, List.map_cons, List.map_nil, List.length_cons, List.length_nil, List.set_cons_zero, List.set_cons_succ, List.cons_append, List.nil_append, List.replicate, Nat.reduceAdd, Nat.reduceSub, Nat.reduceLeDiff, true_and, and_true, decide_eq_true_eq, reduceIte, Bool.false_eq_true, Bool.not_true, Bool.not_false, decide_true, decide_false]
          refine (ll _).mono ?_
          rintro _ m2 ⟨rfl, rfl⟩
          try simp -dsimp only [at0, at1, at2, at3, at4, at5, at6, wp_fn, s_nil, s_brk, s_cnt, s_expr, s_ret, s_retN, s_if, s_asn, s_par, s_asg, g_nm, g_nil, g_cons, g_tupT, g_subW, w_v0, w_vS, w_c, w_op, w_un, w_anil, w_acons, w_tup, w_lst, w_call, w_callU, w_isi, w_meth, w_tru, w_bool, w_notS, w_andS, w_orS, w_ifx, w_andV, w_orV, w_notV, w_chain, wp_ok, wp_bad, wp_some, wp_none, wp_liftif, wp_if, asB_b, wp_noex, add_ii, sub_ii, mul_ii, fdiv_ii, mod_ii, pow_ii, neg_i, cmp_ii, lt_ii, le_ii, gt_ii, ge_ii, le_cc, muls_ii, muls_si, ins_cs, iadd_ii, isub_ii, w_onone, w_osome, w_sl, sl_s, sl_t, s_aug, eq_ss, len_s, ix_s, add_ss, str_s, tuple_t, list_t, is_n, not_n, non_n, non_i, non_b, non_s, non_t, non_r, abs_i, max_ii, min_ii, int_i, int_b, gcd_ii, len_t, ix_t, eq_v, ne_v, eq_ii, eq_bb, eq_nn, eq_in, eq_ni, iv_n_list, iv_n_tuple, iv_n_bool, iv_n_str, iv_n_int, okt_n, iv_b_list, iv_b_tuple, iv_b_bool, iv_b_str, iv_b_int, okt_b, iv_i_list, iv_i_tuple, iv_i_bool, iv_i_str, iv_i_int, okt_i, iv_s_list, iv_s_tuple, iv_s_bool, iv_s_str, iv_s_int, okt_s, iv_t_list, iv_t_tuple, iv_t_bool, iv_t_str, iv_t_int, okt_t, iv_r_list, iv_r_tuple, iv_r_bool, iv_r_str, iv_r_int, tru_b, tru_i, tru_n, tru_t, Option.map_some, Option.map_none, List.map_cons, List.map_nil, List.length_cons, List.length_nil, List.set_cons_zero, List.set_cons_succ, List.cons_append, List.nil_append, List.replicate, Nat.reduceAdd, Nat.reduceSub, Nat.reduceLeDiff, true_and, and_true, decide_eq_true_eq, reduceIte, Bool.false_eq_true, Bool.not_true, Bool.not_false, decide_true, decide_false]
          exact ⟨Gr.refl, fun _ => Gr.refl⟩
      have S2 := G2.get _ _ S
      have T2 := G2.get _ _ T
      have O3 := G2.get _ _ O
      try simp -dsimp only [at0, at1, at2, at3, at4, at5, at6, wp_fn, s_nil, s_brk, s_cnt, s_expr, s_ret, s_retN, s_if, s_asn, s_par, s_asg, g_nm, g_nil, g_cons, g_tupT, g_subW, w_v0, w_vS, w_c, w_op, w_un, w_anil, w_acons, w_tup, w_lst, w_call, w_callU, w_isi, w_meth, w_tru, w_bool, w_notS, w_andS, w_orS, w_ifx, w_andV, w_orV, w_notV, w_chain, wp_ok, wp_bad, wp_some, wp_none, wp_liftif, wp_if, asB_b, wp_noex, add_ii, sub_ii, mul_ii, fdiv_ii, mod_ii, pow_ii, neg_i, cmp_ii, lt_ii, le_ii, gt_ii, ge_ii, le_cc, muls_ii, muls_si, ins_cs, iadd_ii, isub_ii, w_onone, w_osome, w_sl, sl_s, sl_t, s_aug, eq_ss, len_s, ix_s, add_ss, str_s, tuple_t, list_t, is_n, not_n, non_n, non_i, non_b, non_s, non_t, non_r, abs_i, max_ii, min_ii, int_i, int_b, gcd_ii, len_t, ix_t, eq_v, ne_v, eq_ii, eq_bb, eq_nn, eq_in, eq_ni, iv_n_list, iv_n_tuple, iv_n_bool, iv_n_str, iv_n_int, okt_n, iv_b_list, iv_b_tuple, iv_b_bool, iv_b_str, iv_b_int, okt_b, iv_i_list, iv_i_tuple, iv_i_bool, iv_i_str, iv_i_int, okt_i, iv_s_list, iv_s_tuple, iv_s_bool, iv_s_str, iv_s_int, okt_s, iv_t_list, iv_t_tuple, iv_t_bool, iv_t_str, iv_t_int, okt_t, iv_r_list, iv_r_tuple, iv_r_bool, iv_r_str, iv_r_int, tru_b, tru_i, tru_n, tru_t, Option.map_some, Option.map_none, List.map_cons, List.map_nil, List.length_cons, List.length_nil, List.set_cons_zero, List.set_cons_succ, List.cons_append, List.nil_append, List.replicate, Nat.reduceAdd, Nat.reduceSub, Nat.reduceLeDiff, true_and, and_true, decide_eq_true_eq, reduceIte, Bool.false_eq_true, Bool.not_true, Bool.not_false, decide_true, decide_false]
      rw [len_r (seq_of_lst O2), List.length_map]
      try simp -dsimp only [at0, at1, at2, at3, at4, at5, at6, wp_fn, s_nil, s_brk, s_cnt, s_expr, s_ret, s_retN, s_if, s_asn, s_par, s_asg, g_nm, g_nil, g_cons, g_tupT, g_subW, w_v0, w_vS, w_c, w_op, w_un, w_anil, w_acons, w_tup, w_lst, w_call, w_callU, w_isi, w_meth, w_tru, w_bool, w_notS, w_andS, w_orS, w_ifx, w_andV, w_orV, w_notV, w_chain, wp_ok, wp_bad, wp_some, wp_none, wp_liftif, wp_if, asB_b, wp_noex, add_ii, sub_ii, mul_ii, fdiv_ii, mod_ii, pow_ii, neg_i, cmp_ii, lt_ii, le_ii, gt_ii, ge_ii, le_cc, muls_ii, muls_si, ins_cs, iadd_ii, isub_ii, w_onone, w_osome, w_sl, sl_s, sl_t, s_aug, eq_ss, len_s, ix_s, add_ss, str_s, tuple_t, list_t, is_n, not_n, non_n, non_i, non_b, non_s, non_t, non_r, abs_i, max_ii, min_ii, int_i, int_b, gcd_ii, len_t, ix_t, eq_v, ne_v, eq_ii, eq_bb, eq_nn, eq_in, eq_ni, iv_n_list, iv_n_tuple, iv_n_bool, iv_n_str, iv_n_int, okt_n, iv_b_list, iv_b_tuple, iv_b_bool, iv_b_str, iv_b_int, okt_b, iv_i_list, iv_i_tuple, iv_i_bool, iv_i_str, iv_i_int, okt_i, iv_s_list, iv_s_tuple, iv_s_bool, iv_s_str, iv_s_int, okt_s, iv_t_list, iv_t_tuple, iv_t_bool, iv_t_str, iv_t_int, okt_t, iv_r_list, iv_r_tuple, iv_r_bool, iv_r_str, iv_r_int, tru_b, tru_i, tru_n, tru_t, Option.map_some, Option.map_none, List.map_cons, List.map_nil, List.length_cons, List.length_nil, List.set_cons_zero, List.set_cons_succ, List.cons_append, List.nil_append, List.replicate, Nat.reduceAdd, Nat.reduceSub, Nat.reduceLeDiff, true_and, and_true, decide_eq_true_eq, reduceIte, Bool.false_eq_true, Bool.not_true, Bool.not_false, decide_true, decide_false]
      refine (ahd _).mono ?_
      rintro _ m2 ⟨rfl, rfl⟩
      have e7 : decide (((ts.filter (dueP (sqd (loftB L bd) rc) rc sd.1 sd.2)).length : Int) > 0) = cbaB L rc bd now sd.1 sd.2 := by
        unfold cbaB
        rw [← due, Bool.eq_iff_iff, List.any_eq_true, decide_eq_true_eq]
        constructor
        · intro h
          obtain ⟨t, ht⟩ := List.exists_mem_of_length_pos (by omega : 0 < (ts.filter (dueP (sqd (loftB L bd) rc) rc sd.1 sd.2)).length)
          exact ⟨t, (List.mem_filter.mp ht).1, (List.mem_filter.mp ht).2⟩
        · rintro ⟨t, ht, h⟩
          have := List.length_pos_of_mem (List.mem_filter.mpr ⟨ht, h⟩)
          omega
      rw [e7]
      try simp -dsimp only [at0, at1, at2, at3, at4, at5, at6, wp_fn, s_nil, s_brk, s_cnt, s_expr, s_ret, s_retN, s_if, s_asn, s_par, s_asg, g_nm, g_nil, g_cons, g_tupT, g_subW, w_v0, w_vS, w_c, w_op, w_un, w_anil, w_acons, w_tup, w_lst, w_call, w_callU, w_isi, w_meth, w_tru, w_bool, w_notS, w_andS, w_orS, w_ifx, w_andV, w_orV, w_notV, w_chain, wp_ok, wp_bad, wp_some, wp_none, wp_liftif, wp_if, asB_b, wp_noex, add_ii, sub_ii, mul_ii, fdiv_ii, mod_ii, pow_ii, neg_i, cmp_ii, lt_ii, le_ii, gt_ii, ge_ii, le_cc, muls_ii, muls_si, ins_cs, iadd_ii, isub_ii, w_onone, w_osome, w_sl, sl_s, sl_t, s_aug, eq_ss, len_s, ix_s, add_ss, str_s, tuple_t, list_t, is_n, not_n, non_n, non_i, non_b, non_s, non_t, non_r, abs_i, max_ii, min_ii, int_i, int_b, gcd_ii, len_t, ix_t, eq_v, ne_v, eq_ii, eq_bb, eq_nn, eq_in, eq_ni, iv_n_list, iv_n_tuple, iv_n_bool, iv_n_str, iv_n_int, okt_n, iv_b_list, iv_b_tuple, iv_b_bool, iv_b_str, iv_b_int, okt_b, iv_i_list, iv_i_tuple, iv_i_bool, iv_i_str, iv_i_int, okt_i, iv_s_list, iv_s_tuple, iv_s_bool, iv_s_str, iv_s_int, okt_s, iv_t_list, iv_t_tuple, iv_t_bool, iv_t_str, iv_t_int, okt_t, iv_r_list, iv_r_tuple, iv_r_bool, iv_r_str, iv_r_int, tru_b, tru_i, tru_n, tru_t, Option.map_some, Option.map_none, List.map_cons, List.map_nil, List.length_cons, List.length_nil, List.set_cons_zero, List.set_cons_succ, List.cons_append, List.nil_append, List.replicate, Nat.reduceAdd, Nat.reduceSub, Nat.reduceLeDiff, true_and, and_true, decide_eq_true_eq, reduceIte, Bool.false_eq_true, Bool.not_true, Bool.not_false, decide_true, decide_false]
      exact ⟨_, _, _, _, _, rfl, S2, T2, O3⟩
    · rintro l m' ⟨x8, x12, x13, x14, x15, rfl, S, T, O⟩
      exact ⟨_, _, _, _, _, _, _, rfl, S, T⟩
  · rintro l m' ⟨x8, x10, x11, x12, x13, x14, x15, rfl, S, T⟩
    try simp -dsimp only [at0, at1, at2, at3, at4, at5, at6, wp_fn, s_nil, s_brk, s_cnt, s_expr, s_ret, s_retN, s_if, s_asn, s_par, s_asg, g_nm, g_nil, g_cons, g_tupT, g_subW, w_v0, w_vS, w_c, w_op, w_un, w_anil, w_acons, w_tup, w_lst, w_call, w_callU, w_isi, w_meth, w_tru, w_bool, w_notS, w_andS, w_orS, w_ifx, w_andV, w_orV, w_notV, w_chain, wp_ok, wp_bad, wp_some, wp_none, wp_liftif, wp_if, asB_b, wp_noex, add_ii, sub_ii, mul_ii, fdiv_ii, mod_ii, pow_ii, neg_i, cmp_ii, lt_ii, le_ii, gt_ii, ge_ii, le_cc, muls_ii, muls_si, ins_cs, iadd_ii, isub_ii, w_onone, w_osome, w_sl, sl_s, sl_t, s_aug, eq_ss, len_s, ix_s, add_ss, str_s, tuple_t, list_t, is_n, not_n, non_n, non_i, non_b, non_s, non_t, non_r, abs_i, max_ii, min_ii, int_i, int_b, gcd_ii, len_t, ix_t, eq_v, ne_v, eq_ii, eq_bb, eq_nn, eq_in, eq_ni, iv_n_list, iv_n_tuple, iv_n_bool, iv_n_str, iv_n_int, okt_n, iv_b_list, iv_b_tuple, iv_b_bool, iv_b_str, iv_b_int, okt_b, iv_i_list, iv_i_tuple, iv_i_bool, iv_i_str, iv_i_int, okt_i, iv_s_list, iv_s_tuple, iv_s_bool, iv_s_str, iv_s_int, okt_s, iv_t_list, iv_t_tuple, iv_t_bool, iv_t_str, iv_t_int, okt_t, iv_r_list, iv_r_tuple, iv_r_bool, iv_r_str, iv_r_int, tru_b, tru_i, tru_n, tru_t, Option.map_some, Option.map_none, List.map_cons, List.map_nil, List.length_cons, List.length_nil, List.set_cons_zero, List.set_cons_succ, List.cons_append, List.nil_append, List.replicate, Nat.reduceAdd, Nat.reduceSub, Nat.reduceLeDiff, true_and, and_true, decide_eq_true_eq, reduceIte, Bool.false_eq_true, Bool.not_true, Bool.not_false, decide_true, decide_false]
end Lw

open PySem PySem.W PyProof.Rows
set_option maxHeartbeats 0 in
theorem PySem.Challenge.cw_homingtrue_k36_who_can_be_ahead_holds : PySem.Challenge.rw_homingtrue_k36_who_can_be_ahead.Holds := by
  w_on; o_law; k_head; (case hw => w_witness2)
  k_fill
  refine L2.walk_of (l := PySem.Challenge.rw_homingtrue_k36_who_can_be_ahead) (n := 63) (k := 9) (x := "script") (CX := fun _ => L2.CX0) (sp := fun w => SM.SpQ _ 1 Lw.f_law) rfl (by decide) rfl ⟨rfl, by decide, by decide⟩ (fun w h Y => PySem.W.kIn_of Y) ?F (fun _ _ a ns hl ho hS => let ⟨_, e⟩ := Lw.goal ns hl; SM.law_sp e ho hS) (fun _ _ _ _ _ h => h)
  case F =>
    intro w mg fa h KX G hmg
    refine' Lw.all_mk KX G hmg ?a0 ?l0 ?c0 ?k0 ?a1 ?l1 ?c1 ?k1 ?a2 ?l2 ?c2 ?k2 ?a3 ?l3 ?c3 ?k3 ?a4 ?l4 ?c4 ?k4 ?a5 ?l5 ?c5 ?k5 ?a6 ?l6 ?c6 ?k6 ?a7 ?l7 ?c7 ?k7 ?a8 ?l8 ?c8 ?k8 ?a9 ?l9 ?c9 ?k9 ?a10 ?l10 ?c10 ?k10 ?a11 ?l11 ?c11 ?k11 ?a12 ?l12 ?c12 ?k12 ?a13 ?l13 ?c13 ?k13 ?a14 ?l14 ?c14 ?k14 ?a15 ?l15 ?c15 ?k15 ?a16 ?l16 ?c16 ?k16 ?a17 ?l17 ?c17 ?k17 ?a18 ?l18 ?c18 ?k18 ?a19 ?l19 ?c19 ?k19 ?a20 ?l20 ?c20 ?k20 ?a21 ?l21 ?c21 ?k21 ?a22 ?l22 ?c22 ?k22 ?a23 ?l23 ?c23 ?k23 ?a24 ?l24 ?c24 ?k24 ?a25 ?l25 ?c25 ?k25 ?a26 ?l26 ?c26 ?k26 ?a27 ?l27 ?c27 ?k27 ?a28 ?l28 ?c28 ?k28 ?a29 ?l29 ?c29 ?k29 ?a30 ?l30 ?c30 ?k30 ?a31 ?l31 ?c31 ?k31 ?a32 ?l32 ?c32 ?k32 ?a33 ?l33 ?c33 ?k33 ?a34 ?l34 ?c34 ?k34 ?a35 ?l35 ?c35 ?k35 ?a36 ?l36 ?c36 ?k36 ?a37 ?l37 ?c37 ?k37 ?a38 ?l38 ?c38 ?k38 ?z_len ?z_range ?z_abs ?z_min ?z_max ?z_int ?z_tuple ?z_enumerate ?z_sorted ?z_gcd ?z_DAY ?z_BIRD ?z_NOUGHT_outlook ?yy_NOUGHT_outlook ?z_NOUGHT_flights ?yy_NOUGHT_flights
    (case a0 => k_is); (case l0 => k_is); (case c0 => k_is); (case k0 => k_is); (case a1 => k_is); (case l1 => k_is); (case c1 => k_is); (case k1 => k_is); (case a2 => k_is); (case l2 => k_is); (case c2 => k_is); (case k2 => k_is); (case a3 => k_is); (case l3 => k_is); (case c3 => k_is); (case k3 => k_is); (case a4 => k_is); (case l4 => k_is); (case c4 => k_is); (case k4 => k_is); (case a5 => k_is); (case l5 => k_is); (case c5 => k_is); (case k5 => k_is); (case a6 => k_is); (case l6 => k_is); (case c6 => k_is); (case k6 => k_is); (case a7 => k_is); (case l7 => k_is); (case c7 => k_is); (case k7 => k_is); (case a8 => k_is); (case l8 => k_is); (case c8 => k_is); (case k8 => k_is); (case a9 => k_is); (case l9 => k_is); (case c9 => k_is); (case k9 => k_is); (case a10 => k_is); (case l10 => k_is); (case c10 => k_is); (case k10 => k_is); (case a11 => k_is); (case l11 => k_is); (case c11 => k_is); (case k11 => k_is); (case a12 => k_is); (case l12 => k_is); (case c12 => k_is); (case k12 => k_is); (case a13 => k_is); (case l13 => k_is); (case c13 => k_is); (case k13 => k_is); (case a14 => k_is); (case l14 => k_is); (case c14 => k_is); (case k14 => k_is); (case a15 => k_is); (case l15 => k_is); (case c15 => k_is); (case k15 => k_is); (case a16 => k_is); (case l16 => k_is); (case c16 => k_is); (case k16 => k_is); (case a17 => k_is); (case l17 => k_is); (case c17 => k_is); (case k17 => k_is); (case a18 => k_is); (case l18 => k_is); (case c18 => k_is); (case k18 => k_is); (case a19 => k_is); (case l19 => k_is); (case c19 => k_is); (case k19 => k_is); (case a20 => k_is); (case l20 => k_is); (case c20 => k_is); (case k20 => k_is); (case a21 => k_is); (case l21 => k_is); (case c21 => k_is); (case k21 => k_is); (case a22 => k_is); (case l22 => k_is); (case c22 => k_is); (case k22 => k_is); (case a23 => k_is); (case l23 => k_is); (case c23 => k_is); (case k23 => k_is); (case a24 => k_is); (case l24 => k_is); (case c24 => k_is); (case k24 => k_is); (case a25 => k_is); (case l25 => k_is); (case c25 => k_is); (case k25 => k_is); (case a26 => k_is); (case l26 => k_is); (case c26 => k_is); (case k26 => k_is); (case a27 => k_is); (case l27 => k_is); (case c27 => k_is); (case k27 => k_is); (case a28 => k_is); (case l28 => k_is); (case c28 => k_is); (case k28 => k_is); (case a29 => k_is); (case l29 => k_is); (case c29 => k_is); (case k29 => k_is); (case a30 => k_is); (case l30 => k_is); (case c30 => k_is); (case k30 => k_is); (case a31 => k_is); (case l31 => k_is); (case c31 => k_is); (case k31 => k_is); (case a32 => k_is); (case l32 => k_is); (case c32 => k_is); (case k32 => k_is); (case a33 => k_is); (case l33 => k_is); (case c33 => k_is); (case k33 => k_is); (case a34 => k_is); (case l34 => k_is); (case c34 => k_is); (case k34 => k_is); (case a35 => k_is); (case l35 => k_is); (case c35 => k_is); (case k35 => k_is); (case a36 => k_is); (case l36 => k_is); (case c36 => k_is); (case k36 => k_is); (case a37 => k_is); (case l37 => k_is); (case c37 => k_is); (case k37 => k_is); (case a38 => k_is); (case l38 => k_is); (case c38 => k_is); (case k38 => k_is); (case z_len => k_is); (case z_range => k_is); (case z_abs => k_is); (case z_min => k_is); (case z_max => k_is); (case z_int => k_is); (case z_tuple => k_is); (case z_enumerate => k_is); (case z_sorted => k_is); (case z_gcd => k_is); (case z_DAY => k_is); (case z_BIRD => k_is); (case z_NOUGHT_outlook => k_is); (case yy_NOUGHT_outlook => k_is); (case z_NOUGHT_flights => k_is); (case yy_NOUGHT_flights => k_is)

