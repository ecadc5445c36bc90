import PyProof.Rows.All
import Wide.All
import OpenK.AllK
import Wide.FinOn
import HandS.ForMost
import HandS.Exc
import HandS.ExcOwn
import HandS.TryOnly
import HandS.ExcCtx
import HandS.ExcIs
import HandS.HotCalls
import HandS.WordsExc
import HandS.Evl
import HandS.IsInst
import HandS.Gcd
import HandS.Wide
import HandS.EndBits
import PyProof.EqAt
import PyProof.EqKinds
import HandS.DictSubView
import HandS.SortInts
import HandS.Iter
import HandS.More
import KE.KDictList
import HandS.DictComp
import HandS.TupAny
import PySem.Challenge.RW_anycompany_k08_solve_built_systems
set_option Elab.async false
set_option linter.all false
set_option maxRecDepth 100000
/-! Data of Python as plain Lean data, and how it lies in the heap. -/
namespace Iv
open PySem L2 Evl

inductive D where
  | non | bl (b : Bool) | int (i : Int) | str (s : Str) | ty (n : String)
  | tup (l : List D) | lst (l : List D) | scr (ns : List Int)
  | dct (ks : List Key) (ds : List D)
  | obj (c : Str) (fs : List Str) (ds : List D)

mutual
def R (K : PySem.W.Frag) (H : Hp) : D → V → Prop
  | .non, v => v = .non
  | .bl b, v => v = .bl b
  | .int i, v => v = .int i
  | .str s, v => v = .str s
  | .ty n, v => v = .ty n
  | .tup l, v => ∃ a vs, v = .ref a ∧ H a = some (.tup vs) ∧ Rs K H l vs
  | .lst l, v => ∃ a vs, v = .ref a ∧ H a = some (.lst vs) ∧ Rs K H l vs
  | .scr ns, v => ∃ a, v = .ref a ∧ SqL K H a (ns.map V.int)
  | .dct ks ds, v => ∃ a vs, v = .ref a ∧ H a = some (.dK (ks.zip vs)) ∧ vs.length = ks.length ∧ Rs K H ds vs
  | .obj c fs ds, v => ∃ a C dx vs, v = .ref a ∧ PySem.W.nsIn K mainGlobals c = some (some (.ref C)) ∧ H a = some (.ins C dx (fs.zip vs)) ∧ H dx = some (.own a) ∧ vs.length = fs.length ∧ Rs K H ds vs
def Rs (K : PySem.W.Frag) (H : Hp) : List D → List V → Prop
  | [], vs => vs = []
  | d :: ds, vs => ∃ v r, vs = v :: r ∧ R K H d v ∧ Rs K H ds r
end

section
variable {K : PySem.W.Frag} {F H H' F' : Hp} {σ : L2.St}
mutual
theorem R.mono (e : Ex H H') : ∀ {d : D} {v : V}, R K H d v → R K H' d v
  | .non, _, h => by simpa only [R] using h
  | .bl _, _, h => by simpa only [R] using h
  | .int _, _, h => by simpa only [R] using h
  | .str _, _, h => by simpa only [R] using h
  | .ty _, _, h => by simpa only [R] using h
  | .tup l, _, h => by
    simp only [R] at h ⊢
    obtain ⟨a, vs, e1, e2, e3⟩ := h
    exact ⟨a, vs, e1, e a _ e2, Rs.mono e e3⟩
  | .lst l, _, h => by
    simp only [R] at h ⊢
    obtain ⟨a, vs, e1, e2, e3⟩ := h
    exact ⟨a, vs, e1, e a _ e2, Rs.mono e e3⟩
  | .scr ns, _, h => by
    simp only [R] at h ⊢
    obtain ⟨a, e1, e2⟩ := h
    exact ⟨a, e1, ex_l e e2⟩
  | .dct ks ds, _, h => by
    simp only [R] at h ⊢
    obtain ⟨a, vs, e1, e2, e3, e4⟩ := h
    exact ⟨a, vs, e1, e a _ e2, e3, Rs.mono e e4⟩
  | .obj c fs ds, _, h => by
    simp only [R] at h ⊢
    obtain ⟨a, C, dx, vs, e1, e2, e3, e4, e5, e6⟩ := h
    exact ⟨a, C, dx, vs, e1, e2, e a _ e3, e dx _ e4, e5, Rs.mono e e6⟩
theorem Rs.mono (e : Ex H H') : ∀ {l : List D} {vs : List V}, Rs K H l vs → Rs K H' l vs
  | [], _, h => by simpa only [Rs] using h
  | d :: ds, _, h => by
    simp only [Rs] at h ⊢
    obtain ⟨v, r, e1, e2, e3⟩ := h
    exact ⟨v, r, e1, R.mono e e2, Rs.mono e e3⟩
end
theorem Rs.length : ∀ {l : List D} {vs : List V}, Rs K H l vs → vs.length = l.length
  | [], _, h => by simp only [Rs] at h; rw [h]; rfl
  | d :: ds, _, h => by
    simp only [Rs] at h
    obtain ⟨v, r, e1, _, e3⟩ := h
    rw [e1, List.length_cons, List.length_cons, Rs.length e3]
theorem Rs.get : ∀ {l : List D} {vs : List V} {i : Nat} {v : V}, Rs K H l vs → vs[i]? = some v → ∃ d, l[i]? = some d ∧ R K H d v
  | [], _, _, _, h, e => by simp only [Rs] at h; rw [h] at e; cases e
  | d :: ds, _, i, v, h, e => by
    simp only [Rs] at h
    obtain ⟨w, r, e1, e2, e3⟩ := h
    subst e1
    cases i with
    | zero =>
      have : w = v := Option.some.inj e
      subst this
      exact ⟨d, rfl, e2⟩
    | succ i => exact Rs.get (i := i) e3 (by simpa using e)
theorem Rs.get' : ∀ {l : List D} {vs : List V} {i : Nat} {d : D}, Rs K H l vs → l[i]? = some d → ∃ v, vs[i]? = some v ∧ R K H d v
  | [], _, _, _, h, e => by cases e
  | d :: ds, _, i, d', h, e => by
    simp only [Rs] at h
    obtain ⟨w, r, e1, e2, e3⟩ := h
    subst e1
    cases i with
    | zero =>
      have : d = d' := Option.some.inj e
      subst this
      exact ⟨w, rfl, e2⟩
    | succ i => exact Rs.get' (i := i) e3 (by simpa using e)
theorem Rs.nil : Rs K H [] [] := by simp only [Rs]
theorem Rs.cons {d : D} {v : V} {l : List D} {vs : List V} (h : R K H d v) (t : Rs K H l vs) : Rs K H (d :: l) (v :: vs) := by
  simp only [Rs]; exact ⟨v, vs, rfl, h, t⟩
theorem Rs.append : ∀ {l l' : List D} {vs vs' : List V}, Rs K H l vs → Rs K H l' vs' → Rs K H (l ++ l') (vs ++ vs')
  | [], _, _, _, h, h' => by simp only [Rs] at h; subst h; exact h'
  | d :: ds, _, _, _, h, h' => by
    simp only [Rs] at h
    obtain ⟨w, r, e1, e2, e3⟩ := h
    subst e1
    exact Rs.cons e2 (Rs.append e3 h')
theorem Rs.take : ∀ (n : Nat) {l : List D} {vs : List V}, Rs K H l vs → Rs K H (l.take n) (vs.take n)
  | 0, _, _, _ => Rs.nil
  | n + 1, [], _, h => by simp only [Rs] at h; subst h; exact Rs.nil
  | n + 1, d :: ds, _, h => by
    simp only [Rs] at h
    obtain ⟨w, r, e1, e2, e3⟩ := h
    subst e1
    exact Rs.cons e2 (Rs.take n e3)
theorem Rs.drop : ∀ (n : Nat) {l : List D} {vs : List V}, Rs K H l vs → Rs K H (l.drop n) (vs.drop n)
  | 0, _, _, h => h
  | n + 1, [], _, h => by simp only [Rs] at h; subst h; exact Rs.nil
  | n + 1, d :: ds, _, h => by
    simp only [Rs] at h
    obtain ⟨w, r, e1, e2, e3⟩ := h
    subst e1
    exact Rs.drop n e3
theorem Rs.set : ∀ {l : List D} {vs : List V} (i : Nat) {d : D} {v : V}, R K H d v → Rs K H l vs → Rs K H (l.set i d) (vs.set i v)
  | [], _, _, _, _, _, h => by simp only [Rs] at h; subst h; exact Rs.nil
  | d :: ds, _, i, _, _, q, h => by
    simp only [Rs] at h
    obtain ⟨w, r, e1, e2, e3⟩ := h
    subst e1
    cases i with
    | zero => exact Rs.cons q e3
    | succ i => exact Rs.cons e2 (Rs.set i q e3)
theorem Rs.of_map {α : Type} {f : α → D} {g : α → V} (h : ∀ x, R K H (f x) (g x)) : ∀ l : List α, Rs K H (l.map f) (l.map g)
  | [] => Rs.nil
  | x :: l => Rs.cons (h x) (Rs.of_map h l)
theorem Rs.ints : ∀ {ns : List Int} {vs : List V}, Rs K H (ns.map D.int) vs → vs = ns.map V.int
  | [], _, h => by simpa only [List.map_nil, Rs] using h
  | n :: ns, _, h => by
    simp only [List.map_cons, Rs, R] at h ⊢
    obtain ⟨v, r, e1, e2, e3⟩ := h
    rw [e1, e2, Rs.ints e3]
theorem Rs.bls : ∀ {ns : List Bool} {vs : List V}, Rs K H (ns.map D.bl) vs → vs = ns.map V.bl
  | [], _, h => by simpa only [List.map_nil, Rs] using h
  | n :: ns, _, h => by
    simp only [List.map_cons, Rs, R] at h ⊢
    obtain ⟨v, r, e1, e2, e3⟩ := h
    rw [e1, e2, Rs.bls e3]

/-! ### slots -/
/-- a slot's state: unknown; data that nobody changes; a list of the def's own; a dict of the def's own -/
inductive Sl where
  | un | fr (d : D) | ow (l : List D) | od (ks : List Key) (ds : List D) | xo (a : Addr)
abbrev En := List Sl
def Sl.own : Sl → Bool
  | .ow _ => true
  | .od _ _ => true
  | _ => false
def RSl (K : PySem.W.Frag) (F H : Hp) : Sl → Option V → Prop
  | .un, _ => True
  | .fr d, o => ∃ v, o = some v ∧ R K F d v
  | .ow l, o => ∃ p vs, o = some (.ref p) ∧ F p = none ∧ H p = some (.lst vs) ∧ Rs K F l vs
  | .od ks ds, o => ∃ p vs, o = some (.ref p) ∧ F p = none ∧ H p = some (.dK (ks.zip vs)) ∧ vs.length = ks.length ∧ Rs K F ds vs
  | .xo a, o => o = some (.ref a)
/-- an address that a slot owns -/
def Owned (σ : L2.St) (env : En) (a : Addr) : Prop := ∃ (i : Nat) (s : Sl), env[i]? = some s ∧ s.own = true ∧ σ[i]? = some (some (.ref a))
structure Rel (K : PySem.W.Frag) (F H : Hp) (σ : L2.St) (env : En) : Prop where
  len : env.length = σ.length
  ex : Ex F H
  at_ : ∀ (i : Nat) (s : Sl), env[i]? = some s → ∃ o, σ[i]? = some o ∧ RSl K F H s o
  dis : ∀ (i j : Nat) (s t : Sl) (a : Addr), env[i]? = some s → env[j]? = some t → s.own = true → t.own = true → σ[i]? = some (some (.ref a)) → σ[j]? = some (some (.ref a)) → i = j
/-- what an expression leaves -/
structure Gr (σ : L2.St) (env : En) (F H : Hp) (env' : En) (F' H' : Hp) : Prop where
  f : Ex F F'
  h : Ex H H'
  own : ∀ a, Owned σ env' a → Owned σ env a
  keep : ∀ a, H a ≠ none → F a = none → ¬ Owned σ env a → F' a = none
theorem Gr.refl {env : En} : Gr σ env F H env F H := ⟨Ex.refl _, Ex.refl _, fun _ h => h, fun _ _ h _ => h⟩
theorem Ex.some {H H' : Hp} (e : Ex H H') {a : Addr} (h : H a ≠ none) : H' a ≠ none := fun q => by
  cases r : H a with
  | none => exact h r
  | some o => rw [e a o r] at q; cases q
theorem Gr.trans {env env1 env2 : En} {F1 H1 F2 H2 : Hp} (a : Gr σ env F H env1 F1 H1) (b : Gr σ env1 F1 H1 env2 F2 H2) : Gr σ env F H env2 F2 H2 :=
  ⟨a.f.trans b.f, a.h.trans b.h, fun x h => a.own x (b.own x h), fun x h1 h2 h3 => b.keep x (Ex.some a.h h1) (a.keep x h1 h2 h3) fun q => h3 (a.own x q)⟩

theorem Rel.owned {env : En} {a : Addr} (r : Rel K F H σ env) (h : Owned σ env a) : F a = none ∧ H a ≠ none := by
  obtain ⟨i, s, e1, e2, e3⟩ := h
  obtain ⟨o, q1, q2⟩ := r.at_ i s e1
  rw [e3] at q1
  cases q1
  cases s with
  | un => cases e2
  | xo a => cases e2
  | fr d => cases e2
  | ow l =>
    obtain ⟨p, vs, e, n, hp, _⟩ := q2
    cases e
    exact ⟨n, by rw [hp]; exact fun z => nomatch z⟩
  | od ks ds =>
    obtain ⟨p, vs, e, n, hp, _⟩ := q2
    cases e
    exact ⟨n, by rw [hp]; exact fun z => nomatch z⟩
theorem RSl.mono {s : Sl} {o : Option V} (h : RSl K F H s o) (ef : Ex F F') (eh : Ex H H') (hp : ∀ a, s.own = true → o = some (.ref a) → F' a = none) : RSl K F' H' s o := by
  cases s with
  | un => trivial
  | xo a => exact h
  | fr d => obtain ⟨v, e, r⟩ := h; exact ⟨v, e, r.mono ef⟩
  | ow l => obtain ⟨p, vs, e, n, q, r⟩ := h; exact ⟨p, vs, e, hp p rfl e, eh p _ q, r.mono ef⟩
  | od ks ds => obtain ⟨p, vs, e, n, q, z, r⟩ := h; exact ⟨p, vs, e, hp p rfl e, eh p _ q, z, r.mono ef⟩
/-- the ghost heap and the heap grow, the own ones stay -/
theorem Rel.grow {env : En} (r : Rel K F H σ env) (ef : Ex F F') (eh : Ex H H') (efh : Ex F' H') (k : ∀ a, Owned σ env a → F' a = none) : Rel K F' H' σ env :=
  ⟨r.len, efh, fun i s e => by
    obtain ⟨o, e1, q⟩ := r.at_ i s e
    exact ⟨o, e1, q.mono ef eh fun a hs ho => k a ⟨i, s, e, hs, by rw [e1, ho]⟩⟩, r.dis⟩
/-- a slot is set -/
theorem Rel.set {env : En} {i : Nat} {s : Sl} {o : Option V} (r : Rel K F H σ env) (q : RSl K F H s o) (n : ∀ a, s.own = true → o = some (.ref a) → ∀ (j : Nat) (t : Sl), j ≠ i → env[j]? = some t → t.own = true → σ[j]? ≠ some (some (.ref a))) : Rel K F H (σ.set i o) (env.set i s) where
  len := by rw [List.length_set, List.length_set]; exact r.len
  ex := r.ex
  at_ := fun j t e => by
    by_cases h : i = j
    · subst h
      have hi : i < env.length := by
        have := (List.getElem?_eq_some_iff.mp e).1
        simpa using this
      rw [List.getElem?_set_self hi] at e
      cases e
      exact ⟨o, List.getElem?_set_self (by rw [← r.len]; exact hi), q⟩
    · rw [List.getElem?_set_ne h] at e ⊢
      exact r.at_ j t e
  dis := fun a b s' t c e1 e2 o1 o2 v1 v2 => by
    have hl : ∀ {j : Nat} {t : Sl}, (env.set i s)[j]? = some t → (i = j ∧ t = s ∧ j < env.length) ∨ (i ≠ j ∧ env[j]? = some t) := fun {j t} e => by
      by_cases h : i = j
      · subst h
        have hi : i < env.length := by
          have := (List.getElem?_eq_some_iff.mp e).1
          simpa using this
        rw [List.getElem?_set_self hi] at e
        cases e
        exact .inl ⟨rfl, rfl, hi⟩
      · rw [List.getElem?_set_ne h] at e
        exact .inr ⟨h, e⟩
    rcases hl e1 with ⟨ha, hs, hn⟩ | ⟨ha, hs⟩
    · rcases hl e2 with ⟨hb, _, _⟩ | ⟨hb, ht⟩
      · exact ha.symm.trans hb
      · subst ha hs
        rw [List.getElem?_set_self (by rw [← r.len]; exact hn)] at v1
        rw [List.getElem?_set_ne hb] at v2
        exact absurd v2 (n c o1 (Option.some.inj v1) b t (Ne.symm hb) ht o2)
    · rcases hl e2 with ⟨hb, ht, hn⟩ | ⟨hb, ht⟩
      · subst hb ht
        rw [List.getElem?_set_self (by rw [← r.len]; exact hn)] at v2
        rw [List.getElem?_set_ne ha] at v1
        exact absurd v1 (n c o2 (Option.some.inj v2) a s' (Ne.symm ha) hs o1)
      · rw [List.getElem?_set_ne ha] at v1
        rw [List.getElem?_set_ne hb] at v2
        exact r.dis a b s' t c hs ht o1 o2 v1 v2
end
end Iv

set_option Elab.async false
set_option linter.all false
set_option maxRecDepth 100000
/-! Expressions by what they yield: a program's expression has a plain Lean function as its meaning. -/
namespace Iv
open PySem PySem.Spec PyProof.Rows L2 Evl

/-! ### results -/
inductive Res (α : Type) where
  | ok (a : α) (e : En) | ex (c : Nat) (x : Option D) (e : En) | bad
abbrev M (α : Type) := En → Res α
def Res.bind {α β : Type} (r : Res α) (k : α → En → Res β) : Res β := match r with
  | .ok a e => k a e
  | .ex c x e => .ex c x e
  | .bad => .bad
@[simp] theorem Res.bind_ok {α β : Type} {a : α} {e : En} {k : α → En → Res β} : (Res.ok a e).bind k = k a e := rfl
@[simp] theorem Res.bind_ex {α β : Type} {c : Nat} {x : Option D} {e : En} {k : α → En → Res β} : (Res.ex c x e : Res α).bind k = .ex c x e := rfl
@[simp] theorem Res.bind_bad {α β : Type} {k : α → En → Res β} : (Res.bad : Res α).bind k = .bad := rfl
/-- data; a new list, a new dict that nobody else knows -/
inductive Sv where
  | d (x : D) | l (ds : List D) | k (ks : List Key) (ds : List D)
@[simp] def Sv.toD : Sv → D
  | .d x => x
  | .l ds => .lst ds
  | .k ks ds => .dct ks ds
/-- the text's exception classes by number: the class, its one field's name -/
structure Xs where
  cls : Nat → Value
  fld : Nat → Str

section
variable {K : PySem.W.Frag} {S : Xs} {σ : L2.St} {env env' env1 : En} {F F' F1 H H' H1 : Hp} {W : WX}
/-- B: the heap ahead of the expression; what is new is new since then -/
def RV (K : PySem.W.Frag) (B F H : Hp) : Sv → V → Prop
  | .d x, v => R K F x v
  | .l ds, v => ∃ p vs, v = .ref p ∧ B p = none ∧ F p = none ∧ H p = some (.lst vs) ∧ Rs K F ds vs
  | .k ks ds, v => ∃ p vs, v = .ref p ∧ B p = none ∧ F p = none ∧ H p = some (.dK (ks.zip vs)) ∧ vs.length = ks.length ∧ Rs K F ds vs
/-- what is read only: it may be a list or a dict that still changes later -/
def RP (K : PySem.W.Frag) (F H : Hp) (d : D) (v : V) : Prop := R K F d v ∨ (∃ ds p vs, d = .lst ds ∧ v = .ref p ∧ H p = some (.lst vs) ∧ Rs K F ds vs) ∨
  ∃ ks ds p vs, d = .dct ks ds ∧ v = .ref p ∧ H p = some (.dK (ks.zip vs)) ∧ vs.length = ks.length ∧ Rs K F ds vs
theorem RP.mono {d : D} {v : V} (h : RP K F H d v) (a : Ex F F') (b : Ex H H') : RP K F' H' d v := by
  rcases h with h | ⟨ds, p, vs, e1, e2, e3, e4⟩ | ⟨ks, ds, p, vs, e1, e2, e3, e4, e5⟩
  · exact .inl (h.mono a)
  · exact .inr (.inl ⟨ds, p, vs, e1, e2, b p _ e3, e4.mono a⟩)
  · exact .inr (.inr ⟨ks, ds, p, vs, e1, e2, b p _ e3, e4, e5.mono a⟩)
theorem RV.peek {B : Hp} {sv : Sv} {v : V} (h : RV K B F H sv v) : RP K F H sv.toD v := by
  cases sv with
  | d x => exact .inl h
  | l ds => obtain ⟨p, vs, e, _, _, q, r⟩ := h; exact .inr (.inl ⟨ds, p, vs, rfl, e, q, r⟩)
  | k ks ds => obtain ⟨p, vs, e, _, _, q, z, r⟩ := h; exact .inr (.inr ⟨ks, ds, p, vs, rfl, e, q, z, r⟩)
theorem RV.anti {B B' : Hp} {sv : Sv} {v : V} (e : Ex B B') (h : RV K B' F H sv v) : RV K B F H sv v := by
  cases sv with
  | d x => exact h
  | l ds => obtain ⟨p, vs, q1, q2, q⟩ := h; exact ⟨p, vs, q1, fresh_back e q2, q⟩
  | k ks ds => obtain ⟨p, vs, q1, q2, q⟩ := h; exact ⟨p, vs, q1, fresh_back e q2, q⟩
/-- in the heap as it stands -/
theorem RP.at_ {d : D} {v : V} (h : RP K F H d v) (e : Ex F H) : R K H d v := by
  rcases h with h | ⟨ds, p, vs, rfl, e2, e3, e4⟩ | ⟨ks, ds, p, vs, rfl, e2, e3, e4, e5⟩
  · exact h.mono e
  · simp only [R]; exact ⟨p, vs, e2, e3, e4.mono e⟩
  · simp only [R]; exact ⟨p, vs, e2, e3, e4, e5.mono e⟩
/-- how an exception's own dict lies -/
def RX (K : PySem.W.Frag) (S : Xs) (H : Hp) (c : Nat) : Option D → Option Addr → Prop
  | none, a => a = none
  | some d, a => ∃ p v, a = some p ∧ H p = some (.xd [(S.fld c, v)]) ∧ R K H d v

/-- how results lie: the heap ahead, the ghost heap, the heap, the slots' states -/
abbrev RT (α β : Type) := Hp → Hp → Hp → En → α → β → Prop
class Anti {α β : Type} (T : RT α β) : Prop where
  anti : ∀ {B B' F H env a b}, Ex B B' → T B' F H env a b → T B F H env a b
/-- a result, wanted by Q -/
def okG {α β : Type} (K : PySem.W.Frag) (S : Xs) (W : WX) (σ : L2.St) (T : RT α β) (F H : Hp) (env : En) (Q : β → Hp → Prop) : Res α → Prop
  | .ok a env' => ∀ b F' H', Gr σ env F H env' F' H' → Rel K F' H' σ env' → T H F' H' env' a b → Q b H'
  | .ex c x env' => ∀ d F' H', Gr σ env F H env' F' H' → Rel K F' H' σ env' → RX K S F' c x d → W (S.cls c) d σ H'
  | .bad => False
theorem okG.shift {α β : Type} {T : RT α β} [Anti T] {Q : β → Hp → Prop} {r : Res α} (g : Gr σ env F H env1 F1 H1) (h : okG K S W σ T F H env Q r) : okG K S W σ T F1 H1 env1 Q r := by
  cases r with
  | ok a e => exact fun b F' H' g' rel t => h b F' H' (g.trans g') rel (Anti.anti g.h t)
  | ex c x e => exact fun d F' H' g' => h d F' H' (g.trans g')
  | bad => exact h
theorem okG.imp {α β : Type} {T : RT α β} {Q Q' : β → Hp → Prop} {r : Res α} (h : okG K S W σ T F H env Q r) (q : ∀ b H', Q b H' → Q' b H') : okG K S W σ T F H env Q' r := by
  cases r with
  | ok a e => exact fun b F' H' g rel t => q _ _ (h b F' H' g rel t)
  | ex c x e => exact h
  | bad => exact h
/-- what stands behind the first of two -/
def Then {α β γ δ : Type} (K : PySem.W.Frag) (S : Xs) (W : WX) (σ : L2.St) (T : RT α β) (T' : RT γ δ) (Q : δ → Hp → Prop) (k : α → En → Res γ) (F0 H0 : Hp) (b : β) (H1 : Hp) : Prop :=
  ∃ F1 env1 a, Ex F0 F1 ∧ Ex H0 H1 ∧ Rel K F1 H1 σ env1 ∧ T H0 F1 H1 env1 a b ∧ okG K S W σ T' F1 H1 env1 Q (k a env1)
theorem okG.bind {α β γ δ : Type} {T : RT α β} {T' : RT γ δ} [Anti T'] {Q : δ → Hp → Prop} {r : Res α} {k : α → En → Res γ} (h : okG K S W σ T' F H env Q (r.bind k)) :
    okG K S W σ T F H env (Then K S W σ T T' Q k F H) r := by
  cases r with
  | ok a e => exact fun b F' H' g rel t => ⟨F', e, a, g.f, g.h, rel, t, okG.shift g h⟩
  | ex c x e => exact h
  | bad => exact h

/-! ### readings by meanings -/
def RPs (K : PySem.W.Frag) (F H : Hp) : List D → List V → Prop
  | [], vs => vs = []
  | d :: ds, vs => ∃ v r, vs = v :: r ∧ RP K F H d v ∧ RPs K F H ds r
def TV (K : PySem.W.Frag) : RT Sv V := fun B F H _ => RV K B F H
def TF (K : PySem.W.Frag) : RT D V := fun _ F _ _ => R K F
def TP (K : PySem.W.Frag) : RT D V := fun _ F H _ => RP K F H
def TFs (K : PySem.W.Frag) : RT (List D) (List V) := fun _ F _ _ => Rs K F
def TPs (K : PySem.W.Frag) : RT (List D) (List V) := fun _ F H _ => RPs K F H
def TB : RT Bool Bool := fun _ _ _ _ a b => a = b
instance : Anti (TV K) := ⟨fun e h => RV.anti e h⟩
instance : Anti (TF K) := ⟨fun _ h => h⟩
instance : Anti (TP K) := ⟨fun _ h => h⟩
instance : Anti (TFs K) := ⟨fun _ h => h⟩
instance : Anti (TPs K) := ⟨fun _ h => h⟩
instance : Anti TB := ⟨fun _ h => h⟩
def rd {α β : Type} (K : PySem.W.Frag) (S : Xs) (W : WX) (T : RT α β) (f : M α) : L2.St → Hp → (β → Hp → Prop) → Prop := fun σ H Q => ∃ F env, Rel K F H σ env ∧ okG K S W σ T F H env Q (f env)
theorem rd_bind {α β γ δ : Type} {T : RT α β} {T' : RT γ δ} [Anti T'] {Q : δ → Hp → Prop} {f : M α} {k : α → En → Res γ} (h : rd K S W T' (fun env => (f env).bind k) σ H Q) :
    ∃ F, Ex F H ∧ rd K S W T f σ H (Then K S W σ T T' Q k F H) := by
  obtain ⟨F, env, rel, h⟩ := h
  exact ⟨F, rel.ex, F, env, rel, okG.bind h⟩
theorem rd_imp {α β : Type} {T : RT α β} {Q Q' : β → Hp → Prop} {f : M α} (h : rd K S W T f σ H Q) (q : ∀ b H', Q b H' → Q' b H') : rd K S W T f σ H Q' := by
  obtain ⟨F, env, rel, h⟩ := h
  exact ⟨F, env, rel, h.imp q⟩
end

section
variable {X : Cx} {S : Xs} {W : WX} {e a b : Expr} {es : List Expr} {pos : Pos}
/-- a value; frozen data; data that is read only; arguments; a test -/
def PD (X : Cx) (S : Xs) (W : WX) (e : Expr) (f : M Sv) : Prop := PE X e (rd X.K S W (TV X.K) f)
def PF (X : Cx) (S : Xs) (W : WX) (e : Expr) (f : M D) : Prop := PE X e (rd X.K S W (TF X.K) f)
def PP (X : Cx) (S : Xs) (W : WX) (e : Expr) (f : M D) : Prop := PE X e (rd X.K S W (TP X.K) f)
def PFs (X : Cx) (S : Xs) (W : WX) (es : List Expr) (f : M (List D)) : Prop := PA X es (rd X.K S W (TFs X.K) f)
def PPs (X : Cx) (S : Xs) (W : WX) (es : List Expr) (f : M (List D)) : Prop := PA X es (rd X.K S W (TPs X.K) f)
def PB (X : Cx) (S : Xs) (W : WX) (e : Expr) (f : M Bool) : Prop := PT X e (rd X.K S W TB f)
theorem PE.imp {t t' : TE} (h : PE X e t) (q : ∀ σ H Q, t' σ H Q → t σ H Q) : PE X e t' := ⟨fun pins s σ H Q I hw => h.run pins s σ H Q I (q σ H Q hw)⟩
theorem PT.imp {t t' : TT} (h : PT X e t) (q : ∀ σ H Q, t' σ H Q → t σ H Q) : PT X e t' := ⟨fun pins s σ H Q I hw => h.run pins s σ H Q I (q σ H Q hw)⟩
theorem PA.imp {t t' : TA} (h : PA X es t) (q : ∀ σ H Q, t' σ H Q → t σ H Q) : PA X es t' := ⟨fun pos pins s σ H Q I hw => h.run pos pins s σ H Q I (q σ H Q hw)⟩
theorem PW.imp {t t' : TT} (h : PW X e t) (q : ∀ σ H Q, t' σ H Q → t σ H Q) : PW X e t' := ⟨fun wh pins s σ H Q I hw => h.run wh pins s σ H Q I (q σ H Q hw)⟩

/-! ### names and constants -/
def mC (d : D) : M Sv := fun env => .ok (.d d) env
def mVar (i : Nat) : M Sv := fun env => match env[i]? with
  | some (.fr d) => .ok (.d d) env
  | some (.ow l) => .ok (.d (.lst l)) (env.set i (.fr (.lst l)))
  | some (.od ks ds) => .ok (.d (.dct ks ds)) (env.set i (.fr (.dct ks ds)))
  | _ => .bad
def mPk (i : Nat) : M D := fun env => match env[i]? with
  | some (.fr d) => .ok d env
  | some (.ow l) => .ok (.lst l) env
  | some (.od ks ds) => .ok (.dct ks ds) env
  | _ => .bad
def mD (f : M Sv) : M D := fun env => (f env).bind fun sv env => .ok sv.toD env
theorem pd_c {d : D} {v : V} (h : PE X e (tC v)) (r : ∀ F, R X.K F d v) : PD X S W e (mC d) := PE.imp h fun σ H Q ⟨F, env, rel, h⟩ => h v F H Gr.refl rel (r F)
theorem pd_int {i : Int} {j : Nat} : PD X S W (.Constant (.int i) j pos) (mC (.int i)) := pd_c pe_int fun _ => by simp only [R]
theorem pd_bl {i : Bool} {j : Nat} : PD X S W (.Constant (.bool i) j pos) (mC (.bl i)) := pd_c pe_bl fun _ => by simp only [R]
theorem pd_non {j : Nat} : PD X S W (.Constant .none j pos) (mC .non) := pd_c pe_non fun _ => by simp only [R]
theorem pd_str {i : Str} {j : Nat} : PD X S W (.Constant (.str i) j pos) (mC (.str i)) := pd_c pe_str fun _ => by simp only [R]
/-- an own slot is given up: its list is data from now on -/
theorem Rel.freeze {K : PySem.W.Frag} {F H : Hp} {σ : L2.St} {env : En} {i : Nat} {s : Sl} {p : Addr} {o : HO} {d : D} (rel : Rel K F H σ env) (e : env[i]? = some s) (hs : s.own = true) (hv : σ[i]? = some (some (.ref p))) (hp : H p = some o) (hr : R K (upd F p o) d (.ref p)) :
    Rel K (upd F p o) H σ (env.set i (.fr d)) ∧ Gr σ env F H (env.set i (.fr d)) (upd F p o) H := by
  have fp : F p = none := (rel.owned ⟨i, s, e, hs, hv⟩).1
  have ef : Ex F (upd F p o) := Ex.new fp
  have il : i < env.length := (List.getElem?_eq_some_iff.mp e).1
  have old : ∀ {j : Nat} {t : Sl}, (env.set i (.fr d))[j]? = some t → t.own = true → j ≠ i ∧ env[j]? = some t := fun {j t} q ho => by
    by_cases hj : i = j
    · subst hj
      rw [List.getElem?_set_self il] at q
      cases q
      cases ho
    · rw [List.getElem?_set_ne hj] at q
      exact ⟨Ne.symm hj, q⟩
  have keep : ∀ a, Owned σ (env.set i (.fr d)) a → Owned σ env a ∧ a ≠ p := fun a ⟨j, t, q, ho, hj⟩ => by
    obtain ⟨nj, q'⟩ := old q ho
    refine ⟨⟨j, t, q', ho, hj⟩, fun z => ?_⟩
    subst z
    exact nj (rel.dis j i t s a q' e ho hs hj hv)
  refine ⟨⟨by rw [List.length_set]; exact rel.len, fun a u q => ?_, fun j t q => ?_, fun x y t u c q1 q2 o1 o2 v1 v2 => ?_⟩, ⟨ef, Ex.refl _, fun a q => (keep a q).1, fun a h1 h2 h3 => ?_⟩⟩
  · by_cases ha : a = p
    · subst ha
      rw [upd_same] at q
      rw [hp]
      exact q
    · rw [upd_ne ha] at q
      exact rel.ex a u q
  · by_cases hj : i = j
    · subst hj
      rw [List.getElem?_set_self il] at q
      cases q
      exact ⟨_, hv, _, rfl, hr⟩
    · rw [List.getElem?_set_ne hj] at q
      obtain ⟨w, q1, q2⟩ := rel.at_ j t q
      refine ⟨w, q1, q2.mono ef (Ex.refl _) fun a ho z => ?_⟩
      have := keep a ⟨j, t, by rw [List.getElem?_set_ne hj]; exact q, ho, by rw [q1, z]⟩
      rw [upd_ne this.2]
      exact (rel.owned this.1).1
  · exact rel.dis x y t u c (old q1 o1).2 (old q2 o2).2 o1 o2 v1 v2
  · have ha : a ≠ p := fun z => h3 ⟨i, s, e, hs, by rw [z]; exact hv⟩
    rw [upd_ne ha]
    exact h2
theorem pd_var {i : Nat} {x : Str} (hN : X.N[i]? = some x) (hv : Vis X.env.scope x) (hd : (x == ("__debug__" : Str)) = false := by decide) (hcd : (x == ("__classdict__" : Str)) = false := by decide) : PD X S W (.Name x pos) (mVar i) :=
  PE.imp (pe_var hN hv hd hcd) fun σ H Q ⟨F, env, rel, h⟩ => by
    unfold mVar at h
    split at h
    · rename_i d e
      obtain ⟨o, q1, v, q2, r⟩ := rel.at_ i _ e
      subst q2
      exact ⟨v, q1, h v F H Gr.refl rel r⟩
    · rename_i l e
      obtain ⟨o, q1, p, vs, q2, n, q3, r⟩ := rel.at_ i _ e
      subst q2
      have z := rel.freeze (d := .lst l) e rfl q1 q3 (by simp only [R]; exact ⟨p, vs, rfl, upd_same, r.mono (Ex.new n)⟩)
      exact ⟨_, q1, h _ _ H z.2 z.1 (by show R _ _ _ _; simp only [R]; exact ⟨p, vs, rfl, upd_same, r.mono (Ex.new n)⟩)⟩
    · rename_i ks ds e
      obtain ⟨o, q1, p, vs, q2, n, q3, z, r⟩ := rel.at_ i _ e
      subst q2
      have y := rel.freeze (d := .dct ks ds) e rfl q1 q3 (by simp only [R]; exact ⟨p, vs, rfl, upd_same, z, r.mono (Ex.new n)⟩)
      exact ⟨_, q1, h _ _ H y.2 y.1 (by show R _ _ _ _; simp only [R]; exact ⟨p, vs, rfl, upd_same, z, r.mono (Ex.new n)⟩)⟩
    · exact h.elim
theorem pp_var {i : Nat} {x : Str} (hN : X.N[i]? = some x) (hv : Vis X.env.scope x) (hd : (x == ("__debug__" : Str)) = false := by decide) (hcd : (x == ("__classdict__" : Str)) = false := by decide) : PP X S W (.Name x pos) (mPk i) :=
  PE.imp (pe_var hN hv hd hcd) fun σ H Q ⟨F, env, rel, h⟩ => by
    unfold mPk at h
    split at h
    · rename_i d e
      obtain ⟨o, q1, v, q2, r⟩ := rel.at_ i _ e
      subst q2
      exact ⟨v, q1, h v F H Gr.refl rel (.inl r)⟩
    · rename_i l e
      obtain ⟨o, q1, p, vs, q2, n, q3, r⟩ := rel.at_ i _ e
      subst q2
      exact ⟨_, q1, h _ F H Gr.refl rel (.inr (.inl ⟨l, p, vs, rfl, rfl, q3, r⟩))⟩
    · rename_i ks ds e
      obtain ⟨o, q1, p, vs, q2, n, q3, z, r⟩ := rel.at_ i _ e
      subst q2
      exact ⟨_, q1, h _ F H Gr.refl rel (.inr (.inr ⟨ks, ds, p, vs, rfl, rfl, q3, z, r⟩))⟩
    · exact h.elim
theorem pp_of {f : M Sv} (h : PD X S W e f) : PP X S W e (mD f) := PE.imp h fun σ H Q q => by
  obtain ⟨F, ef, q⟩ := rd_bind (T := TV X.K) q
  refine rd_imp q fun v H' ⟨F1, env1, sv, g1, g2, rel, r, q⟩ => ?_
  exact q v F1 H' Gr.refl rel (RV.peek r)
/-- a new list becomes data -/
theorem pf_of {f : M Sv} (h : PD X S W e f) : PF X S W e (mD f) := PE.imp h fun σ H Q ⟨F, env, rel, q⟩ => by
  refine ⟨F, env, rel, ?_⟩
  unfold mD at q
  cases hr : f env with
  | bad => rw [hr] at q; exact q
  | ex c x env1 => rw [hr] at q; exact q
  | ok sv env1 =>
    rw [hr] at q
    intro v F1 H1 g rel1 rv
    have q : okG X.K S W σ (TF X.K) F H env Q (.ok sv.toD env1) := q
    have core : ∀ {p : Addr} {o : HO}, H p = none → F1 p = none → H1 p = some o → Gr σ env F H env1 (upd F1 p o) H1 ∧ Rel X.K (upd F1 p o) H1 σ env1 := fun {p o} hb n z => by
      have ne : ∀ a, Owned σ env1 a → a ≠ p := fun a ha y => (rel.owned (g.own a ha)).2 (by rw [y]; exact hb)
      refine ⟨⟨g.f.trans (Ex.new n), g.h, g.own, fun a h1 h2 h3 => ?_⟩, rel1.grow (Ex.new n) (Ex.refl _) (fun a u e => ?_) fun a ha => by rw [upd_ne (ne a ha)]; exact (rel1.owned ha).1⟩
      · rw [upd_ne (fun y => h1 (by rw [y]; exact hb))]
        exact g.keep a h1 h2 h3
      · by_cases ha : a = p
        · subst ha; rw [upd_same] at e; rw [z]; exact e
        · rw [upd_ne ha] at e; exact rel1.ex a u e
    cases sv with
    | d x => exact q v F1 H1 g rel1 rv
    | l ds =>
      obtain ⟨p, vs, e, hb, n, z, r⟩ := rv
      have c := core hb n z
      exact q v _ H1 c.1 c.2 (by show R _ _ _ _; simp only [Sv.toD, R]; exact ⟨p, vs, e, upd_same, r.mono (Ex.new n)⟩)
    | k ks ds =>
      obtain ⟨p, vs, e, hb, n, z, y, r⟩ := rv
      have c := core hb n z
      exact q v _ H1 c.1 c.2 (by show R _ _ _ _; simp only [Sv.toD, R]; exact ⟨p, vs, e, upd_same, y, r.mono (Ex.new n)⟩)
/-- data as a value -/
def mF (f : M D) : M Sv := fun env => (f env).bind fun d env => .ok (.d d) env

/-! ### operations -/
/-- something new is laid, all else stands -/
structure New (F H F' H' : Hp) : Prop where
  f : Ex F F'
  h : Ex H H'
  fh : Ex F' H'
  keep : ∀ a, H a ≠ none → F a = none → F' a = none
theorem New.refl {F H : Hp} (e : Ex F H) : New F H F H := ⟨Ex.refl _, Ex.refl _, e, fun _ _ h => h⟩
/-- an object that stays data -/
theorem New.data {F H : Hp} {p : Addr} {o : HO} (e : Ex F H) (n : H p = none) : New F H (upd F p o) (upd H p o) :=
  ⟨Ex.new (fresh_back e n), Ex.new n, fun a u q => by
    by_cases ha : a = p
    · subst ha; rw [upd_same] at q ⊢; exact q
    · rw [upd_ne ha] at q ⊢; exact e a u q, fun a h1 h2 => by
    rw [upd_ne (fun z => h1 (by rw [z]; exact n))]; exact h2⟩
/-- an object that may still change -/
theorem New.fresh {F H : Hp} {p : Addr} {o : HO} (e : Ex F H) (n : H p = none) : New F H F (upd H p o) :=
  ⟨Ex.refl _, Ex.new n, fun a u q => by rw [upd_ne (ne_of_none (e a u q) n)]; exact e a u q, fun a _ h2 => h2⟩
theorem New.gr {K : PySem.W.Frag} {F H F' H' : Hp} {σ : L2.St} {env : En} (n : New F H F' H') (rel : Rel K F H σ env) : Gr σ env F H env F' H' ∧ Rel K F' H' σ env :=
  ⟨⟨n.f, n.h, fun _ h => h, fun a h1 h2 _ => n.keep a h1 h2⟩, rel.grow n.f n.h n.fh fun a ha => n.keep a (rel.owned ha).2 (rel.owned ha).1⟩
def rdo (o : Option Sv) (env : En) : Res Sv := match o with
  | some sv => .ok sv env
  | none => .bad
/-- what a rule for values yields -/
def OpS (K : PySem.W.Frag) (r : R2) (o : D → D → Option Sv) : Prop := ∀ (F H : Hp) (x y : V) (dx dy : D) (sv : Sv), Ex F H → RP K F H dx x → RP K F H dy y → o dx dy = some sv →
  ∀ Q : VK, (∀ v F' H', New F H F' H' → RV K H F' H' sv v → Q v H') → r x y H Q
def UnS (K : PySem.W.Frag) (r : V → Hp → VK → Prop) (o : D → Option Sv) : Prop := ∀ (F H : Hp) (x : V) (dx : D) (sv : Sv), Ex F H → RP K F H dx x → o dx = some sv →
  ∀ Q : VK, (∀ v F' H', New F H F' H' → RV K H F' H' sv v → Q v H') → r x H Q
def ClS (K : PySem.W.Frag) (r : List V → Hp → VK → Prop) (o : List D → Option Sv) : Prop := ∀ (F H : Hp) (xs : List V) (ds : List D) (sv : Sv), Ex F H → RPs K F H ds xs → o ds = some sv →
  ∀ Q : VK, (∀ v F' H', New F H F' H' → RV K H F' H' sv v → Q v H') → r xs H Q
def mOp (o : D → D → Option Sv) (f g : M D) : M Sv := fun env => (f env).bind fun x env => (g env).bind fun y env => rdo (o x y) env
def mUn (o : D → Option Sv) (f : M D) : M Sv := fun env => (f env).bind fun x env => rdo (o x) env
def mCl (o : List D → Option Sv) (f : M (List D)) : M Sv := fun env => (f env).bind fun x env => rdo (o x) env
variable {f g : M D} {o : D → D → Option Sv}
theorem rd_op {σ : L2.St} {H : Hp} {Q : VK} {r : R2} (hs : OpS X.K r o) (q : rd X.K S W (TV X.K) (mOp o f g) σ H Q) : tOp r (rd X.K S W (TP X.K) f) (rd X.K S W (TP X.K) g) σ H Q := by
  obtain ⟨F, ef, q⟩ := rd_bind (T := TP X.K) q
  refine rd_imp q fun x H1 ⟨F1, env1, dx, g1, g2, rel1, rx, q⟩ => ?_
  have q := okG.bind (T := TP X.K) q
  refine ⟨F1, env1, rel1, q.imp fun y H2 ⟨F2, env2, dy, k1, k2, rel2, ry, q⟩ => ?_⟩
  have rx2 := RP.mono rx k1 k2
  dsimp only at q
  cases ho : o dx dy with
  | none => rw [ho] at q; exact q.elim
  | some sv =>
    rw [ho] at q
    exact hs F2 H2 x y dx dy sv rel2.ex rx2 ry ho Q fun v F' H' n rv => q v F' H' (n.gr rel2).1 (n.gr rel2).2 rv
theorem pd_op {op : Operator} {r : R2} (ho : OpR X (binaryOp op) r) (hs : OpS X.K r o) (ha : PP X S W a f) (hb : PP X S W b g) : PD X S W (.BinOp a op b pos) (mOp o f g) :=
  PE.imp (pe_op ho ha hb) fun _ _ _ q => rd_op hs q
theorem pd_cmp {op : CmpOp} {r : R2} (ho : OpR X (compareOp op) r) (hs : OpS X.K r o) (hm : behindInMarks op b = false) (ha : PP X S W a f) (hb : PP X S W b g) : PD X S W (.Compare a [op] [b] pos) (mOp o f g) :=
  PE.imp (pe_cmpR ho ha hb hm) fun _ _ _ q => rd_op hs q
theorem pd_ix {r : R2} (hr : IxR X r) (hs : OpS X.K r o) (hx : PlainIx b) (ha : PP X S W a f) (hb : PP X S W b g) : PD X S W (.Subscript a b pos) (mOp o f g) :=
  PE.imp (pe_ix hr ha hb hx) fun _ _ _ q => rd_op hs q
theorem pd_un {op : UnaryOp} {r : V → Hp → VK → Prop} {o : D → Option Sv} (ho : UnR X (unaryOp op) r) (hs : UnS X.K r o) (ha : PP X S W a f) : PD X S W (.UnaryOp op a pos) (mUn o f) :=
  PE.imp (pe_un ho ha) fun σ H Q q => by
    obtain ⟨F, ef, q⟩ := rd_bind (T := TP X.K) q
    refine rd_imp q fun x H1 ⟨F1, env1, dx, g1, g2, rel1, rx, q⟩ => ?_
    dsimp only at q
    cases h : o dx with
    | none => rw [h] at q; exact q.elim
    | some sv =>
      rw [h] at q
      exact hs F1 H1 x dx sv rel1.ex rx h Q fun v F' H' n rv => q v F' H' (n.gr rel1).1 (n.gr rel1).2 rv

/-! ### arguments, displays, calls of built-ins -/
def mNil : M (List D) := fun env => .ok [] env
def mCons (f : M D) (g : M (List D)) : M (List D) := fun env => (f env).bind fun x env => (g env).bind fun xs env => .ok (x :: xs) env
theorem pfs_nil : PFs X S W [] mNil := PA.imp pa_nil fun σ H Q ⟨F, env, rel, q⟩ => q [] F H Gr.refl rel Rs.nil
theorem pps_nil : PPs X S W [] mNil := PA.imp pa_nil fun σ H Q ⟨F, env, rel, q⟩ => q [] F H Gr.refl rel rfl
theorem pfs_cons {g : M (List D)} (ha : PF X S W e f) (hr : PFs X S W es g) (hs : starEach (e :: es) X.env = (false, eval e X.env) :: starEach es X.env := by rfl) : PFs X S W (e :: es) (mCons f g) :=
  PA.imp (pa_cons ha hr hs) fun σ H Q q => by
    obtain ⟨F, ef, q⟩ := rd_bind (T := TF X.K) q
    refine rd_imp q fun x H1 ⟨F1, env1, dx, g1, g2, rel1, rx, q⟩ => ?_
    have q := okG.bind (T := TFs X.K) q
    refine ⟨F1, env1, rel1, q.imp fun y H2 ⟨F2, env2, dy, k1, k2, rel2, ry, q⟩ => ?_⟩
    exact q _ F2 H2 Gr.refl rel2 (Rs.cons (R.mono k1 rx) ry)
theorem pps_cons {g : M (List D)} (ha : PP X S W e f) (hr : PPs X S W es g) (hs : starEach (e :: es) X.env = (false, eval e X.env) :: starEach es X.env := by rfl) : PPs X S W (e :: es) (mCons f g) :=
  PA.imp (pa_cons ha hr hs) fun σ H Q q => by
    obtain ⟨F, ef, q⟩ := rd_bind (T := TP X.K) q
    refine rd_imp q fun x H1 ⟨F1, env1, dx, g1, g2, rel1, rx, q⟩ => ?_
    have q := okG.bind (T := TPs X.K) q
    refine ⟨F1, env1, rel1, q.imp fun y H2 ⟨F2, env2, dy, k1, k2, rel2, ry, q⟩ => ?_⟩
    exact q _ F2 H2 Gr.refl rel2 ⟨_, _, rfl, RP.mono rx k1 k2, ry⟩
def mTup (f : M (List D)) : M Sv := fun env => (f env).bind fun ds env => if ds.length ≤ 100000 then .ok (.d (.tup ds)) env else .bad
def mLst (f : M (List D)) : M Sv := fun env => (f env).bind fun ds env => if ds.length ≤ 100000 then .ok (.l ds) env else .bad
theorem pd_tup {f : M (List D)} {k : Nat} (h : PFs X S W es f) : PD X S W (.Tuple es k pos) (mTup f) := PE.imp (pe_tup h) fun σ H Q q => by
  obtain ⟨F, ef, q⟩ := rd_bind (T := TFs X.K) q
  refine rd_imp q fun xs H1 ⟨F1, env1, ds, g1, g2, rel1, rx, q⟩ => ?_
  have rx : Rs X.K F1 ds xs := rx
  dsimp only at q
  by_cases hl : ds.length ≤ 100000
  · rw [if_pos hl] at q
    refine ⟨sz_of (by rw [rx.length]; exact hl), fun p hp => ?_⟩
    have n := New.data (o := .tup xs) rel1.ex hp
    exact q _ _ _ (n.gr rel1).1 (n.gr rel1).2 (by show R _ _ _ _; simp only [R]; exact ⟨p, xs, rfl, upd_same, rx.mono n.f⟩)
  · rw [if_neg hl] at q; exact q.elim
theorem pd_lst {f : M (List D)} (h : PFs X S W es f) : PD X S W (.List es pos) (mLst f) := PE.imp (pe_lst h) fun σ H Q q => by
  obtain ⟨F, ef, q⟩ := rd_bind (T := TFs X.K) q
  refine rd_imp q fun xs H1 ⟨F1, env1, ds, g1, g2, rel1, rx, q⟩ => ?_
  have rx : Rs X.K F1 ds xs := rx
  dsimp only at q
  by_cases hl : ds.length ≤ 100000
  · rw [if_pos hl] at q
    refine ⟨sz_of (by rw [rx.length]; exact hl), fun p hp => ?_⟩
    have n := New.fresh (o := .lst xs) rel1.ex hp
    exact q _ _ _ (n.gr rel1).1 (n.gr rel1).2 ⟨p, xs, rfl, hp, fresh_back rel1.ex hp, upd_same, rx⟩
  · rw [if_neg hl] at q; exact q.elim
theorem rd_cl {σ : L2.St} {H : Hp} {Q : VK} {r : List V → Hp → VK → Prop} {o : List D → Option Sv} {f : M (List D)} (hs : ClS X.K r o) (q : rd X.K S W (TV X.K) (mCl o f) σ H Q) : tCB r (rd X.K S W (TPs X.K) f) σ H Q := by
  obtain ⟨F, ef, q⟩ := rd_bind (T := TPs X.K) q
  refine rd_imp q fun x H1 ⟨F1, env1, dx, g1, g2, rel1, rx, q⟩ => ?_
  dsimp only at q
  cases h : o dx with
  | none => rw [h] at q; exact q.elim
  | some sv =>
    rw [h] at q
    exact hs F1 H1 x dx sv rel1.ex rx h Q fun v F' H' n rv => q v F' H' (n.gr rel1).1 (n.gr rel1).2 rv
theorem pd_callB {id : String} {x : Str} {p : Pos} {r : List V → Hp → VK → Prop} {o : List D → Option Sv} {f : M (List D)} (hc : CallR X (.builtin id) r) (hs : ClS X.K r o) (hg : Gl X x) (hm : X.mg x = none) (hv : bootBuiltins x = some (.builtin id)) (ha : PPs X S W (e :: es) f) (hn : x ≠ "__name__" := by decide) (hdb : (x == ("__debug__" : Str)) = false := by decide)
    (he : starEach (e :: es) X.env = (false, eval e X.env) :: starEach es X.env := by rfl) (hpl : (backTo pos (starEach es X.env)).any (·.1) = false := by rfl) : PD X S W (.Call (.Name x p) (e :: es) [] pos) (mCl o f) :=
  PE.imp (pe_callB hc hg hm hv ha hn hdb he hpl) fun _ _ _ q => rd_cl hs q
theorem pd_callTy {T : String} {x : Str} {p : Pos} {r : List V → Hp → VK → Prop} {o : List D → Option Sv} {f : M (List D)} (hc : CallR X (.type T) r) (hs : ClS X.K r o) (hg : Gl X x) (hm : X.mg x = none) (hv : bootBuiltins x = some (.type T)) (ha : PPs X S W (e :: es) f) (hn : x ≠ "__name__" := by decide) (hdb : (x == ("__debug__" : Str)) = false := by decide)
    (he : starEach (e :: es) X.env = (false, eval e X.env) :: starEach es X.env := by rfl) (hpl : (backTo pos (starEach es X.env)).any (·.1) = false := by rfl) : PD X S W (.Call (.Name x p) (e :: es) [] pos) (mCl o f) :=
  PE.imp (pe_callTy hc hg hm hv ha hn hdb he hpl) fun _ _ _ q => rd_cl hs q
theorem pd_callBf {id : String} {x : Str} {p : Pos} {r : List V → Hp → VK → Prop} {o : List D → Option Sv} {f : M (List D)} (hc : CallR X (.builtin id) r) (hs : ClS X.K r o) (hg : Gl X x) (hm : X.mg x = some (.builtin id)) (ha : PPs X S W (e :: es) f) (hdb : (x == ("__debug__" : Str)) = false := by decide)
    (he : starEach (e :: es) X.env = (false, eval e X.env) :: starEach es X.env := by rfl) (hpl : (backTo pos (starEach es X.env)).any (·.1) = false := by rfl) : PD X S W (.Call (.Name x p) (e :: es) [] pos) (mCl o f) :=
  PE.imp (pe_callBfun hc hg hm ha hdb he hpl) fun _ _ _ q => rd_cl hs q
end
end Iv

set_option Elab.async false
set_option linter.all false
set_option maxRecDepth 100000
/-! The operations on data, one function each, and that the rules yield them. -/
namespace Iv
open PySem PySem.Spec PyProof.Rows L2 Evl

section
variable {K : PySem.W.Frag} {F H F' H' B : Hp} {x y v : V}
theorem RP.int {i : Int} (h : RP K F H (.int i) v) : v = .int i := by
  rcases h with h | ⟨_, _, _, e, _⟩ | ⟨_, _, _, _, e, _⟩
  · simpa only [R] using h
  · cases e
  · cases e
theorem RP.bl {i : Bool} (h : RP K F H (.bl i) v) : v = .bl i := by
  rcases h with h | ⟨_, _, _, e, _⟩ | ⟨_, _, _, _, e, _⟩
  · simpa only [R] using h
  · cases e
  · cases e
theorem RP.str {i : Str} (h : RP K F H (.str i) v) : v = .str i := by
  rcases h with h | ⟨_, _, _, e, _⟩ | ⟨_, _, _, _, e, _⟩
  · simpa only [R] using h
  · cases e
  · cases e
theorem RP.ty {i : String} (h : RP K F H (.ty i) v) : v = .ty i := by
  rcases h with h | ⟨_, _, _, e, _⟩ | ⟨_, _, _, _, e, _⟩
  · simpa only [R] using h
  · cases e
  · cases e
theorem RP.non (h : RP K F H .non v) : v = .non := by
  rcases h with h | ⟨_, _, _, e, _⟩ | ⟨_, _, _, _, e, _⟩
  · simpa only [R] using h
  · cases e
  · cases e
theorem RP.tup {l : List D} (h : RP K F H (.tup l) v) : ∃ p vs, v = .ref p ∧ F p = some (.tup vs) ∧ Rs K F l vs := by
  rcases h with h | ⟨_, _, _, e, _⟩ | ⟨_, _, _, _, e, _⟩
  · simp only [R] at h; exact h
  · cases e
  · cases e
theorem RP.lst {l : List D} (e : Ex F H) (h : RP K F H (.lst l) v) : ∃ p vs, v = .ref p ∧ H p = some (.lst vs) ∧ Rs K F l vs := by
  rcases h with h | ⟨_, p, vs, q, e1, e2, e3⟩ | ⟨_, _, _, _, q, _⟩
  · simp only [R] at h
    obtain ⟨p, vs, e1, e2, e3⟩ := h
    exact ⟨p, vs, e1, e p _ e2, e3⟩
  · cases q; exact ⟨p, vs, e1, e2, e3⟩
  · cases q
theorem RP.scr {l : List Int} (e : Ex F H) (h : RP K F H (.scr l) v) : ∃ p, v = .ref p ∧ SqL K H p (l.map V.int) := by
  rcases h with h | ⟨_, _, _, q, _⟩ | ⟨_, _, _, _, q, _⟩
  · simp only [R] at h
    obtain ⟨p, e1, e2⟩ := h
    exact ⟨p, e1, ex_l e e2⟩
  · cases q
  · cases q
theorem RP.obj {c : Str} {fs : List Str} {ds : List D} (h : RP K F H (.obj c fs ds) v) : ∃ a C dx vs, v = .ref a ∧ PySem.W.nsIn K mainGlobals c = some (some (.ref C)) ∧ F a = some (.ins C dx (fs.zip vs)) ∧ F dx = some (.own a) ∧ vs.length = fs.length ∧ Rs K F ds vs := by
  rcases h with r | ⟨_, _, _, z, _⟩ | ⟨_, _, _, _, z, _⟩
  · simpa only [R] using r
  · cases z
  · cases z
theorem RP.dct {ks : List Key} {ds : List D} (e : Ex F H) (h : RP K F H (.dct ks ds) v) : ∃ p vs, v = .ref p ∧ H p = some (.dK (ks.zip vs)) ∧ vs.length = ks.length ∧ Rs K F ds vs := by
  rcases h with h | ⟨_, p, vs, q, e1, e2, e3⟩ | ⟨_, _, p, vs, q, e1, e2, e3, e4⟩
  · simp only [R] at h
    obtain ⟨p, vs, e1, e2, e3, e4⟩ := h
    exact ⟨p, vs, e1, e p _ e2, e3, e4⟩
  · cases q
  · cases q; exact ⟨p, vs, e1, e2, e3, e4⟩
theorem RPs.one {d : D} {vs : List V} (h : RPs K F H [d] vs) : ∃ v, vs = [v] ∧ RP K F H d v := by
  obtain ⟨v, r, rfl, q, e⟩ := h
  have e : r = [] := e
  subst e
  exact ⟨v, rfl, q⟩
theorem RPs.two {d d' : D} {vs : List V} (h : RPs K F H [d, d'] vs) : ∃ v v', vs = [v, v'] ∧ RP K F H d v ∧ RP K F H d' v' := by
  obtain ⟨v, r, rfl, q, h⟩ := h
  obtain ⟨v', e, q'⟩ := RPs.one h
  subst e
  exact ⟨v, v', rfl, q, q'⟩
theorem RVd {d : D} (h : R K F' d v) : RV K B F' H' (.d d) v := h
theorem Ri {i : Int} : R K F (.int i) (.int i) := by simp only [R]
theorem Rb {i : Bool} : R K F (.bl i) (.bl i) := by simp only [R]
theorem Rstr {i : Str} : R K F (.str i) (.str i) := by simp only [R]

/-! ### two ints -/
def oI (C : Int → Int → Bool) (g : Int → Int → Int) : D → D → Option Sv
  | .int i, .int j => if C i j then some (.d (.int (g i j))) else none
  | _, _ => none
theorem op_I {C : Int → Int → Prop} {Cb : Int → Int → Bool} {g : Int → Int → Int} (hc : ∀ i j, Cb i j = true → C i j) : OpS K (rI C fun i j => .int (g i j)) (oI Cb g) := fun F H x y dx dy sv ef rx ry ho Q q => by
  unfold oI at ho
  split at ho
  · split at ho
    · rename_i i j hC
      cases ho
      exact ⟨i, j, rx.int, ry.int, hc i j hC, q _ F H (New.refl ef) (RVd Ri)⟩
    · cases ho
  · cases ho
def oB (p : Int → Int → Bool) : D → D → Option Sv
  | .int i, .int j => some (.d (.bl (p i j)))
  | _, _ => none
theorem op_B {p : Int → Int → Bool} : OpS K (rI0 fun i j => .bl (p i j)) (oB p) := fun F H x y dx dy sv ef rx ry ho Q q => by
  unfold oB at ho
  split at ho
  · rename_i i j
    cases ho
    exact ⟨i, j, rx.int, ry.int, q _ F H (New.refl ef) (RVd Rb)⟩
  · cases ho
def yes : Int → Int → Bool := fun _ _ => true
/-- + of intsOf, of lists, of tuples, of texts -/
def oAdd : D → D → Option Sv
  | .int i, .int j => some (.d (.int (i + j)))
  | .lst a, .lst b => if a.length + b.length ≤ 100000 then some (.l (a ++ b)) else none
  | .tup a, .tup b => if a.length + b.length ≤ 100000 ∧ a ≠ [] then some (.d (.tup (a ++ b))) else none
  | .str a, .str b => if a.length + b.length ≤ 100000 then some (.d (.str (a ++ b))) else none
  | _, _ => none
def rAddI : R2 := rI0 fun i j => .int (i + j)
def rAddS : R2 := fun x y H Q => ∃ i j, x = .str i ∧ y = .str j ∧ i.length + j.length ≤ sizeLine ∧ Q (.str (i ++ j)) H
def rAddA (K : PySem.W.Frag) : R2 := fun x y H Q => rAddI x y H Q ∨ (rCat x y H Q ∨ (rCatT K x y H Q ∨ rAddS x y H Q))
theorem op_addA {X : Cx} : OpR X (binaryOp .Add) (rAddA X.K) := OpR.or op_add (OpR.or op_cat (OpR.or op_catT op_add_str))
theorem os_add : OpS K (rAddA K) oAdd := fun F H x y dx dy sv ef rx ry ho Q q => by
  unfold oAdd at ho
  split at ho
  · rename_i i j
    cases ho
    exact .inl ⟨i, j, rx.int, ry.int, q _ F H (New.refl ef) (RVd Ri)⟩
  · rename_i a b
    split at ho
    · rename_i hl
      cases ho
      obtain ⟨p, vs, e1, e2, e3⟩ := rx.lst ef
      obtain ⟨p', vs', k1, k2, k3⟩ := ry.lst ef
      refine .inr (.inl ⟨p, p', vs, vs', e1, k1, e2, k2, sz_of (by rw [e3.length, k3.length]; exact hl), fun l hl => ?_⟩)
      exact q _ F _ (New.fresh ef hl) ⟨l, _, rfl, hl, fresh_back ef hl, upd_same, e3.append k3⟩
    · cases ho
  · rename_i a b
    split at ho
    · rename_i hl
      cases ho
      obtain ⟨p, vs, e1, e2, e3⟩ := rx.tup
      obtain ⟨p', vs', k1, k2, k3⟩ := ry.tup
      have nv : vs ≠ [] := fun z => hl.2 (by
        have := e3.length
        rw [z] at this
        exact List.length_eq_zero_iff.mp this.symm)
      refine .inr (.inr (.inl ⟨p, p', vs, vs', e1, k1, st_of (ef p _ e2), st_of (ef p' _ k2), nv, sz_of (by rw [e3.length, k3.length]; exact hl.1), fun z => ?_, fun _ l hl => ?_⟩))
      · subst z
        have hb : b = [] := List.length_eq_zero_iff.mp k3.length.symm
        subst hb
        rw [List.append_nil] at q
        exact q _ F H (New.refl ef) (RVd (by simp only [R]; exact ⟨p, vs, rfl, e2, e3⟩))
      · have n := New.data (o := .tup (vs ++ vs')) ef hl
        exact q _ _ _ n (RVd (by simp only [R]; exact ⟨l, _, rfl, upd_same, (e3.append k3).mono n.f⟩))
    · cases ho
  · rename_i a b
    split at ho
    · rename_i hl
      cases ho
      exact .inr (.inr (.inr ⟨a, b, rx.str, ry.str, sz_of hl, q _ F H (New.refl ef) (RVd Rstr)⟩))
    · cases ho
  · cases ho
def mulOk (i j : Int) : Bool := decide (i.natAbs.log2 + j.natAbs.log2 < 130000000)
theorem mulOk_ok {i j : Int} (h : mulOk i j = true) : IntMulOk i j := by
  have h := of_decide_eq_true h
  have key : ∀ x : Int, Builtin.Int.intBits x ≤ x.natAbs.log2 + 1 := fun x => by
    unfold Builtin.Int.intBits; split <;> omega
  intro z
  have z2 := of_decide_eq_true (Bool.and_eq_true_iff.mp z).2
  have b : bitsLine = 134217728 := by decide
  have k1 := key i
  have k2 := key j
  omega
theorem op_mulA {X : Cx} : OpR X (binaryOp .Mult) (rI IntMulOk fun i j => .int (i * j)) := opI fun _ _ _ _ _ _ _ hc q => mul_int q hc
def oMul : D → D → Option Sv := oI mulOk fun i j => i * j
def oSub : D → D → Option Sv := oI yes fun i j => i - j
theorem os_mul : OpS K (rI IntMulOk fun i j => .int (i * j)) oMul := op_I fun _ _ h => mulOk_ok h
theorem os_sub : OpS K (rI0 fun i j => .int (i - j)) oSub := fun F H x y dx dy sv ef rx ry ho Q q => by
  obtain ⟨i, j, h1, h2, _, h⟩ := op_I (K := K) (C := fun _ _ => True) (Cb := yes) (g := fun i j => i - j) (fun _ _ _ => True.intro) F H x y dx dy sv ef rx ry ho Q q
  exact ⟨i, j, h1, h2, h⟩
def nz (_ j : Int) : Bool := decide (j ≠ 0)
def oMod : D → D → Option Sv := oI nz fun i j => i.fmod j
theorem os_mod : OpS K (rI (fun _ j => j ≠ 0) fun i j => .int (i.fmod j)) oMod := op_I fun _ _ h => of_decide_eq_true h
def powOk (i j : Int) : Bool := decide (0 ≤ j) && decide (j ≤ 1000000) && decide (i.natAbs < 2 ^ 64)
def oPow : D → D → Option Sv := oI powOk fun i j => i ^ j.toNat
theorem os_pow : OpS K (rI CPow fun i j => .int (i ^ j.toNat)) oPow := op_I fun _ _ h => by
  have h := Bool.and_eq_true_iff.mp h
  have h1 := Bool.and_eq_true_iff.mp h.1
  exact ⟨of_decide_eq_true h1.1, of_decide_eq_true h1.2, of_decide_eq_true h.2⟩
/-! ### comparisons -/
def oLt : D → D → Option Sv := oB fun i j => decide (i < j)
def oLe : D → D → Option Sv := oB fun i j => decide (i ≤ j)
def oGt : D → D → Option Sv := oB fun i j => decide (j < i)
def oGe : D → D → Option Sv := oB fun i j => decide (j ≤ i)
theorem os_lt : OpS K (rI0 fun i j => .bl (decide (i < j))) oLt := op_B
theorem os_le : OpS K (rI0 fun i j => .bl (decide (i ≤ j))) oLe := op_B
theorem os_gt : OpS K (rI0 fun i j => .bl (decide (j < i))) oGt := op_B
theorem os_ge : OpS K (rI0 fun i j => .bl (decide (j ≤ i))) oGe := op_B
/-- == of scalars -/
def eqD : D → D → Option Bool
  | .int i, .int j => some (i == j)
  | .bl i, .bl j => some (i == j)
  | .str i, .str j => some (i == j)
  | .non, .non => some true
  | .non, .int _ => some false | .int _, .non => some false
  | .non, .bl _ => some false | .bl _, .non => some false
  | .non, .str _ => some false | .str _, .non => some false
  | .int _, .str _ => some false | .str _, .int _ => some false
  | .bl _, .str _ => some false | .str _, .bl _ => some false
  | _, _ => none
def oEq (a b : D) : Option Sv := (eqD a b).map fun c => .d (.bl c)
def oNe (a b : D) : Option Sv := (eqD a b).map fun c => .d (.bl (!c))
theorem eqD_ok {dx dy : D} {c : Bool} (rx : RP K F H dx x) (ry : RP K F H dy y) (h : eqD dx dy = some c) : scal x y = true ∧ decide (x = y) = c := by
  unfold eqD at h
  split at h
  · rw [rx.int, ry.int]; cases h; exact ⟨rfl, dec_int⟩
  · rw [rx.bl, ry.bl]; cases h; exact ⟨rfl, dec_bl⟩
  · rw [rx.str, ry.str]; cases h; exact ⟨rfl, dec_str⟩
  · rw [rx.non, ry.non]; cases h; exact ⟨rfl, rfl⟩
  · rw [rx.non, ry.int]; cases h; exact ⟨rfl, rfl⟩
  · rw [rx.int, ry.non]; cases h; exact ⟨rfl, rfl⟩
  · rw [rx.non, ry.bl]; cases h; exact ⟨rfl, rfl⟩
  · rw [rx.bl, ry.non]; cases h; exact ⟨rfl, rfl⟩
  · rw [rx.non, ry.str]; cases h; exact ⟨rfl, rfl⟩
  · rw [rx.str, ry.non]; cases h; exact ⟨rfl, rfl⟩
  · rw [rx.int, ry.str]; cases h; exact ⟨rfl, rfl⟩
  · rw [rx.str, ry.int]; cases h; exact ⟨rfl, rfl⟩
  · rw [rx.bl, ry.str]; cases h; exact ⟨rfl, rfl⟩
  · rw [rx.str, ry.bl]; cases h; exact ⟨rfl, rfl⟩
  · cases h
theorem os_eq : OpS K rEq oEq := fun F H x y dx dy sv ef rx ry ho Q q => by
  unfold oEq at ho
  obtain ⟨c, h, e⟩ := Option.map_eq_some_iff.mp ho
  subst e
  obtain ⟨h1, h2⟩ := eqD_ok rx ry h
  refine ⟨h1, ?_⟩
  rw [h2]
  exact q _ F H (New.refl ef) (RVd Rb)
theorem os_ne : OpS K rNe oNe := fun F H x y dx dy sv ef rx ry ho Q q => by
  unfold oNe at ho
  obtain ⟨c, h, e⟩ := Option.map_eq_some_iff.mp ho
  subst e
  obtain ⟨h1, h2⟩ := eqD_ok rx ry h
  refine ⟨h1, ?_⟩
  rw [h2]
  exact q _ F H (New.refl ef) (RVd Rb)
/-- is None, is not None -/
def isN : D → Bool
  | .non => true
  | _ => false
def oIs (a b : D) : Option Sv := match b with
  | .non => some (.d (.bl (isN a)))
  | _ => none
def oIsNot (a b : D) : Option Sv := match b with
  | .non => some (.d (.bl (!isN a)))
  | _ => none
theorem isN_ok {d : D} (ef : Ex F H) (r : RP K F H d x) : decide (x = V.non) = isN d := by
  cases d with
  | non => rw [r.non]; rfl
  | bl b => rw [r.bl]; rfl
  | int b => rw [r.int]; rfl
  | str b => rw [r.str]; rfl
  | ty b => rw [r.ty]; rfl
  | tup b => obtain ⟨p, vs, e, _⟩ := r.tup; rw [e]; rfl
  | lst b => obtain ⟨p, vs, e, _⟩ := r.lst ef; rw [e]; rfl
  | scr b => obtain ⟨p, e, _⟩ := r.scr ef; rw [e]; rfl
  | dct b c => obtain ⟨p, vs, e, _⟩ := r.dct ef; rw [e]; rfl
  | obj b c l => obtain ⟨p, C, dx, vs, e, _⟩ := r.obj; rw [e]; rfl
theorem os_is : OpS K (fun x y H Q => y = .non ∧ Q (.bl (decide (x = .non))) H) oIs := fun F H x y dx dy sv ef rx ry ho Q q => by
  unfold oIs at ho
  split at ho
  · cases ho
    refine ⟨ry.non, ?_⟩
    rw [isN_ok ef rx]
    exact q _ F H (New.refl ef) (RVd Rb)
  · cases ho
theorem os_isnot : OpS K (fun x y H Q => y = .non ∧ Q (.bl (!decide (x = .non))) H) oIsNot := fun F H x y dx dy sv ef rx ry ho Q q => by
  unfold oIsNot at ho
  split at ho
  · cases ho
    refine ⟨ry.non, ?_⟩
    rw [isN_ok ef rx]
    exact q _ F H (New.refl ef) (RVd Rb)
  · cases ho
/-! ### places -/
def oIx : D → D → Option Sv
  | .lst l, .int i => (atI l i).map Sv.d
  | .tup l, .int i => (atI l i).map Sv.d
  | .scr l, .int i => (atI l i).map fun n => Sv.d (.int n)
  | .str s, .int i => if s.length ≤ 100000 then (atI s.cps.toList i).map fun c => Sv.d (.str ⟨#[c]⟩) else none
  | _, _ => none
theorem atI_len {α β : Type} {xs : List α} {ys : List β} (h : xs.length = ys.length) {i : Int} {j : Nat} (e : ixN xs.length i = some j) : ixN ys.length i = some j := by rw [← h]; exact e
theorem Rs.atI {l : List D} {vs : List V} {i : Int} {d : D} (r : Rs K F l vs) (h : L2.atI l i = some d) : ∃ v, L2.atI vs i = some v ∧ R K F d v := by
  unfold L2.atI at h ⊢
  cases e : ixN l.length i with
  | none => rw [e] at h; cases h
  | some j =>
    rw [e] at h
    have h : l[j]? = some d := h
    obtain ⟨v, q1, q2⟩ := r.get' h
    refine ⟨v, ?_, q2⟩
    rw [r.length, e]
    exact q1
theorem atI_map {α β : Type} {f : α → β} {l : List α} {i : Int} {x : α} (h : L2.atI l i = some x) : L2.atI (l.map f) i = some (f x) := by
  unfold L2.atI at h ⊢
  cases e : ixN l.length i with
  | none => rw [e] at h; cases h
  | some j =>
    rw [e] at h
    have h : l[j]? = some x := h
    rw [List.length_map, e]
    show (l.map f)[j]? = _
    rw [List.getElem?_map, h]
    rfl
theorem os_ix : OpS K (rIx K) oIx := fun F H x y dx dy sv ef rx ry ho Q q => by
  unfold oIx at ho
  split at ho
  · rename_i l i
    obtain ⟨d, h, e⟩ := Option.map_eq_some_iff.mp ho
    subst e
    obtain ⟨p, vs, e1, e2, e3⟩ := rx.lst ef
    obtain ⟨v, q1, q2⟩ := e3.atI h
    exact .inl ⟨p, vs, i, v, e1, ry.int, sq_of e2, q1, q _ F H (New.refl ef) (RVd q2)⟩
  · rename_i l i
    obtain ⟨d, h, e⟩ := Option.map_eq_some_iff.mp ho
    subst e
    obtain ⟨p, vs, e1, e2, e3⟩ := rx.tup
    obtain ⟨v, q1, q2⟩ := e3.atI h
    exact .inr (.inl ⟨p, vs, i, v, e1, ry.int, st_of (ef p _ e2), q1, q _ F H (New.refl ef) (RVd q2)⟩)
  · rename_i l i
    obtain ⟨d, h, e⟩ := Option.map_eq_some_iff.mp ho
    subst e
    obtain ⟨p, e1, e2⟩ := rx.scr ef
    exact .inl ⟨p, _, i, _, e1, ry.int, e2, atI_map h, q _ F H (New.refl ef) (RVd Ri)⟩
  · rename_i s i
    split at ho
    · rename_i hl
      obtain ⟨d, h, e⟩ := Option.map_eq_some_iff.mp ho
      subst e
      exact .inr (.inr ⟨s, i, d, rx.str, ry.int, sz_of hl, h, q _ F H (New.refl ef) (RVd Rstr)⟩)
    · cases ho
  · cases ho
def oNeg : D → Option Sv
  | .int i => some (.d (.int (-i)))
  | _ => none
theorem us_neg : UnS K (rU fun i => .int (-i)) oNeg := fun F H x dx sv ef rx ho Q q => by
  unfold oNeg at ho
  split at ho
  · cases ho
    exact ⟨_, rx.int, q _ F H (New.refl ef) (RVd Ri)⟩
  · cases ho

/-! ### built-in functions -/
def cLen : List D → Option Sv
  | [.lst l] => some (.d (.int l.length))
  | [.tup l] => some (.d (.int l.length))
  | [.scr l] => some (.d (.int l.length))
  | [.str s] => if s.length ≤ 100000 then some (.d (.int s.length)) else none
  | _ => none
theorem cs_len : ClS K (fun xs H Q => ∃ x n, xs = [x] ∧ LenV K x H n ∧ Q (.int n) H) cLen := fun F H xs ds sv ef rx ho Q q => by
  unfold cLen at ho
  split at ho
  · cases ho
    obtain ⟨v, rfl, r⟩ := rx.one
    obtain ⟨p, vs, e1, e2, e3⟩ := r.lst ef
    subst e1
    refine ⟨_, vs.length, rfl, .inl ⟨vs, sq_of e2, rfl⟩, ?_⟩
    rw [e3.length]
    exact q _ F H (New.refl ef) (RVd Ri)
  · cases ho
    obtain ⟨v, rfl, r⟩ := rx.one
    obtain ⟨p, vs, e1, e2, e3⟩ := r.tup
    subst e1
    refine ⟨_, vs.length, rfl, .inr ⟨vs, st_of (ef p _ e2), rfl⟩, ?_⟩
    rw [e3.length]
    exact q _ F H (New.refl ef) (RVd Ri)
  · cases ho
    obtain ⟨v, rfl, r⟩ := rx.one
    obtain ⟨p, e1, e2⟩ := r.scr ef
    subst e1
    refine ⟨_, _, rfl, .inl ⟨_, e2, rfl⟩, ?_⟩
    rw [List.length_map]
    exact q _ F H (New.refl ef) (RVd Ri)
  · split at ho
    · rename_i hl
      cases ho
      obtain ⟨v, rfl, r⟩ := rx.one
      rw [r.str]
      exact ⟨_, _, rfl, ⟨sz_of hl, rfl⟩, q _ F H (New.refl ef) (RVd Ri)⟩
    · cases ho
  · cases ho
def cAbs : List D → Option Sv
  | [.int i] => some (.d (.int (i.natAbs : Int)))
  | _ => none
theorem cs_abs : ClS K (fun xs H Q => ∃ i, xs = [.int i] ∧ Q (.int (if i < 0 then -i else i)) H) cAbs := fun F H xs ds sv ef rx ho Q q => by
  unfold cAbs at ho
  split at ho
  · rename_i i
    cases ho
    obtain ⟨v, rfl, r⟩ := rx.one
    rw [r.int]
    refine ⟨i, rfl, ?_⟩
    have e : (if i < 0 then -i else i) = (i.natAbs : Int) := by split <;> omega
    rw [e]
    exact q _ F H (New.refl ef) (RVd Ri)
  · cases ho
def cInt : List D → Option Sv
  | [.int i] => some (.d (.int i))
  | [.bl b] => some (.d (.int (if b then 1 else 0)))
  | _ => none
theorem cs_int : ClS K (fun xs H Q => (∃ i, xs = [.int i] ∧ Q (.int i) H) ∨ ∃ k, xs = [.bl k] ∧ Q (.int (if k then 1 else 0)) H) cInt := fun F H xs ds sv ef rx ho Q q => by
  unfold cInt at ho
  split at ho
  · cases ho
    obtain ⟨v, rfl, r⟩ := rx.one
    rw [r.int]
    exact .inl ⟨_, rfl, q _ F H (New.refl ef) (RVd Ri)⟩
  · cases ho
    obtain ⟨v, rfl, r⟩ := rx.one
    rw [r.bl]
    exact .inr ⟨_, rfl, q _ F H (New.refl ef) (RVd Ri)⟩
  · cases ho
def cMax2 : List D → Option Sv
  | [.int i, .int j] => some (.d (.int (if j > i then j else i)))
  | _ => none
theorem cs_max2 : ClS K (fun xs H Q => ∃ i j, xs = [.int i, .int j] ∧ Q (.int (if j > i then j else i)) H) cMax2 := fun F H xs ds sv ef rx ho Q q => by
  unfold cMax2 at ho
  split at ho
  · cases ho
    obtain ⟨v, w, rfl, r, r'⟩ := rx.two
    rw [r.int, r'.int]
    exact ⟨_, _, rfl, q _ F H (New.refl ef) (RVd Ri)⟩
  · cases ho
def cMin2 : List D → Option Sv
  | [.int i, .int j] => some (.d (.int (if j < i then j else i)))
  | _ => none
theorem cs_min2 : ClS K (fun xs H Q => ∃ i j, xs = [.int i, .int j] ∧ Q (.int (if j < i then j else i)) H) cMin2 := fun F H xs ds sv ef rx ho Q q => by
  unfold cMin2 at ho
  split at ho
  · cases ho
    obtain ⟨v, w, rfl, r, r'⟩ := rx.two
    rw [r.int, r'.int]
    exact ⟨_, _, rfl, q _ F H (New.refl ef) (RVd Ri)⟩
  · cases ho
def cGcd : List D → Option Sv
  | [.int i, .int j] => some (.d (.int (Nat.gcd i.natAbs j.natAbs : Nat)))
  | _ => none
theorem cs_gcd : ClS K rGcd cGcd := fun F H xs ds sv ef rx ho Q q => by
  unfold cGcd at ho
  split at ho
  · cases ho
    obtain ⟨v, w, rfl, r, r'⟩ := rx.two
    rw [r.int, r'.int]
    exact ⟨_, _, rfl, q _ F H (New.refl ef) (RVd Ri)⟩
  · cases ho
/-- the items of a sequence -/
def cList : List D → Option Sv
  | [.lst l] => some (.l l)
  | [.tup l] => some (.l l)
  | [.scr l] => some (.l (l.map D.int))
  | _ => none
theorem cs_list : ClS K (fun xs H Q => ∃ p ys, xs = [.ref p] ∧ (SqL K H p ys ∨ SqT K H p ys) ∧ ∀ l, H l = none → Q (.ref l) (upd H l (.lst ys))) cList := fun F H xs ds sv ef rx ho Q q => by
  unfold cList at ho
  split at ho
  · cases ho
    obtain ⟨v, rfl, r⟩ := rx.one
    obtain ⟨p, vs, e1, e2, e3⟩ := r.lst ef
    subst e1
    exact ⟨p, vs, rfl, .inl (sq_of e2), fun l hl => q _ F _ (New.fresh ef hl) ⟨l, _, rfl, hl, fresh_back ef hl, upd_same, e3⟩⟩
  · cases ho
    obtain ⟨v, rfl, r⟩ := rx.one
    obtain ⟨p, vs, e1, e2, e3⟩ := r.tup
    subst e1
    exact ⟨p, vs, rfl, .inr (st_of (ef p _ e2)), fun l hl => q _ F _ (New.fresh ef hl) ⟨l, _, rfl, hl, fresh_back ef hl, upd_same, e3⟩⟩
  · cases ho
    obtain ⟨v, rfl, r⟩ := rx.one
    obtain ⟨p, e1, e2⟩ := r.scr ef
    subst e1
    exact ⟨p, _, rfl, .inl e2, fun l hl => q _ F _ (New.fresh ef hl) ⟨l, _, rfl, hl, fresh_back ef hl, upd_same, Rs.of_map (fun _ => Ri) _⟩⟩
  · cases ho
def cTuple : List D → Option Sv
  | [.lst l] => some (.d (.tup l))
  | [.tup l] => some (.d (.tup l))
  | _ => none
theorem cs_tuple : ClS K (fun xs H Q => ∃ p ys, xs = [.ref p] ∧ ((SqL K H p ys ∧ ∀ l, H l = none → Q (.ref l) (upd H l (.tup ys))) ∨ (SqT K H p ys ∧ Q (.ref p) H))) cTuple := fun F H xs ds sv ef rx ho Q q => by
  unfold cTuple at ho
  split at ho
  · cases ho
    obtain ⟨v, rfl, r⟩ := rx.one
    obtain ⟨p, vs, e1, e2, e3⟩ := r.lst ef
    subst e1
    refine ⟨p, vs, rfl, .inl ⟨sq_of e2, fun l hl => ?_⟩⟩
    have n := New.data (o := .tup vs) ef hl
    exact q _ _ _ n (RVd (by simp only [R]; exact ⟨l, _, rfl, upd_same, e3.mono n.f⟩))
  · cases ho
    obtain ⟨v, rfl, r⟩ := rx.one
    obtain ⟨p, vs, e1, e2, e3⟩ := r.tup
    subst e1
    exact ⟨p, vs, rfl, .inr ⟨st_of (ef p _ e2), q _ F H (New.refl ef) (RVd (by simp only [R]; exact ⟨p, vs, rfl, e2, e3⟩))⟩⟩
  · cases ho
/-- the whole numbers, the truths of a list -/
def intsOf : List D → Option (List Int)
  | [] => some []
  | .int i :: r => (intsOf r).map fun l => i :: l
  | _ => none
def bools : List D → Option (List Bool)
  | [] => some []
  | .bl i :: r => (bools r).map fun l => i :: l
  | _ => none
theorem ints_eq : ∀ {l : List D} {ns : List Int}, intsOf l = some ns → l = ns.map D.int
  | [], _, h => by cases h; rfl
  | .int i :: r, _, h => by
    unfold intsOf at h
    obtain ⟨l, q, e⟩ := Option.map_eq_some_iff.mp h
    subst e
    rw [ints_eq q]; rfl
  | .non :: _, _, h => by cases h
  | .bl _ :: _, _, h => by cases h
  | .str _ :: _, _, h => by cases h
  | .ty _ :: _, _, h => by cases h
  | .tup _ :: _, _, h => by cases h
  | .lst _ :: _, _, h => by cases h
  | .scr _ :: _, _, h => by cases h
  | .dct _ _ :: _, _, h => by cases h
theorem bools_eq : ∀ {l : List D} {ns : List Bool}, bools l = some ns → l = ns.map D.bl
  | [], _, h => by cases h; rfl
  | .bl i :: r, _, h => by
    unfold bools at h
    obtain ⟨l, q, e⟩ := Option.map_eq_some_iff.mp h
    subst e
    rw [bools_eq q]; rfl
  | .non :: _, _, h => by cases h
  | .int _ :: _, _, h => by cases h
  | .str _ :: _, _, h => by cases h
  | .ty _ :: _, _, h => by cases h
  | .tup _ :: _, _, h => by cases h
  | .lst _ :: _, _, h => by cases h
  | .scr _ :: _, _, h => by cases h
  | .dct _ _ :: _, _, h => by cases h
theorem ints_map : ∀ ns : List Int, intsOf (ns.map D.int) = some ns
  | [] => rfl
  | n :: ns => by show (intsOf (ns.map D.int)).map _ = _; rw [ints_map ns]; rfl
theorem bools_map : ∀ ns : List Bool, bools (ns.map D.bl) = some ns
  | [] => rfl
  | n :: ns => by show (bools (ns.map D.bl)).map _ = _; rw [bools_map ns]; rfl
def cSum : List D → Option Sv
  | [.lst l] => (intsOf l).map fun ns => .d (.int ns.sum)
  | _ => none
theorem cs_sum : ClS K (rSum K) cSum := fun F H xs ds sv ef rx ho Q q => by
  unfold cSum at ho
  split at ho
  · obtain ⟨ns, h, e⟩ := Option.map_eq_some_iff.mp ho
    subst e
    obtain ⟨v, rfl, r⟩ := rx.one
    obtain ⟨p, vs, e1, e2, e3⟩ := r.lst ef
    subst e1
    rw [ints_eq h] at e3
    rw [Rs.ints e3] at e2
    exact ⟨p, ns, rfl, sq_of e2, q _ F H (New.refl ef) (RVd Ri)⟩
  · cases ho
def cAny : List D → Option Sv
  | [.lst l] => (bools l).map fun ns => .d (.bl (ns.any id))
  | _ => none
def cAll : List D → Option Sv
  | [.lst l] => (bools l).map fun ns => .d (.bl (ns.all id))
  | _ => none
theorem cs_any : ClS K (rAny K) cAny := fun F H xs ds sv ef rx ho Q q => by
  unfold cAny at ho
  split at ho
  · obtain ⟨ns, h, e⟩ := Option.map_eq_some_iff.mp ho
    subst e
    obtain ⟨v, rfl, r⟩ := rx.one
    obtain ⟨p, vs, e1, e2, e3⟩ := r.lst ef
    subst e1
    rw [bools_eq h] at e3
    rw [Rs.bls e3] at e2
    exact ⟨p, ns, rfl, sq_of e2, q _ F H (New.refl ef) (RVd Rb)⟩
  · cases ho
theorem cs_all : ClS K (rAll K) cAll := fun F H xs ds sv ef rx ho Q q => by
  unfold cAll at ho
  split at ho
  · obtain ⟨ns, h, e⟩ := Option.map_eq_some_iff.mp ho
    subst e
    obtain ⟨v, rfl, r⟩ := rx.one
    obtain ⟨p, vs, e1, e2, e3⟩ := r.lst ef
    subst e1
    rw [bools_eq h] at e3
    rw [Rs.bls e3] at e2
    exact ⟨p, ns, rfl, sq_of e2, q _ F H (New.refl ef) (RVd Rb)⟩
  · cases ho
/-- isinstance(x, T) for the built-in types that the text asks of -/
def tyN : D → String
  | .non => "NoneType" | .bl _ => "bool" | .int _ => "int" | .str _ => "str" | .tup _ => "tuple" | .lst _ => "list" | .scr _ => "list" | .dct _ _ => "dict" | .ty _ => "type" | .obj _ _ _ => "object"
def isTy (a b : String) : Option Bool :=
  if b = "int" then some (a = "int" || a = "bool") else if b = "bool" ∨ b = "str" ∨ b = "tuple" ∨ b = "list" ∨ b = "dict" then some (a = b) else none
def cIsi : List D → Option Sv
  | [.ty _, .ty _] => none
  | [.obj _ _ _, .ty _] => none
  | [x, .ty b] => (isTy (tyN x) b).map fun c => .d (.bl c)
  | _ => none
theorem ty_of {d : D} (ef : Ex F H) (r : RP K F H d x) (h : ∀ n, d ≠ .ty n) (h2 : ∀ c fs ds, d ≠ .obj c fs ds) : TyX K H x (.type (tyN d)) := by
  cases d with
  | non => rw [r.non]; exact .base .non
  | bl b => rw [r.bl]; exact .base (.bl b)
  | int b => rw [r.int]; exact .base (.int b)
  | str b => rw [r.str]; exact .base (.str b)
  | ty b => exact absurd rfl (h b)
  | tup b => obtain ⟨p, vs, e, q, _⟩ := r.tup; rw [e]; exact .base (.tup (ef p _ q))
  | lst b => obtain ⟨p, vs, e, q, _⟩ := r.lst ef; rw [e]; exact .base (.lst q)
  | scr b =>
    obtain ⟨p, e, q⟩ := r.scr ef
    rw [e]
    rcases q with (q | ⟨o, q⟩) | ⟨o, its, n, q1, q2, _⟩
    · exact .base (.lst q)
    · exact .base (.frz q)
    · exact .kList q1 q2
  | dct b c => obtain ⟨p, vs, e, q, _⟩ := r.dct ef; rw [e]; exact .base (.dK q)
  | obj b c l => exact absurd rfl (h2 b c l)
theorem kit_isTy {a b : String} {c : Bool} (ha : a = "NoneType" ∨ a = "bool" ∨ a = "int" ∨ a = "str" ∨ a = "tuple" ∨ a = "list" ∨ a = "dict") (h : isTy a b = some c) : kitB a b = some c := by
  unfold isTy at h
  split at h
  · rename_i hb
    subst hb
    cases h
    rcases ha with h | h | h | h | h | h | h <;> subst h <;> decide +kernel
  · split at h
    · rename_i hb
      cases h
      rcases hb with hb | hb | hb | hb | hb <;> subst hb <;> rcases ha with h | h | h | h | h | h | h <;> subst h <;> decide +kernel
    · cases h
theorem cs_isi : ClS K (rIsi K) cIsi := fun F H xs ds sv ef rx ho Q q => by
  unfold cIsi at ho
  split at ho
  · cases ho
  · cases ho
  · rename_i x b hx hx2
    obtain ⟨c, h, e⟩ := Option.map_eq_some_iff.mp ho
    subst e
    obtain ⟨v, w, rfl, r, r'⟩ := rx.two
    rw [r'.ty]
    have nt : ∀ n, x ≠ .ty n := fun n z => hx n z
    have nt2 : ∀ c fs ds, x ≠ .obj c fs ds := fun c fs ds z => hx2 c fs ds z
    refine ⟨v, .ty b, .type (tyN x), .type b, c, rfl, .ty b, ty_of ef r nt nt2, kit_ty (kit_isTy ?_ h), q _ F H (New.refl ef) (RVd Rb)⟩
    cases x with
    | ty n => exact absurd rfl (nt n)
    | obj c fs ds => exact absurd rfl (nt2 c fs ds)
    | _ => simp [tyN]
  · cases ho
end
end Iv

set_option Elab.async false
set_option linter.all false
set_option maxRecDepth 100000
/-! Tests, slices, calls of the text's own defs, comprehensions. -/
namespace Iv
open PySem PySem.Spec PyProof.Rows L2 Evl

section
variable {X : Cx} {S : Xs} {W : WX} {e a b c : Expr} {es rest : List Expr} {pos : Pos} {σ : L2.St} {H : Hp}
/-! ### tests -/
def mB (f : M Sv) : M Bool := fun env => (f env).bind fun sv env => match sv with
  | .d (.bl b) => .ok b env
  | _ => .bad
def mNotB (f : M Bool) : M Bool := fun env => (f env).bind fun b env => .ok (!b) env
def mAndB (f g : M Bool) : M Bool := fun env => (f env).bind fun b env => if b = true then g env else .ok false env
def mOrB (f g : M Bool) : M Bool := fun env => (f env).bind fun b env => if b = true then .ok true env else g env
def mV (f : M Bool) : M Sv := fun env => (f env).bind fun b env => .ok (.d (.bl b)) env
theorem rd_test {f : M Sv} {Q : Bool → Hp → Prop} (q : rd X.K S W TB (mB f) σ H Q) : rd X.K S W (TV X.K) f σ H fun x H' => ∃ k, x = .bl k ∧ Q k H' := by
  obtain ⟨F, ef, q⟩ := rd_bind (T := TV X.K) q
  refine rd_imp q fun v H1 ⟨F1, env1, sv, g1, g2, rel1, rv, q⟩ => ?_
  cases sv with
  | d x =>
    cases x with
    | bl k =>
      have rv : R X.K F1 (.bl k) v := rv
      simp only [R] at rv
      exact ⟨k, rv, q k F1 H1 Gr.refl rel1 rfl⟩
    | _ => exact q.elim
  | _ => exact q.elim
theorem pb_of {f : M Sv} (h : PD X S W e f) (he : ∀ whole, isTrue e X.env whole = (do let v ← whole; standAt e.pos; holding [v] (truthy v)) := by intro _; rfl) : PB X S W e (mB f) :=
  PT.imp (pt_val h he) fun σ H Q q => rd_test q
theorem pb_cmp {op : CmpOp} {r : R2} {o : D → D → Option Sv} {f g : M D} (ho : OpR X (compareOp op) r) (hs : OpS X.K r o) (hm : behindInMarks op b = false) (ha : PP X S W a f) (hb : PP X S W b g) : PB X S W (.Compare a [op] [b] pos) (mB (mOp o f g)) :=
  PT.imp (pt_cmpR ho ha hb hm) fun σ H Q q => rd_op hs (rd_test q)
theorem pb_not {f : M Bool} (h : PB X S W a f) : PB X S W (.UnaryOp .Not a pos) (mNotB f) := PT.imp (pt_not h) fun σ H Q q => by
  obtain ⟨F, ef, q⟩ := rd_bind (T := TB) q
  refine rd_imp q fun v H1 ⟨F1, env1, b, g1, g2, rel1, rv, q⟩ => ?_
  have rv : b = v := rv
  subst rv
  exact q _ F1 H1 Gr.refl rel1 rfl
def PWb (X : Cx) (S : Xs) (W : WX) (e : Expr) (f : M Bool) : Prop := PW X e (rd X.K S W TB f)
theorem pwb_and1 {f : M Bool} (h : PB X S W a f) : PWb X S W (.BoolOp .And [a] pos) f := pw_and1 h
theorem pwb_or1 {f : M Bool} (h : PB X S W a f) : PWb X S W (.BoolOp .Or [a] pos) f := pw_or1 h
theorem pwb_and {f g : M Bool} (ha : PB X S W a f) (hb : PWb X S W (.BoolOp .And (b :: rest) pos) g) : PWb X S W (.BoolOp .And (a :: b :: rest) pos) (mAndB f g) := PW.imp (pw_and ha hb) fun σ H Q q => by
  obtain ⟨F, ef, q⟩ := rd_bind (T := TB) q
  refine rd_imp q fun v H1 ⟨F1, env1, b, g1, g2, rel1, rv, q⟩ => ?_
  have rv : b = v := rv
  subst rv
  dsimp only at q
  cases b with
  | true => exact ⟨F1, env1, rel1, q⟩
  | false => exact q _ F1 H1 Gr.refl rel1 rfl
theorem pwb_or {f g : M Bool} (ha : PB X S W a f) (hb : PWb X S W (.BoolOp .Or (b :: rest) pos) g) : PWb X S W (.BoolOp .Or (a :: b :: rest) pos) (mOrB f g) := PW.imp (pw_or ha hb) fun σ H Q q => by
  obtain ⟨F, ef, q⟩ := rd_bind (T := TB) q
  refine rd_imp q fun v H1 ⟨F1, env1, b, g1, g2, rel1, rv, q⟩ => ?_
  have rv : b = v := rv
  subst rv
  dsimp only at q
  cases b with
  | false => exact ⟨F1, env1, rel1, q⟩
  | true => exact q _ F1 H1 Gr.refl rel1 rfl
theorem pb_pw {f : M Bool} (h : PWb X S W e f) : PB X S W e f := PW.pt h
/-- the same as values -/
def mAndV (f g : M Sv) : M Sv := fun env => (mB f env).bind fun b env => if b = true then g env else .ok (.d (.bl false)) env
def mOrV (f g : M Sv) : M Sv := fun env => (mB f env).bind fun b env => if b = true then .ok (.d (.bl true)) env else g env
def mNotV (f : M Sv) : M Sv := fun env => (mB f env).bind fun b env => .ok (.d (.bl (!b))) env
theorem pd_one {op} {f : M Sv} (h : PD X S W a f) : PD X S W (.BoolOp op [a] pos) f := pe_one h
theorem pd_and {f g : M Sv} (ha : PD X S W a f) (hb : PD X S W (.BoolOp .And (b :: rest) pos) g) : PD X S W (.BoolOp .And (a :: b :: rest) pos) (mAndV f g) := PE.imp (pe_and ha hb) fun σ H Q q => by
  obtain ⟨F, ef, q⟩ := rd_bind (T := TB) q
  refine rd_imp (rd_test q) fun v H1 ⟨k, e, F1, env1, b, g1, g2, rel1, rv, q⟩ => ?_
  have rv : b = k := rv
  subst rv
  refine ⟨b, e, ?_⟩
  dsimp only at q
  cases b with
  | true => exact ⟨F1, env1, rel1, q⟩
  | false => exact q _ F1 H1 Gr.refl rel1 (RVd Rb)
theorem pd_or {f g : M Sv} (ha : PD X S W a f) (hb : PD X S W (.BoolOp .Or (b :: rest) pos) g) : PD X S W (.BoolOp .Or (a :: b :: rest) pos) (mOrV f g) := PE.imp (pe_or ha hb) fun σ H Q q => by
  obtain ⟨F, ef, q⟩ := rd_bind (T := TB) q
  refine rd_imp (rd_test q) fun v H1 ⟨k, e, F1, env1, b, g1, g2, rel1, rv, q⟩ => ?_
  have rv : b = k := rv
  subst rv
  refine ⟨b, e, ?_⟩
  dsimp only at q
  cases b with
  | false => exact ⟨F1, env1, rel1, q⟩
  | true => exact q _ F1 H1 Gr.refl rel1 (RVd Rb)
theorem pd_not {f : M Sv} (ha : PD X S W a f) : PD X S W (.UnaryOp .Not a pos) (mNotV f) := PE.imp (pe_not ha) fun σ H Q q => by
  obtain ⟨F, ef, q⟩ := rd_bind (T := TB) q
  refine rd_imp (rd_test q) fun v H1 ⟨k, e, F1, env1, b, g1, g2, rel1, rv, q⟩ => ?_
  have rv : b = k := rv
  subst rv
  exact ⟨b, e, q _ F1 H1 Gr.refl rel1 (RVd Rb)⟩
def mIf (h : M Bool) (f g : M Sv) : M Sv := fun env => (h env).bind fun b env => if b = true then f env else g env
theorem pd_if {h : M Bool} {f g : M Sv} (hc : PB X S W c h) (ha : PD X S W a f) (hb : PD X S W b g) : PD X S W (.IfExp c a b pos) (mIf h f g) := PE.imp (pe_ifExp hc ha hb) fun σ H Q q => by
  obtain ⟨F, ef, q⟩ := rd_bind (T := TB) q
  refine rd_imp q fun v H1 ⟨F1, env1, b, g1, g2, rel1, rv, q⟩ => ?_
  have rv : b = v := rv
  subst rv
  dsimp only at q
  cases b with
  | true => exact ⟨F1, env1, rel1, q⟩
  | false => exact ⟨F1, env1, rel1, q⟩

/-! ### slices -/
def cutL {α : Type} (xs : List α) (lo hi : Option Int) : List α := (xs.drop (HT.sIx xs.length 0 lo)).take (HT.sIx xs.length xs.length hi - HT.sIx xs.length 0 lo)
def oSl : D → Option Int → Option Int → Option Sv
  | .lst l, lo, hi => some (.l (cutL l lo hi))
  | .scr l, lo, hi => some (.l ((cutL l lo hi).map D.int))
  | .tup l, lo, hi => if HT.sIx l.length 0 lo = 0 ∧ HT.sIx l.length l.length hi = l.length then none else some (.d (.tup (cutL l lo hi)))
  | _, _, _ => none
def TO' : RT (Option Int) (Option Int) := fun _ _ _ _ a b => a = b
instance : Anti TO' := ⟨fun _ h => h⟩
def PO' (X : Cx) (S : Xs) (W : WX) (e : Option Expr) (f : M (Option Int)) : Prop := PO X e (rd X.K S W TO' f)
theorem PO.imp {e : Option Expr} {t t' : TO} (h : PO X e t) (q : ∀ σ H Q, t' σ H Q → t σ H Q) : PO X e t' := ⟨fun pins s σ H Q I hw => h.run pins s σ H Q I (q σ H Q hw)⟩
def mNoP : M (Option Int) := fun env => .ok none env
def mPart (f : M D) : M (Option Int) := fun env => (f env).bind fun d env => match d with
  | .int i => .ok (some i) env
  | _ => .bad
theorem po'_none : PO' X S W none mNoP := PO.imp po_none fun σ H Q ⟨F, env, rel, q⟩ => q none F H Gr.refl rel rfl
theorem po'_some {f : M D} (h : PP X S W e f) : PO' X S W (some e) (mPart f) := PO.imp (po_some h) fun σ H Q q => by
  obtain ⟨F, ef, q⟩ := rd_bind (T := TP X.K) q
  refine rd_imp q fun v H1 ⟨F1, env1, d, g1, g2, rel1, rv, q⟩ => ?_
  cases d with
  | int i => exact ⟨i, RP.int rv, q _ F1 H1 Gr.refl rel1 rfl⟩
  | _ => exact q.elim
def mSl (f : M D) (lo hi : M (Option Int)) : M Sv := fun env => (f env).bind fun d env => (lo env).bind fun l env => (hi env).bind fun u env => rdo (oSl d l u) env
theorem Rs.cut {K : PySem.W.Frag} {F : Hp} {l : List D} {vs : List V} (r : Rs K F l vs) (lo hi : Option Int) : Rs K F (cutL l lo hi) (cutV vs lo hi) := by
  unfold cutL cutV
  rw [r.length]
  exact (r.drop _).take _
theorem cutV_map (ns : List Int) (lo hi : Option Int) : cutV (ns.map V.int) lo hi = (cutL ns lo hi).map V.int := by
  unfold cutL cutV
  rw [List.length_map, List.map_take, List.map_drop]
theorem pd_slice {f : M D} {l h : M (Option Int)} {lo hi : Option Expr} {p2 : Pos} (he : PP X S W e f) (hl : PO' X S W lo l) (hu : PO' X S W hi h) : PD X S W (.Subscript e (.Slice lo hi none p2) pos) (mSl f l h) :=
  PE.imp (pe_slice (SlR.or sl_list sl_tup) he hl hu) fun σ H Q q => by
    obtain ⟨F, ef, q⟩ := rd_bind (T := TP X.K) q
    refine rd_imp q fun x H1 ⟨F1, env1, d, g1, g2, rel1, rx, q⟩ => ?_
    have q := okG.bind (T := TO') q
    refine ⟨F1, env1, rel1, q.imp fun u H2 ⟨F2, env2, lo', k1, k2, rel2, r2, q⟩ => ?_⟩
    have q := okG.bind (T := TO') q
    refine ⟨F2, env2, rel2, q.imp fun w H3 ⟨F3, env3, hi', m1, m2, rel3, r3, q⟩ => ?_⟩
    have r2 : lo' = u := r2
    have r3 : hi' = w := r3
    subst r2 r3
    have rx3 := RP.mono rx (k1.trans m1) (k2.trans m2)
    dsimp only at q
    unfold oSl at q
    split at q
    · obtain ⟨p, vs, e1, e2, e3⟩ := rx3.lst rel3.ex
      refine .inl ⟨p, vs, e1, sq_of e2, fun l hl => ?_⟩
      have n := New.fresh (o := .lst (cutV vs lo' hi')) rel3.ex hl
      exact q _ _ _ (n.gr rel3).1 (n.gr rel3).2 ⟨l, _, rfl, hl, fresh_back rel3.ex hl, upd_same, e3.cut _ _⟩
    · obtain ⟨p, e1, e2⟩ := rx3.scr rel3.ex
      refine .inl ⟨p, _, e1, e2, fun l hl => ?_⟩
      rw [cutV_map]
      exact q _ _ _ ((New.fresh rel3.ex hl).gr rel3).1 ((New.fresh rel3.ex hl).gr rel3).2 ⟨l, _, rfl, hl, fresh_back rel3.ex hl, upd_same, Rs.of_map (fun _ => Ri) _⟩
    · split at q
      · exact q.elim
      · rename_i hw
        obtain ⟨p, vs, e1, e2, e3⟩ := rx3.tup
        refine .inr ⟨p, vs, e1, st_of (rel3.ex p _ e2), by rw [e3.length]; exact hw, fun l hl => ?_⟩
        have n := New.data (o := .tup (cutV vs lo' hi')) rel3.ex hl
        exact q _ _ _ (n.gr rel3).1 (n.gr rel3).2 (RVd (by simp only [R]; exact ⟨l, _, rfl, upd_same, (e3.cut _ _).mono n.f⟩))
    · exact q.elim

/-! ### calls -/
inductive FR where
  | ok (d : D) | ex (c : Nat) (x : Option D) | bad
def okF (K : PySem.W.Frag) (S : Xs) (F H : Hp) (Q : VK) (E : XK) : FR → Prop
  | .ok d => ∀ v F' H', New F H F' H' → R K F' d v → Q v H'
  | .ex c x => ∀ a F' H', New F H F' H' → RX K S F' c x a → E (S.cls c) a H'
  | .bad => False
/-- a def's promise by its meaning -/
def spF (K : PySem.W.Frag) (S : Xs) (n : Nat) (fn : List D → FR) : Sp := fun vs H Q E => ∃ F ds, Ex F H ∧ Rs K F ds vs ∧ ds.length = n ∧ okF K S F H Q E (fn ds)
def mCall (n : Nat) (fn : List D → FR) (f : M (List D)) : M Sv := fun env => (f env).bind fun ds env => if ds.length = n then (match fn ds with
  | .ok d => .ok (.d d) env
  | .ex c x => .ex c x env
  | .bad => .bad) else .bad
/-- a def that may be called by its name -/
structure Cl (P : Program) (w : World) (K : PySem.W.Frag) (mg : Str → Option Value) (base : Heap) (S : Xs) (k : Nat) (x : Str) (n : Nat) (fn : List D → FR) : Prop where
  ex : ∃ (f : Addr) (fd : FuncData) (ps : List Str), FnOk P w K mg base (L2N.CX P w) k f fd ps (spF K S n fn) ∧ mg x = some (.ref f) ∧ PySem.W.keepIn K (.ref f) = true ∧ Binds K fd ps []
theorem rd_call {n : Nat} {fn : List D → FR} {f : M (List D)} {Q : VK} (q : rd X.K S W (TV X.K) (mCall n fn f) σ H Q) : tCallS (spF X.K S n fn) (WE W) (rd X.K S W (TFs X.K) f) σ H Q := by
  obtain ⟨F, ef, q⟩ := rd_bind (T := TFs X.K) q
  refine rd_imp q fun vs H1 ⟨F1, env1, ds, g1, g2, rel1, rx, q⟩ => ?_
  dsimp only at q
  by_cases hn : ds.length = n
  · rw [if_pos hn] at q
    refine ⟨F1, ds, rel1.ex, rx, hn, ?_⟩
    cases h : fn ds with
    | ok d =>
      rw [h] at q
      exact fun v F' H' m r => q v F' H' (m.gr rel1).1 (m.gr rel1).2 r
    | ex c x =>
      rw [h] at q
      exact fun v F' H' m r => q v F' H' (m.gr rel1).1 (m.gr rel1).2 r
    | bad => rw [h] at q; exact q.elim
  · rw [if_neg hn] at q; exact q.elim
theorem pd_call {k j n : Nat} {x : Str} {p : Pos} {fn : List D → FR} {f : M (List D)} (c : Cl X.prog X.w X.K X.mg X.base S k x n fn) (hr : Room j X.A) (hk : k ≤ j) (hg : Gl X x) (tk : L2N.Takes X W) (ha : PFs X S W (e :: es) f)
    (hdb : (x == ("__debug__" : Str)) = false := by decide) (he : starEach (e :: es) X.env = (false, eval e X.env) :: starEach es X.env := by rfl) (hpl : (backTo pos (starEach es X.env)).any (·.1) = false := by rfl) : PD X S W (.Call (.Name x p) (e :: es) [] pos) (mCall n fn f) := by
  obtain ⟨a, fd, ps, F, hm, kp, b⟩ := c.ex
  exact PE.imp (pe_callS F (hr.mono hk) hg hm kp b (fun σ => L2N.passAt tk σ) ha hdb he hpl) fun σ H Q q => rd_call q
/-- a weaker meaning -/
theorem Cl.imp {P : Program} {w : World} {K : PySem.W.Frag} {mg : Str → Option Value} {base : Heap} {k n : Nat} {x : Str} {fn fn' : List D → FR} (h : ∀ ds, ds.length = n → fn' ds ≠ .bad → fn ds = fn' ds) (c : Cl P w K mg base S k x n fn) : Cl P w K mg base S k x n fn' := by
  obtain ⟨f, fd, ps, F, r⟩ := c.ex
  refine ⟨f, fd, ps, F.imp fun vs H Q E ⟨F0, ds, e1, e2, e3, e4⟩ => ⟨F0, ds, e1, e2, e3, ?_⟩, r⟩
  by_cases hb : fn' ds = .bad
  · rw [hb] at e4; exact e4.elim
  · rw [h ds e3 hb]; exact e4

/-! ### what is walked -/
/-- J yields these, one after another -/
def Yl (K : PySem.W.Frag) (G : Hp) (items : List D) (J : It) : Prop := ∀ (i : Nat) (F H : Hp), Ex G F → Ex F H → (∀ d, items[i]? = some d → J.go i H ∧ ∀ x H', J.yld i H x H' → ∃ F', New F H F' H' ∧ R K F' d x) ∧ (i = items.length → J.stop i H)
def TY (K : PySem.W.Frag) : RT (List D) It := fun _ F _ _ items J => Yl K F items J
instance {K : PySem.W.Frag} : Anti (TY K) := ⟨fun _ h => h⟩
def PY (X : Cx) (S : Xs) (W : WX) (tg it : Expr) (f : M (List D)) : Prop := PI X tg it (rd X.K S W (TY X.K) f)
theorem PI.imp {tg it : Expr} {t t' : TI} (h : PI X tg it t) (q : ∀ σ H R, t' σ H R → t σ H R) : PI X tg it t' := ⟨fun pins s σ H Q I hw => h.run pins s σ H Q I (q σ H Q hw)⟩
theorem PI.or {tg it : Expr} {t t' : TI} (h : PI X tg it t) (h' : PI X tg it t') : PI X tg it (fun σ H R => t σ H R ∨ t' σ H R) := ⟨fun pins s σ H Q I hw => hw.elim (h.run pins s σ H Q I) (h'.run pins s σ H Q I)⟩
def itemsOf : D → Option (List D)
  | .lst l => some l
  | .tup l => some l
  | .scr l => some (l.map D.int)
  | _ => none
def mIt (f : M D) : M (List D) := fun env => (f env).bind fun d env => match itemsOf d with
  | some l => .ok l env
  | none => .bad
theorem Yl.lst {K : PySem.W.Frag} {G : Hp} {l : List D} {a : Addr} {vs : List V} (h : SqL K G a vs) (r : Rs K G l vs) : Yl K G l (Itl K a) := fun i F H e1 e2 => by
  have hs := ex_l (e1.trans e2) h
  refine ⟨fun d hd => ?_, fun z => ⟨vs, hs, by rw [z, r.length]; exact Nat.le_refl _⟩⟩
  obtain ⟨v, q1, q2⟩ := r.get' hd
  refine ⟨⟨vs, v, hs, q1⟩, fun x H' y => ⟨F, by rw [y.1]; exact New.refl e2, ?_⟩⟩
  have := y.2 vs hs
  rw [q1] at this
  cases this
  exact q2.mono e1
theorem Yl.tup {K : PySem.W.Frag} {G : Hp} {l : List D} {a : Addr} {vs : List V} (h : SqT K G a vs) (r : Rs K G l vs) : Yl K G l (Itt K a) := fun i F H e1 e2 => by
  have hs := ex_t (e1.trans e2) h
  refine ⟨fun d hd => ?_, fun z => ⟨vs, hs, by rw [z, r.length]; exact Nat.le_refl _⟩⟩
  obtain ⟨v, q1, q2⟩ := r.get' hd
  refine ⟨⟨vs, v, hs, q1⟩, fun x H' y => ⟨F, by rw [y.1]; exact New.refl e2, ?_⟩⟩
  have := y.2 vs hs
  rw [q1] at this
  cases this
  exact q2.mono e1
theorem py_seq {tg : Expr} {f : M D} (h : PF X S W e f) : PY X S W tg e (mIt f) := PI.imp (PI.or (pi_list h) (pi_tup h)) fun σ H R ⟨F, env, rel, q⟩ => by
  unfold mIt at q
  cases hf : f env with
  | bad => rw [hf] at q; exact q.elim
  | ex c x env1 =>
    rw [hf] at q
    exact .inl ⟨F, env, rel, by rw [hf]; exact q⟩
  | ok d env1 =>
    rw [hf] at q
    have q : okG X.K S W σ (TY X.K) F H env R (match itemsOf d with | some l => Res.ok l env1 | none => .bad) := q
    cases d with
    | lst l =>
      refine .inl ⟨F, env, rel, ?_⟩
      rw [hf]
      intro v F1 H1 g rel1 rv
      have rv : Iv.R X.K F1 (.lst l) v := rv
      simp only [Iv.R] at rv
      obtain ⟨p, vs, e1, e2, e3⟩ := rv
      exact ⟨p, e1, ⟨vs, sq_of (rel1.ex p _ e2)⟩, q _ F1 H1 g rel1 (Yl.lst (sq_of e2) e3)⟩
    | scr l =>
      refine .inl ⟨F, env, rel, ?_⟩
      rw [hf]
      intro v F1 H1 g rel1 rv
      have rv : Iv.R X.K F1 (.scr l) v := rv
      simp only [Iv.R] at rv
      obtain ⟨p, e1, e2⟩ := rv
      exact ⟨p, e1, ⟨_, ex_l rel1.ex e2⟩, q _ F1 H1 g rel1 (Yl.lst e2 (Rs.of_map (fun _ => Ri) _))⟩
    | tup l =>
      refine .inr ⟨F, env, rel, ?_⟩
      rw [hf]
      intro v F1 H1 g rel1 rv
      have rv : Iv.R X.K F1 (.tup l) v := rv
      simp only [Iv.R] at rv
      obtain ⟨p, vs, e1, e2, e3⟩ := rv
      exact ⟨p, e1, ⟨vs, st_of (rel1.ex p _ e2)⟩, q _ F1 H1 g rel1 (Yl.tup (st_of e2) e3)⟩
    | _ => exact q.elim
/-- range(n), range(a, b) -/
def upTo (lo : Int) (n : Nat) : List D := (List.range n).map fun i => .int (lo + (i : Nat))
theorem Yl.rng {K : PySem.W.Frag} {G : Hp} {lo : Int} {n : Nat} : Yl K G (upTo lo n) (Itr lo n) := fun i F H _ e2 => by
  refine ⟨fun d hd => ?_, fun z => by unfold upTo at z; rw [List.length_map, List.length_range] at z; exact Nat.le_of_eq z.symm⟩
  unfold upTo at hd
  rw [List.getElem?_map] at hd
  obtain ⟨j, h1, h2⟩ := Option.map_eq_some_iff.mp hd
  obtain ⟨h3, h4⟩ := List.getElem?_eq_some_iff.mp h1
  rw [List.getElem_range] at h4
  subst h4 h2
  rw [List.length_range] at h3
  exact ⟨h3, fun x H' y => ⟨F, by rw [y.1]; exact New.refl e2, by rw [y.2]; exact Ri⟩⟩
def small (i : Int) : Bool := decide (-1000000 ≤ i) && decide (i ≤ 1000000)
def mRng1 (f : M (List D)) : M (List D) := fun env => (f env).bind fun ds env => match ds with
  | [.int n] => if small n = true then .ok (upTo 0 n.toNat) env else .bad
  | _ => .bad
def mRng2 (f : M (List D)) : M (List D) := fun env => (f env).bind fun ds env => match ds with
  | [.int a, .int b] => if small a = true ∧ small b = true then .ok (upTo a (b - a).toNat) env else .bad
  | _ => .bad
theorem small_ok {i : Int} (h : small i = true) : -(2 ^ 62) ≤ i ∧ i < 2 ^ 62 := by
  unfold small at h
  rw [Bool.and_eq_true, decide_eq_true_eq, decide_eq_true_eq] at h
  omega
theorem py_range1 {tg : Expr} {p : Pos} {f : M (List D)} (hg : Gl X "range") (hm : X.mg "range" = none) (ha : PPs X S W [a] f) (hs : starEach [a] X.env = [(false, eval a X.env)] := by rfl) : PY X S W tg (.Call (.Name "range" p) [a] [] pos) (mRng1 f) :=
  PI.imp (pi_range1 hg hm ha hs) fun σ H R q => by
    obtain ⟨F, ef, q⟩ := rd_bind (T := TPs X.K) q
    refine rd_imp q fun vs H1 ⟨F1, env1, ds, g1, g2, rel1, rx, q⟩ => ?_
    dsimp only at q
    split at q
    · rename_i n
      split at q
      · rename_i hn
        obtain ⟨v, e, r⟩ := RPs.one rx
        obtain ⟨k1, k2⟩ := small_ok hn
        exact ⟨n, by rw [e, r.int], k1, k2, q _ F1 H1 Gr.refl rel1 Yl.rng⟩
      · exact q.elim
    · exact q.elim
theorem py_range2 {tg : Expr} {p : Pos} {f : M (List D)} (hg : Gl X "range") (hm : X.mg "range" = none) (ha : PPs X S W [a, b] f) (hs : starEach [a, b] X.env = [(false, eval a X.env), (false, eval b X.env)] := by rfl) (hs2 : starEach [b] X.env = [(false, eval b X.env)] := by rfl) :
    PY X S W tg (.Call (.Name "range" p) [a, b] [] pos) (mRng2 f) :=
  PI.imp (pi_range2 hg hm ha hs hs2) fun σ H R q => by
    obtain ⟨F, ef, q⟩ := rd_bind (T := TPs X.K) q
    refine rd_imp q fun vs H1 ⟨F1, env1, ds, g1, g2, rel1, rx, q⟩ => ?_
    dsimp only at q
    split at q
    · rename_i n m
      split at q
      · rename_i hn
        obtain ⟨v, w, e, r, r'⟩ := RPs.two rx
        obtain ⟨k1, k2⟩ := small_ok hn.1
        obtain ⟨k3, k4⟩ := small_ok hn.2
        exact ⟨n, m, by rw [e, r.int, r'.int], ⟨k1, k2, k3, k4⟩, q _ F1 H1 Gr.refl rel1 Yl.rng⟩
      · exact q.elim
    · exact q.elim

/-! ### targets -/
/-- js: the slots that it sets -/
def rG (K : PySem.W.Frag) (js : List Nat) (γ : D → En → Option En) : TG := fun v σ H Q => ∃ F env d, Rel K F H σ env ∧ R K F d v ∧ ∃ env', γ d env = some env' ∧
  ∀ σ', Rel K F H σ' env' → (∀ a, Owned σ' env' a → Owned σ env a) → σ'.length = σ.length → (∀ i, i ∉ js → σ'[i]? = σ[i]?) → Q σ' H
def rGs (K : PySem.W.Frag) (js : List Nat) (γ : List D → En → Option En) : TGs := fun vs σ H Q => ∃ F env ds, Rel K F H σ env ∧ Rs K F ds vs ∧ ∃ env', γ ds env = some env' ∧
  ∀ σ', Rel K F H σ' env' → (∀ a, Owned σ' env' a → Owned σ env a) → σ'.length = σ.length → (∀ i, i ∉ js → σ'[i]? = σ[i]?) → Q σ' H
def PGd (X : Cx) (tg : Expr) (js : List Nat) (γ : D → En → Option En) : Prop := PG X tg (rG X.K js γ)
def PGds (X : Cx) (tgs : List Expr) (js : List Nat) (γ : List D → En → Option En) : Prop := PGs X tgs (rGs X.K js γ)
theorem PG.imp {tg : Expr} {t t' : TG} (h : PG X tg t) (q : ∀ v σ H Q, t' v σ H Q → t v σ H Q) : PG X tg t' := ⟨fun pins s σ H v u Q I r hw => h.run pins s σ H v u Q I r (q v σ H Q hw)⟩
theorem PGs.imp {tg : List Expr} {t t' : TGs} (h : PGs X tg t) (q : ∀ v σ H Q, t' v σ H Q → t v σ H Q) : PGs X tg t' := ⟨fun pins s σ H v u Q I r hw => h.run pins s σ H v u Q I r (q v σ H Q hw)⟩
theorem owned_set {σ : L2.St} {env : En} {i : Nat} {s : Sl} {o : Option V} {a : Addr} (hs : s.own = false) (h : Owned (σ.set i o) (env.set i s) a) : Owned σ env a := by
  obtain ⟨j, t, e1, e2, e3⟩ := h
  by_cases hj : i = j
  · subst hj
    have hi : i < env.length := by
      have := (List.getElem?_eq_some_iff.mp e1).1
      simpa using this
    rw [List.getElem?_set_self hi] at e1
    cases e1
    rw [hs] at e2
    cases e2
  · rw [List.getElem?_set_ne hj] at e1 e3
    exact ⟨j, t, e1, e2, e3⟩
def γN (i : Nat) : D → En → Option En := fun d env => some (env.set i (.fr d))
theorem pgd_name {i : Nat} {x : Str} (hN : X.N.Nodup) (hi : X.N[i]? = some x) (hx : Loc X.env.scope x) (hf : X.fn x = true ∨ X.env.scope.names.lookup x = some .local := by first | exact .inl rfl | exact .inr rfl | assumption) : PGd X (.Name x pos) [i] (γN i) :=
  PG.imp (pg_name hN hi hx hf) fun v σ H Q ⟨F, env, d, rel, r, env', e, q⟩ => by
    cases e
    exact q _ (rel.set (o := some v) ⟨v, rfl, r⟩ fun _ z => nomatch z) (fun a h => owned_set rfl h) (by rw [List.length_set]) fun j hj => List.getElem?_set_ne fun z => hj (by rw [z]; exact List.mem_singleton.mpr rfl)
def γNil : List D → En → Option En := fun ds env => match ds with
  | [] => some env
  | _ => none
def γCons (g : D → En → Option En) (h : List D → En → Option En) : List D → En → Option En := fun ds env => match ds with
  | d :: r => (g d env).bind fun env1 => h r env1
  | [] => none
theorem pgds_nil : PGds X [] [] γNil := PGs.imp pgs_nil fun vs σ H Q ⟨F, env, ds, rel, r, env', e, q⟩ => by
  unfold γNil at e
  split at e
  · cases e
    have r : vs = [] := by simpa only [Rs] using r
    exact ⟨r, q σ rel (fun _ h => h) rfl fun _ _ => rfl⟩
  · cases e
theorem pgds_cons {js js' : List Nat} {g : D → En → Option En} {h : List D → En → Option En} (h1 : PGd X e js g) (h2 : PGds X es js' h) (hs : (assignEach (e :: es) X.env).map (·.2) = assign e X.env :: (assignEach es X.env).map (·.2) := by rfl) :
    PGds X (e :: es) (js ++ js') (γCons g h) := PGs.imp (pgs_cons h1 h2 hs) fun vs σ H Q ⟨F, env, ds, rel, r, env', e, q⟩ => by
  unfold γCons at e
  split at e
  · rename_i d ds'
    simp only [Rs] at r
    obtain ⟨v, vr, rfl, r1, r2⟩ := r
    cases hg : g d env with
    | none => rw [hg] at e; cases e
    | some env1 =>
      rw [hg] at e
      refine ⟨v, vr, rfl, F, env, d, rel, r1, env1, hg, fun σ1 rel1 o1 l1 k1 => ?_⟩
      refine ⟨F, env1, ds', rel1, r2, env', e, fun σ2 rel2 o2 l2 k2 => q σ2 rel2 (fun a h => o1 a (o2 a h)) (l2.trans l1) fun i hi => ?_⟩
      rw [List.mem_append, not_or] at hi
      exact (k2 i hi.2).trans (k1 i hi.1)
  · cases e
/-- a, b = a tuple -/
def γT (n : Nat) (h : List D → En → Option En) : D → En → Option En := fun d env => match d with
  | .tup l => if l.length = n then h l env else none
  | _ => none
theorem pgd_tup {k : Nat} {js : List Nat} {h : List D → En → Option En} {n : Nat} (hc : X.calm = true) (hh : PGds X es js h)
    (hn : (assignEach es X.env).length = n := by rfl) (hst : (assignEach es X.env).findIdx? (·.1) = none := by rfl) : PGd X (.Tuple es k pos) js (γT n h) :=
  PG.imp (pg_tup hc hh hn hst) fun v σ H Q ⟨F, env, d, rel, r, env', e, q⟩ => by
    unfold γT at e
    split at e
    · rename_i l
      split at e
      · rename_i hl
        simp only [R] at r
        obtain ⟨p, vs, e1, e2, e3⟩ := r
        exact ⟨p, vs, e1, st_of (rel.ex p _ e2), by rw [e3.length]; exact hl, F, env, l, rel, e3, env', e, q⟩
      · cases e
    · cases e

/-! ### comprehensions -/
def wipeE (env : En) : List Nat → En
  | [] => env
  | v :: vs => (wipeE env vs).set v .un
theorem Rel.wipe {K : PySem.W.Frag} {F H : Hp} {env : En} (rel : Rel K F H σ env) : ∀ vs : List Nat, Rel K F H (wipe σ vs) (wipeE env vs)
  | [] => rel
  | v :: vs => (Rel.wipe rel vs).set (s := .un) (o := none) True.intro fun _ z => nomatch z
theorem owned_wipe {env : En} {a : Addr} : ∀ {vs : List Nat}, Owned (wipe σ vs) (wipeE env vs) a → Owned σ env a
  | [], h => h
  | v :: vs, h => owned_wipe (vs := vs) (owned_set rfl h)
theorem wipeE_len {env : En} : ∀ vs : List Nat, (wipeE env vs).length = env.length
  | [] => rfl
  | v :: vs => by unfold wipeE; rw [List.length_set]; exact wipeE_len vs
theorem wipe_len : ∀ vs : List Nat, (wipe σ vs).length = σ.length
  | [] => rfl
  | v :: vs => by unfold wipe; rw [List.length_set]; exact wipe_len vs
theorem wipe_in {i : Nat} : ∀ {vs : List Nat}, i ∈ vs → i < σ.length → (wipe σ vs)[i]? = some none
  | v :: vs, h, hl => by
    unfold wipe
    by_cases e : v = i
    · subst e; exact List.getElem?_set_self (by rw [wipe_len]; exact hl)
    · rw [List.getElem?_set_ne e]
      exact wipe_in (by
        rcases List.mem_cons.mp h with z | z
        · exact absurd z.symm e
        · exact z) hl
theorem wipe_out {i : Nat} : ∀ {vs : List Nat}, i ∉ vs → (wipe σ vs)[i]? = σ[i]?
  | [], _ => rfl
  | v :: vs, h => by
    unfold wipe
    rw [List.mem_cons, not_or] at h
    rw [List.getElem?_set_ne (Ne.symm h.1)]
    exact wipe_out h.2
theorem wipe_same {σ σ' : L2.St} {vs : List Nat} (hl : σ'.length = σ.length) (h : ∀ i, i ∉ vs → σ'[i]? = σ[i]?) : wipe σ' vs = wipe σ vs := by
  refine List.ext_getElem? fun i => ?_
  by_cases hv : i ∈ vs
  · by_cases hi : i < σ.length
    · rw [wipe_in hv hi, wipe_in hv (by rw [hl]; exact hi)]
    · rw [List.getElem?_eq_none (by rw [wipe_len]; omega), List.getElem?_eq_none (by rw [wipe_len]; omega)]
  · rw [wipe_out hv, wipe_out hv, h i hv]
theorem wipeE_get (e : En) (ws : List Nat) (i : Nat) : (wipeE e ws)[i]? = if i ∈ ws ∧ i < e.length then some .un else e[i]? := by
  induction ws with
  | nil => simp [wipeE]
  | cons w ws ih =>
    unfold wipeE
    by_cases hw : w = i
    · subst hw
      by_cases hl : w < e.length
      · rw [List.getElem?_set_self (by rw [wipeE_len]; exact hl), if_pos ⟨List.mem_cons_self, hl⟩]
      · rw [if_neg (fun z => hl z.2), List.getElem?_eq_none (by rw [List.length_set, wipeE_len]; omega), List.getElem?_eq_none (by omega)]
    · rw [List.getElem?_set_ne hw, ih]
      have : (i ∈ w :: ws) ↔ i ∈ ws := by
        rw [List.mem_cons]
        exact ⟨fun z => z.elim (fun z => absurd z.symm hw) id, .inr⟩
      simp only [this]
theorem wipeE_idem {env : En} {vs : List Nat} : wipeE (wipeE env vs) vs = wipeE env vs := by
  refine List.ext_getElem? fun i => ?_
  rw [wipeE_get, wipeE_get, wipeE_len]
  split <;> simp_all
theorem wipeE_un {env : En} {vs : List Nat} {i : Nat} {s : Sl} (h : wipeE env vs = env) (hi : i ∈ vs) (e : env[i]? = some s) : s = .un := by
  have := wipeE_get env vs i
  rw [h, e, if_pos ⟨hi, (List.getElem?_eq_some_iff.mp e).1⟩] at this
  exact Option.some.inj this
theorem wipe_wipe {σ : L2.St} {vs : List Nat} : wipe (wipe σ vs) vs = wipe σ vs := wipe_same (wipe_len vs) fun i h => wipe_out h
def compL (vs : List Nat) (γ : D → En → Option En) (cond : M Bool) (elt : M D) : List D → List D → En → Res (List D)
  | [], acc, env => .ok acc env
  | x :: xs, acc, env => match γ x env with
    | none => .bad
    | some env1 => match cond env1 with
      | .ok true env2 => match elt env2 with
        | .ok d env3 => compL vs γ cond elt xs (acc ++ [d]) (wipeE env3 vs)
        | _ => .bad
      | .ok false env2 => compL vs γ cond elt xs acc (wipeE env2 vs)
      | _ => .bad
def mLc (vs : List Nat) (γ : D → En → Option En) (src : M (List D)) (cond : M Bool) (elt : M D) : M Sv := fun env => (src env).bind fun items env1 => if items.length ≤ 90000 then
    (match compL vs γ cond elt items [] (wipeE env1 vs) with
    | .ok acc env2 => .ok (.l acc) env2
    | _ => .bad) else .bad
def W0 : WX := fun _ _ _ _ => False
theorem rd_lc {wi : TI} {g : TG} {tt : TT} {te : TE} {vs js : List Nat} {γ : D → En → Option En} {src : M (List D)} {cond : M Bool} {elt : M D} {K : PySem.W.Frag} {Q : VK} (hj : ∀ i ∈ js, i ∈ vs)
    (hw : ∀ σ H R, rd K S W (TY K) src σ H R → wi σ H R)
    (hg : ∀ v σ H Q, rG K js γ v σ H Q → g v σ H Q)
    (ht : ∀ σ H Q, rd K S W0 TB cond σ H Q → tt σ H Q) (he : ∀ σ H Q, rd K S W0 (TF K) elt σ H Q → te σ H Q)
    (q : rd K S W (TV K) (mLc vs γ src cond elt) σ H Q) : tLc wi g tt te vs σ H Q := by
  obtain ⟨F, ef, q⟩ := rd_bind (T := TY K) q
  refine hw σ H _ (rd_imp q fun J H1 ⟨F1, env1, items, g1, g2, rel1, yl, q⟩ => ?_)
  have yl : Yl K F1 items J := yl
  dsimp only at q
  by_cases hlen : items.length ≤ 90000
  case neg => rw [if_neg hlen] at q; exact q.elim
  rw [if_pos hlen] at q
  cases hr : compL vs γ cond elt items [] (wipeE env1 vs) with
  | bad => rw [hr] at q; exact q.elim
  | ex c x e2 => rw [hr] at q; exact q.elim
  | ok accF env2 =>
    rw [hr] at q
    have q : ∀ b F' H', Gr σ env1 F1 H1 env2 F' H' → Rel K F' H' σ env2 → RV K H1 F' H' (.l accF) b → Q b H' := q
    intro Dl hD
    have hDF : F1 Dl = none := fresh_back rel1.ex hD
    have nD0 : ∀ a, Owned σ env1 a → a ≠ Dl := fun a h z => (rel1.owned h).2 (by rw [z]; exact hD)
    refine ⟨fun i m H' => m = items.length - i ∧ i ≤ items.length ∧ ∃ F' env acc va, Ex F1 F' ∧ Ex H1 H' ∧ Rel K F' H' (wipe σ vs) env ∧ H' Dl = some (.lst va) ∧ Rs K F' acc va ∧ F' Dl = none ∧ acc.length ≤ i ∧
        (∀ a, Owned (wipe σ vs) env a → Owned σ env1 a) ∧ (∀ a, H1 a ≠ none → F1 a = none → ¬ Owned σ env1 a → F' a = none) ∧ compL vs γ cond elt (items.drop i) acc env = .ok accF env2 ∧ wipeE env vs = env,
      ⟨items.length, by simp, Nat.zero_le _, F1, wipeE env1 vs, [], [], Ex.refl _, Ex.new hD, ?_, upd_same, Rs.nil, hDF, Nat.le_refl _, fun a h => owned_wipe h, fun _ _ h _ => h, hr, ?_⟩, ?_⟩
    · exact (rel1.wipe vs).grow (Ex.refl _) (Ex.new hD) (fun a u e => by rw [upd_ne (ne_of_none (rel1.ex a u e) hD)]; exact rel1.ex a u e) fun a h => (rel1.owned (owned_wipe h)).1
    · exact wipeE_idem
    · rintro i m H' ⟨rfl, hi, F', env, acc, va, x1, x2, rel, hDl, ra, fD, hacc, own, keep, hc, hwe⟩
      have nD : ∀ a, Owned (wipe σ vs) env a → a ≠ Dl := fun a h => nD0 a (own a h)
      by_cases hlt : i < items.length
      · refine .inr ?_
        have hget : items[i]? = some items[i] := List.getElem?_eq_getElem hlt
        obtain ⟨hgo, hy⟩ := (yl i F' H' x1 rel.ex).1 _ hget
        have hdrop : items.drop i = items[i] :: items.drop (i + 1) := List.drop_eq_getElem_cons hlt
        rw [hdrop] at hc
        unfold compL at hc
        refine ⟨hgo, fun H2 => ∃ m', m' < items.length - i ∧ m' = items.length - (i + 1) ∧ i + 1 ≤ items.length ∧ ∃ F' env acc va, Ex F1 F' ∧ Ex H1 H2 ∧ Rel K F' H2 (wipe σ vs) env ∧ H2 Dl = some (.lst va) ∧ Rs K F' acc va ∧ F' Dl = none ∧ acc.length ≤ i + 1 ∧
          (∀ a, Owned (wipe σ vs) env a → Owned σ env1 a) ∧ (∀ a, H1 a ≠ none → F1 a = none → ¬ Owned σ env1 a → F' a = none) ∧ compL vs γ cond elt (items.drop (i + 1)) acc env = .ok accF env2 ∧ wipeE env vs = env, fun H2 h => ?_, fun x H2 y => ?_⟩
        · obtain ⟨m', h1, h2, h3⟩ := h
          exact ⟨m', h1, h2, h3⟩
        obtain ⟨F'', nw, rx⟩ := hy x H2 y
        obtain ⟨gw, rel⟩ := nw.gr rel
        have x1 := x1.trans nw.f
        have x2_ := x2
        have x2 := x2.trans nw.h
        have hDl0 := hDl
        have hDl := nw.h Dl _ hDl
        have ra := ra.mono nw.f
        have fD := nw.keep Dl (by rw [hDl0]; exact fun z => nomatch z) fD
        have keep : ∀ a, H1 a ≠ none → F1 a = none → ¬ Owned σ env1 a → F'' a = none := fun a h1 h2 h3 => nw.keep a (Ex.some x2_ h1) (keep a h1 h2 h3)
        cases hγ : γ items[i] env with
        | none => rw [hγ] at hc; cases hc
        | some envx =>
          rw [hγ] at hc
          dsimp only at hc
          refine hg x _ H2 _ ⟨F'', env, items[i], rel, rx, envx, hγ, fun σ2 rel2 o2 l2 k2 => ?_⟩
          have hws : wipe σ2 vs = wipe σ vs := (wipe_same l2 fun i hi => k2 i fun z => hi (hj i z)).trans wipe_wipe
          refine ⟨hws, ht σ2 H2 _ ⟨F'', envx, rel2, ?_⟩⟩
          cases hcd : cond envx with
          | bad => rw [hcd] at hc; cases hc
          | ex c x e => rw [hcd] at hc; cases hc
          | ok b envy =>
            rw [hcd] at hc
            intro b' F3 H3 gr3 rel3 eb
            have eb : b = b' := eb
            subst eb
            have fD3 : F3 Dl = none := gr3.keep Dl (by rw [hDl]; exact fun z => nomatch z) fD fun z => nD Dl (o2 Dl z) rfl
            have keep3 : ∀ a, H1 a ≠ none → F1 a = none → ¬ Owned σ env1 a → F3 a = none := fun a h1 h2 h3 => gr3.keep a (Ex.some x2 h1) (keep a h1 h2 h3) fun z => h3 (own a (o2 a z))
            cases b with
            | false =>
              have hc : compL vs γ cond elt (items.drop (i + 1)) acc (wipeE envy vs) = .ok accF env2 := hc
              show ∃ m', _
              refine ⟨_, by omega, rfl, hlt, F3, wipeE envy vs, acc, va, x1.trans gr3.f, x2.trans gr3.h, ?_, gr3.h Dl _ hDl, ra.mono gr3.f, fD3, by omega, fun a h => ?_, keep3, hc, ?_⟩
              · rw [← hws]; exact rel3.wipe vs
              · rw [← hws] at h
                exact own a (o2 a (gr3.own a (owned_wipe h)))
              · exact wipeE_idem
            | true =>
              dsimp only at hc
              refine he σ2 H3 _ ⟨F3, envy, rel3, ?_⟩
              cases hel : elt envy with
              | bad => rw [hel] at hc; cases hc
              | ex c x e => rw [hel] at hc; cases hc
              | ok d envz =>
                rw [hel] at hc
                have hc : compL vs γ cond elt (items.drop (i + 1)) (acc ++ [d]) (wipeE envz vs) = .ok accF env2 := hc
                intro y F4 H4 gr4 rel4 ry
                have ry : R K F4 d y := ry
                have fD4 : F4 Dl = none := gr4.keep Dl (Ex.some gr3.h (by rw [hDl]; exact fun z => nomatch z)) fD3 fun z => nD Dl (o2 Dl (gr3.own Dl z)) rfl
                have hD4 : H4 Dl = some (.lst va) := gr4.h Dl _ (gr3.h Dl _ hDl)
                refine ⟨va, hD4, sz_lt (by have := ra.length; omega), ?_⟩
                refine ⟨_, by omega, rfl, hlt, F4, wipeE envz vs, acc ++ [d], va ++ [y], (x1.trans gr3.f).trans gr4.f, Ex.mut ((x2.trans gr3.h).trans gr4.h) hD, ?_, upd_same, (ra.mono (gr3.f.trans gr4.f)).append (Rs.cons ry Rs.nil), fD4, by rw [List.length_append]; show acc.length + 1 ≤ i + 1; omega, fun a h => ?_, fun a h1 h2 h3 => ?_, hc, ?_⟩
                · have r5 : Rel K F4 H4 (wipe σ vs) (wipeE envz vs) := by rw [← hws]; exact rel4.wipe vs
                  refine ⟨r5.len, Ex.mut r5.ex fD4, fun j s e => ?_, r5.dis⟩
                  obtain ⟨o, p1, p2⟩ := r5.at_ j s e
                  refine ⟨o, p1, ?_⟩
                  have ne : ∀ a, s.own = true → o = some (.ref a) → a ≠ Dl := fun a hs ho => by
                    have hO : Owned (wipe σ vs) (wipeE envz vs) a := ⟨j, s, e, hs, by rw [p1, ho]⟩
                    rw [← hws] at hO
                    exact nD a (o2 a (gr3.own a (gr4.own a (owned_wipe hO))))
                  cases s with
                  | un => trivial
                  | xo a => exact p2
                  | fr d => exact p2
                  | ow l => obtain ⟨p, ws, z1, z2, z3, z4⟩ := p2; exact ⟨p, ws, z1, z2, by rw [upd_ne (ne p rfl z1)]; exact z3, z4⟩
                  | od ks ds => obtain ⟨p, ws, z1, z2, z3, z4⟩ := p2; exact ⟨p, ws, z1, z2, by rw [upd_ne (ne p rfl z1)]; exact z3, z4⟩
                · rw [← hws] at h
                  exact own a (o2 a (gr3.own a (gr4.own a (owned_wipe h))))
                · exact gr4.keep a (Ex.some gr3.h (Ex.some x2 h1)) (keep3 a h1 h2 h3) fun z => h3 (own a (o2 a (gr3.own a z)))
                · exact wipeE_idem
      · have e : i = items.length := by omega
        subst e
        rw [List.drop_length] at hc
        have hc : (Res.ok acc env : Res (List D)) = .ok accF env2 := hc
        cases hc
        refine .inl ⟨(yl _ F' H' x1 rel.ex).2 rfl, q _ F' H' ⟨x1, x2, fun a h => ?_, keep⟩ ?_ ⟨Dl, va, rfl, hD, fD, hDl, ra⟩⟩
        · obtain ⟨j, s, z1, z2, z3⟩ := h
          have hj : j ∉ vs := fun z => by
            rw [wipeE_un hwe z z1] at z2
            cases z2
          exact own a ⟨j, s, z1, z2, by rw [wipe_out hj]; exact z3⟩
        · refine ⟨by rw [rel.len, wipe_len], rel.ex, fun j s z => ?_, fun a b s t c p1 p2 o1 o2 v1 v2 => ?_⟩
          · by_cases hj : j ∈ vs
            · rw [wipeE_un hwe hj z]
              have hl := (List.getElem?_eq_some_iff.mp z).1
              rw [rel.len, wipe_len] at hl
              exact ⟨_, List.getElem?_eq_getElem hl, True.intro⟩
            · obtain ⟨o, y1, y2⟩ := rel.at_ j s z
              rw [wipe_out hj] at y1
              exact ⟨o, y1, y2⟩
          · have ha : a ∉ vs := fun z => by
              rw [wipeE_un hwe z p1] at o1
              cases o1
            have hb : b ∉ vs := fun z => by
              rw [wipeE_un hwe z p2] at o2
              cases o2
            exact rel.dis a b s t c p1 p2 o1 o2 (by rw [wipe_out ha]; exact v1) (by rw [wipe_out hb]; exact v2)
/-- [elt for tg in src if cond] -/
theorem pd_lc {elt tg iter : Expr} {ifs : List Expr} {scope : Scope} {own : List (Str × Nat)} {js : List Nat} {γ : D → En → Option En} {src : M (List D)} {cond : M Bool} {fe : M D} (hc : X.calm = true) (hN : X.N.Nodup) (hi : PY X S W tg iter src) (ok : BlkOk X.N X.env.scope scope own) (hj : ∀ i ∈ js, i ∈ own.map (·.2))
    (hg : ∀ (s : Shared) (H : Hp) (C : Addr) (cl : List (Str × Addr)) (fp : List Addr), PGd (X.blk s H scope (compEnvC scope cl C X.env) fp) tg js γ)
    (ht : ∀ (s : Shared) (H : Hp) (C : Addr) (cl : List (Str × Addr)) (fp : List Addr), PTs (X.blk s H scope (compEnvC scope cl C X.env) fp) ifs (rd X.K S W0 TB cond))
    (he : ∀ (s : Shared) (H : Hp) (C : Addr) (cl : List (Str × Addr)) (fp : List Addr), PF (X.blk s H scope (compEnvC scope cl C X.env) fp) S W0 elt fe) (hs : ∀ x, foldedSetIterable iter X.env x = pure x := by intro _; rfl) :
    PD X S W (.ListComp elt [⟨tg, iter, ifs, 0⟩] scope pos) (mLc (own.map (·.2)) γ src cond fe) :=
  PE.imp (pe_lc (g := rG X.K js γ) (tt := rd X.K S W0 TB cond) (te := rd X.K S W0 (TF X.K) fe) hc hN hi ok hg ht he hs) fun σ H Q q => rd_lc hj (fun _ _ _ h => h) (fun _ _ _ _ h => h) (fun _ _ _ h => h) (fun _ _ _ h => h) q
def mYes : M Bool := fun env => .ok true env
theorem pts_yes : PTs X [] (rd X.K S W TB mYes) := ⟨fun pins s σ H Q I ⟨F, env, rel, q⟩ => pts_nil.run pins s σ H Q I (q true F H Gr.refl rel rfl)⟩
theorem pts_if {f : M Bool} (h : PB X S W c f) : PTs X [c] (rd X.K S W TB f) := pts_one h
end
end Iv

set_option Elab.async false
set_option linter.all false
set_option maxRecDepth 100000
/-! Statements, whole defs. -/
namespace Iv
open PySem PySem.Spec PyProof.Rows L2 Evl

/-- how a statement ends -/
inductive Fl where
  | nx | rt (d : D) | bk | ct
/-- against the def's entry: F0, H0 -/
structure Bd (F0 H0 F H : Hp) (σ : L2.St) (env : En) : Prop where
  f : Ex F0 F
  h : Ex H0 H
  keep : ∀ a, H0 a ≠ none → F0 a = none → F a = none
  own : ∀ a, Owned σ env a → H0 a = none
theorem Bd.gr {F0 H0 F H F' H' : Hp} {σ : L2.St} {env env' : En} (b : Bd F0 H0 F H σ env) (g : Gr σ env F H env' F' H') : Bd F0 H0 F' H' σ env' :=
  ⟨b.f.trans g.f, b.h.trans g.h, fun a h1 h2 => g.keep a (Ex.some b.h h1) (b.keep a h1 h2) fun z => h1 (b.own a z), fun a h => b.own a (g.own a h)⟩
section
variable {K : PySem.W.Frag} {S : Xs} {W : WX} {F0 H0 : Hp}
/-- G: the ghost heap ahead of it -/
def okS (K : PySem.W.Frag) (S : Xs) (W : WX) (F0 H0 G : Hp) (D : Ends) : Res Fl → Prop
  | .ok .nx env => ∀ σ F H, Ex G F → Bd F0 H0 F H σ env → Rel K F H σ env → D.nx σ H
  | .ok .bk env => ∀ σ F H, Ex G F → Bd F0 H0 F H σ env → Rel K F H σ env → D.bk σ H
  | .ok .ct env => ∀ σ F H, Ex G F → Bd F0 H0 F H σ env → Rel K F H σ env → D.ct σ H
  | .ok (.rt d) _ => ∀ v F H, New F0 H0 F H → R K F d v → D.rt v H
  | .ex c x env => ∀ a σ F H, Ex G F → Bd F0 H0 F H σ env → Rel K F H σ env → RX K S F c x a → W (S.cls c) a σ H
  | .bad => False
theorem okS.shift {G G' : Hp} {D : Ends} {r : Res Fl} (e : Ex G G') (h : okS K S W F0 H0 G D r) : okS K S W F0 H0 G' D r := by
  cases r with
  | bad => exact h
  | ex c x env => exact fun a σ F H e' => h a σ F H (e.trans e')
  | ok f env =>
    cases f with
    | nx => exact fun σ F H e' => h σ F H (e.trans e')
    | bk => exact fun σ F H e' => h σ F H (e.trans e')
    | ct => exact fun σ F H e' => h σ F H (e.trans e')
    | rt d => exact h
def rdS (K : PySem.W.Frag) (S : Xs) (W : WX) (F0 H0 : Hp) (g : M Fl) : TS := fun D σ H => ∃ F env, Bd F0 H0 F H σ env ∧ Rel K F H σ env ∧ okS K S W F0 H0 F D (g env)
/-- from a statement's end to an expression's within it -/
theorem okS.ex_bind {α β : Type} {T : RT α β} {D : Ends} {σ : L2.St} {F H : Hp} {env : En} {r : Res α} {k : α → En → Res Fl} {Q : β → Hp → Prop} (b : Bd F0 H0 F H σ env) (h : okS K S W F0 H0 F D (r.bind k))
    (q : ∀ a env' v F' H', r = .ok a env' → Gr σ env F H env' F' H' → Bd F0 H0 F' H' σ env' → Rel K F' H' σ env' → T H F' H' env' a v → okS K S W F0 H0 F' D (k a env') → Q v H') : okG K S W σ T F H env Q r := by
  cases r with
  | ok a e => exact fun v F' H' g rel t => q a e v F' H' rfl g (b.gr g) rel t (h.shift g.f)
  | ex c x e => exact fun a F' H' g rel t => h a σ F' H' g.f (b.gr g) rel t
  | bad => exact h
end

section
variable {X : Cx} {S : Xs} {W : WX} {F0 H0 : Hp} {e c : Expr} {es : List Expr} {st : Stmt} {rest body : List Stmt} {pos : Pos}
def DS (X : Cx) (S : Xs) (W : WX) (F0 H0 : Hp) (st : Stmt) (g : M Fl) : Prop := PS X st (rdS X.K S W F0 H0 g)
def DSs (X : Cx) (S : Xs) (W : WX) (F0 H0 : Hp) (st : List Stmt) (g : M Fl) : Prop := PSs X st (rdS X.K S W F0 H0 g)
theorem PS.imp {t t' : TS} (h : PS X st t) (q : ∀ D σ H, t' D σ H → t D σ H) : PS X st t' := ⟨fun pins s σ H D I hw => h.run pins s σ H D I (q D σ H hw)⟩
theorem PSs.imp {t t' : TS} (h : PSs X rest t) (q : ∀ D σ H, t' D σ H → t D σ H) : PSs X rest t' := ⟨fun pins s σ H D I hw => h.run pins s σ H D I (q D σ H hw)⟩
def mNx : M Fl := fun env => .ok .nx env
def mSeq (g h : M Fl) : M Fl := fun env => match g env with
  | .ok .nx env' => h env'
  | r => r
theorem dss_nil : DSs X S W F0 H0 [] mNx := PSs.imp pss_nil fun D σ H ⟨F, env, b, rel, q⟩ => q σ F H (Ex.refl _) b rel
theorem dss_one {g : M Fl} (h : DS X S W F0 H0 st g) : DSs X S W F0 H0 [st] g := pss_one h
theorem dss_cons {g h : M Fl} (h1 : DS X S W F0 H0 st g) (h2 : DSs X S W F0 H0 rest h) : DSs X S W F0 H0 (st :: rest) (mSeq g h) := PSs.imp (pss_cons h1 h2) fun D σ H ⟨F, env, b, rel, q⟩ => by
  refine ⟨F, env, b, rel, ?_⟩
  unfold mSeq at q
  cases hg : g env with
  | bad => rw [hg] at q; exact q
  | ex c x e => rw [hg] at q; exact q
  | ok f e =>
    rw [hg] at q
    cases f with
    | nx => exact fun σ' F' H' e' b' rel' => ⟨F', e, b', rel', okS.shift e' q⟩
    | rt d => exact q
    | bk => exact q
    | ct => exact q
/-! ### name = value -/
def slOf : Sv → Sl
  | .d x => .fr x
  | .l ds => .ow ds
  | .k ks ds => .od ks ds
def mSet (i : Nat) (f : M Sv) : M Fl := fun env => (f env).bind fun sv env => .ok .nx (env.set i (slOf sv))
theorem rdS_set {i : Nat} {f : M Sv} {D : Ends} {σ : L2.St} {H : Hp} (h : rdS X.K S W F0 H0 (mSet i f) D σ H) : rd X.K S W (TV X.K) f σ H fun v H' => D.nx (σ.set i (some v)) H' := by
  obtain ⟨F, env, b, rel, q⟩ := h
  refine ⟨F, env, rel, okS.ex_bind b q fun sv env' v F' H' hr g b' rel' rv q => ?_⟩
  have q : ∀ σ F H, Ex F' F → Bd F0 H0 F H σ (env'.set i (slOf sv)) → Rel X.K F H σ (env'.set i (slOf sv)) → D.nx σ H := q
  have rv : RV X.K H F' H' sv v := rv
  have fresh : ∀ p, H p = none → ¬ Owned σ env' p := fun p hp z => (rel.owned (g.own p z)).2 hp
  have other : ∀ (j : Nat) (t : Sl) a, H a = none → env'[j]? = some t → t.own = true → σ[j]? ≠ some (some (.ref a)) := fun j t a ha e1 e2 e3 => fresh a ha ⟨j, t, e1, e2, e3⟩
  have bd : Rel X.K F' H' (σ.set i (some v)) (env'.set i (slOf sv)) → (∀ a, Owned (σ.set i (some v)) (env'.set i (slOf sv)) a → H0 a = none) → D.nx (σ.set i (some v)) H' := fun r o => q _ F' H' (Ex.refl _) ⟨b'.f, b'.h, b'.keep, o⟩ r
  have hfr : ∀ p, H p = none → H0 p = none := fun p hp => by
    cases z : H0 p with
    | none => rfl
    | some o => rw [b.h p o z] at hp; cases hp
  have own : ∀ {s : Sl} {p : Addr}, H p = none → v = .ref p → ∀ a, Owned (σ.set i (some v)) (env'.set i s) a → H0 a = none := fun {s p} hp hv a ⟨j, t, e1, e2, e3⟩ => by
    by_cases hj : i = j
    · subst hj
      have hi : i < env'.length := by
        have := (List.getElem?_eq_some_iff.mp e1).1
        simpa using this
      rw [List.getElem?_set_self (by rw [← rel'.len]; exact hi)] at e3
      rw [hv] at e3
      cases e3
      exact hfr _ hp
    · rw [List.getElem?_set_ne hj] at e1 e3
      exact b'.own a ⟨j, t, e1, e2, e3⟩
  cases sv with
  | d x => exact bd (rel'.set (o := some v) ⟨v, rfl, rv⟩ fun _ z => nomatch z) fun a z => b'.own a (owned_set rfl z)
  | l ds =>
    obtain ⟨p, vs, e1, hb, n, z, r⟩ := rv
    refine bd (rel'.set (o := some v) ⟨p, vs, by rw [e1], n, z, r⟩ fun a _ ha j t _ e2 e3 => ?_) (own hb e1)
    rw [e1] at ha; cases ha
    exact other j t _ hb e2 e3
  | k ks ds =>
    obtain ⟨p, vs, e1, hb, n, z, y, r⟩ := rv
    refine bd (rel'.set (o := some v) ⟨p, vs, by rw [e1], n, z, y, r⟩ fun a _ ha j t _ e2 e3 => ?_) (own hb e1)
    rw [e1] at ha; cases ha
    exact other j t _ hb e2 e3
theorem ds_set {i : Nat} {x : Str} {pos' : Pos} {f : M Sv} (hN : X.N.Nodup) (hi : X.N[i]? = some x) (hx : Loc X.env.scope x) (he : PD X S W e f) (hs : swapsWith e (some (.Name x pos')) pos.line X.env = pure false := by rfl) (hf : X.fn x = true ∨ X.env.scope.names.lookup x = some .local := by first | exact .inl rfl | exact .inr rfl | assumption) :
    DS X S W F0 H0 (.Assign [.Name x pos'] e pos) (mSet i f) := PS.imp (ps_set hN hi hx he hs hf) fun D σ H h => rdS_set h
/-- x = [.. for ..] -/
theorem ds_setLc {i : Nat} {y : Str} {py spos : Pos} {elt tg iter : Expr} {ifs : List Expr} {scope : Scope} {own : List (Str × Nat)} {js : List Nat} {γ : D → En → Option En} {src : M (List D)} {cond : M Bool} {fe : M D} (hc : X.calm = true) (hN : X.N.Nodup) (hy : X.N[i]? = some y) (hyl : X.env.scope.names.lookup y = some .local)
    (hsw : swapsWith (.ListComp elt [⟨tg, iter, ifs, 0⟩] scope pos) (some (.Name y py)) spos.line X.env = pure true) (hi : PY X S W tg iter src) (ok : BlkOk X.N X.env.scope scope own) (hj : ∀ i ∈ js, i ∈ own.map (·.2))
    (hg : ∀ (s : Shared) (H : Hp) (C : Addr) (cl : List (Str × Addr)) (fp : List Addr), PGd (X.blk s H scope (compEnvC scope cl C X.env) fp) tg js γ)
    (ht : ∀ (s : Shared) (H : Hp) (C : Addr) (cl : List (Str × Addr)) (fp : List Addr), PTs (X.blk s H scope (compEnvC scope cl C X.env) fp) ifs (rd X.K S W0 TB cond))
    (he : ∀ (s : Shared) (H : Hp) (C : Addr) (cl : List (Str × Addr)) (fp : List Addr), PF (X.blk s H scope (compEnvC scope cl C X.env) fp) S W0 elt fe) (hs : ∀ x, foldedSetIterable iter X.env x = pure x := by intro _; rfl) :
    DS X S W F0 H0 (.Assign [.Name y py] (.ListComp elt [⟨tg, iter, ifs, 0⟩] scope pos) spos) (mSet i (mLc (own.map (·.2)) γ src cond fe)) :=
  PS.imp (ps_setLc (g := rG X.K js γ) (tt := rd X.K S W0 TB cond) (te := rd X.K S W0 (TF X.K) fe) hc hN hy hyl hsw hi ok hg ht he hs) fun D σ H h => rd_lc hj (fun _ _ _ h => h) (fun _ _ _ _ h => h) (fun _ _ _ h => h) (fun _ _ _ h => h) (rdS_set h)
/-- a, b = value -/
def mAsg (γ : D → En → Option En) (f : M D) : M Fl := fun env => (f env).bind fun d env => match γ d env with
  | some env' => .ok .nx env'
  | none => .bad
theorem ds_asg {tg : Expr} {js : List Nat} {γ : D → En → Option En} {f : M D} (he : PF X S W e f) (hg : PGd X tg js γ) (hs : swapsWithSole [tg] e pos.line X.env = pure false := by rfl) (hw : swappedStores [tg] e X.env = pure none := by rfl)
    (h1 : (assignEach [tg] X.env).map (·.2) = [assign tg X.env] := by rfl) : DS X S W F0 H0 (.Assign [tg] e pos) (mAsg γ f) := PS.imp (ps_asg he hg hs hw h1) fun D σ H ⟨F, env, b, rel, q⟩ => by
  refine ⟨F, env, rel, okS.ex_bind b q fun d env' v F' H' hr g b' rel' rv q => ?_⟩
  cases hγ : γ d env' with
  | none => rw [hγ] at q; exact q.elim
  | some env2 =>
    rw [hγ] at q
    exact ⟨F', env', d, rel', rv, env2, hγ, fun σ' rel2 o2 l2 k2 => q σ' F' H' (Ex.refl _) ⟨b'.f, b'.h, b'.keep, fun a z => b'.own a (o2 a z)⟩ rel2⟩
/-! ### return, if, an expression alone -/
def mRet (f : M D) : M Fl := fun env => (f env).bind fun d env => .ok (.rt d) env
theorem ds_ret {f : M D} (he : PF X S W e f) : DS X S W F0 H0 (.Return (some e) pos) (mRet f) := PS.imp (ps_ret he) fun D σ H ⟨F, env, b, rel, q⟩ => by
  refine ⟨F, env, rel, okS.ex_bind b q fun d env' v F' H' hr g b' rel' rv q => ?_⟩
  exact q v F' H' ⟨b'.f, b'.h, rel'.ex, b'.keep⟩ rv
def mRetN : M Fl := fun env => .ok (.rt .non) env
theorem ds_retN : DS X S W F0 H0 (.Return none pos) mRetN := PS.imp ps_retN fun D σ H ⟨F, env, b, rel, q⟩ => q .non F H ⟨b.f, b.h, rel.ex, b.keep⟩ (by simp only [R])
def mDrop (f : M Sv) : M Fl := fun env => (f env).bind fun _ env => .ok .nx env
theorem ds_expr {f : M Sv} (he : PD X S W e f) (hs : swapsWith e none pos.line X.env = pure false := by rfl) : DS X S W F0 H0 (.Expr e pos) (mDrop f) := PS.imp (ps_expr he hs) fun D σ H ⟨F, env, b, rel, q⟩ => by
  refine ⟨F, env, rel, okS.ex_bind b q fun sv env' v F' H' hr g b' rel' rv q => ?_⟩
  exact q σ F' H' (Ex.refl _) b' rel'
def mIfS (f : M Bool) (g h : M Fl) : M Fl := fun env => (f env).bind fun b env => if b = true then g env else h env
theorem ds_if {f : M Bool} {g h : M Fl} {ss tt : List Stmt} (hc : PB X S W c f) (ha : DSs X S W F0 H0 ss g) (hb : DSs X S W F0 H0 tt h) : DS X S W F0 H0 (.If c ss tt pos) (mIfS f g h) := PS.imp (ps_if hc ha hb) fun D σ H ⟨F, env, b, rel, q⟩ => by
  refine ⟨F, env, rel, okS.ex_bind b q fun k env' v F' H' hr g b' rel' rv q => ?_⟩
  have rv : k = v := rv
  subst rv
  cases k with
  | true => exact ⟨F', env', b', rel', q⟩
  | false => exact ⟨F', env', b', rel', q⟩
theorem ds_break : DS X S W F0 H0 (.Break pos) (fun env => .ok .bk env) := PS.imp ps_break fun D σ H ⟨F, env, b, rel, q⟩ => q σ F H (Ex.refl _) b rel
theorem ds_continue : DS X S W F0 H0 (.Continue pos) (fun env => .ok .ct env) := PS.imp ps_continue fun D σ H ⟨F, env, b, rel, q⟩ => q σ F H (Ex.refl _) b rel
theorem ds_pass : DS X S W F0 H0 (.Pass pos) mNx := PS.imp ps_pass fun D σ H ⟨F, env, b, rel, q⟩ => q σ F H (Ex.refl _) b rel
theorem ds_doc {x : Str} {j : Nat} {pos' : Pos} : DS X S W F0 H0 (.Expr (.Constant (.str x) j pos) pos') mNx := PS.imp ps_doc fun D σ H ⟨F, env, b, rel, q⟩ => q σ F H (Ex.refl _) b rel

/-! ### for -/
def forL (γ : D → En → Option En) (g : M Fl) : List D → M Fl
  | [], env => .ok .nx env
  | x :: xs, env => match γ x env with
    | none => .bad
    | some env1 => match g env1 with
      | .ok .nx env2 => forL γ g xs env2
      | .ok .ct env2 => forL γ g xs env2
      | .ok .bk env2 => .ok .nx env2
      | r => r
def mFor (γ : D → En → Option En) (src : M (List D)) (g : M Fl) : M Fl := fun env => (src env).bind fun items env => forL γ g items env
theorem ds_for {tg iter : Expr} {js : List Nat} {γ : D → En → Option En} {src : M (List D)} {g : M Fl} (hp : PassesOwn (model X.prog X.w) X.A X.env X.xe) (hc : X.calm = true) (hi : PY X S W tg iter src) (hg : PGd X tg js γ) (hb : DSs X S W F0 H0 body g)
    (hs : ∀ x, foldedSetIterable iter X.env x = pure x := by intro _; rfl) : DS X S W F0 H0 (.For tg iter body [] pos) (mFor γ src g) := PS.imp (ps_for hp hc hi hg hb hs) fun D σ H ⟨F, env, b, rel, q⟩ => by
  refine ⟨F, env, rel, okS.ex_bind b q fun items env1 J F1 H1 hr gr b1 rel1 yl q => ?_⟩
  have yl : Yl X.K F1 items J := yl
  refine ⟨fun i m σ H => m = items.length - i ∧ i ≤ items.length ∧ ∃ F env, Ex F1 F ∧ Bd F0 H0 F H σ env ∧ Rel X.K F H σ env ∧ okS X.K S W F0 H0 F D (forL γ g (items.drop i) env), ⟨items.length, by simp, Nat.zero_le _, F1, env1, Ex.refl _, b1, rel1, q⟩, ?_⟩
  rintro i m σ' H' ⟨rfl, hi', F', env', x1, b', rel', q'⟩
  by_cases hlt : i < items.length
  · refine .inr ?_
    have hget : items[i]? = some items[i] := List.getElem?_eq_getElem hlt
    obtain ⟨hgo, hy⟩ := (yl i F' H' x1 rel'.ex).1 _ hget
    rw [List.drop_eq_getElem_cons hlt] at q'
    unfold forL at q'
    refine ⟨hgo, fun σ H => i + 1 ≤ items.length ∧ ∃ F env, Ex F1 F ∧ Bd F0 H0 F H σ env ∧ Rel X.K F H σ env ∧ okS X.K S W F0 H0 F D (forL γ g (items.drop (i + 1)) env), fun σ2 H2 h => ⟨items.length - (i + 1), by omega, rfl, h⟩, fun x H2 y => ?_⟩
    obtain ⟨F'', nw, rx⟩ := hy x H2 y
    obtain ⟨gw, rel'⟩ := nw.gr rel'
    have x1 := x1.trans nw.f
    have b' : Bd F0 H0 F'' H2 σ' env' := b'.gr gw
    have q' := okS.shift nw.f q'
    cases hγ : γ items[i] env' with
    | none => rw [hγ] at q'; exact q'.elim
    | some envx =>
      rw [hγ] at q'
      dsimp only at q'
      refine ⟨F'', env', items[i], rel', rx, envx, hγ, fun σ2 rel2 o2 l2 k2 => ?_⟩
      have b2 : Bd F0 H0 F'' H2 σ2 envx := ⟨b'.f, b'.h, b'.keep, fun a z => b'.own a (o2 a z)⟩
      refine ⟨F'', envx, b2, rel2, ?_⟩
      cases hg : g envx with
      | bad => rw [hg] at q'; exact q'
      | ex c x e => rw [hg] at q'; exact q'
      | ok f e =>
        rw [hg] at q'
        cases f with
        | nx => exact fun σ3 F3 H3 e3 b3 r3 => ⟨hlt, F3, e, x1.trans e3, b3, r3, okS.shift e3 q'⟩
        | ct => exact fun σ3 F3 H3 e3 b3 r3 => ⟨hlt, F3, e, x1.trans e3, b3, r3, okS.shift e3 q'⟩
        | bk => exact q'
        | rt d => exact q'
  · have e : i = items.length := by omega
    subst e
    rw [List.drop_length] at q'
    exact .inl ⟨(yl _ F' H' x1 rel'.ex).2 rfl, q' σ' F' H' (Ex.refl _) b' rel'⟩

/-! ### while -/
def whN (f : M Bool) (g : M Fl) : Nat → M Fl
  | 0, _ => .bad
  | n + 1, env => match f env with
    | .ok true env1 => match g env1 with
      | .ok .nx env2 => whN f g n env2
      | .ok .ct env2 => whN f g n env2
      | .ok .bk env2 => .ok .nx env2
      | r => r
    | .ok false env1 => .ok .nx env1
    | .ex c x e => .ex c x e
    | .bad => .bad
open Classical in
/-- as many turns as it takes -/
noncomputable def mWh (f : M Bool) (g : M Fl) : M Fl := fun env => if h : ∃ n, whN f g n env ≠ .bad then whN f g (Classical.choose h) env else .bad
theorem whN_mono {f : M Bool} {g : M Fl} : ∀ {n m : Nat} {env : En}, n ≤ m → whN f g n env ≠ .bad → whN f g m env = whN f g n env
  | 0, _, _, _, h => absurd rfl h
  | n + 1, 0, _, hl, _ => absurd hl (by omega)
  | n + 1, m + 1, env, hl, h => by
    unfold whN at h ⊢
    cases hf : f env with
    | bad => rfl
    | ex c x e => rfl
    | ok b e =>
      cases b with
      | false => rfl
      | true =>
        rw [hf] at h
        dsimp only at h ⊢
        cases hg : g e with
        | bad => rfl
        | ex c x e => rfl
        | ok r e2 =>
          rw [hg] at h
          cases r with
          | nx => exact whN_mono (by omega) h
          | ct => exact whN_mono (by omega) h
          | bk => rfl
          | rt d => rfl
theorem mWh_eq {f : M Bool} {g : M Fl} {n : Nat} {env : En} {r : Res Fl} (h : whN f g n env = r) (hb : r ≠ .bad) : mWh f g env = r := by
  have hx : ∃ n, whN f g n env ≠ .bad := ⟨n, by rw [h]; exact hb⟩
  unfold mWh
  rw [dif_pos hx]
  have hc := Classical.choose_spec hx
  rcases Nat.le_total n (Classical.choose hx) with hl | hl
  · rw [whN_mono hl (by rw [h]; exact hb), h]
  · rw [← whN_mono hl hc, h]
theorem ds_while {f : M Bool} {g : M Fl} (hp : PassesOwn (model X.prog X.w) X.A X.env X.xe) (hc : PB X S W c f) (hb : DSs X S W F0 H0 body g) : DS X S W F0 H0 (.While c body [] pos) (mWh f g) := PS.imp (ps_while hp hc hb) fun D σ H ⟨F, env, b, rel, q⟩ => by
  have key : ∃ n, okS X.K S W F0 H0 F D (whN f g n env) := by
    unfold mWh at q
    split at q
    · exact ⟨_, q⟩
    · exact q.elim
  obtain ⟨n, q⟩ := key
  refine ⟨fun m σ H => ∃ F env, Bd F0 H0 F H σ env ∧ Rel X.K F H σ env ∧ okS X.K S W F0 H0 F D (whN f g m env), ⟨n, F, env, b, rel, q⟩, ?_⟩
  rintro m σ' H' ⟨F', env', b', rel', q'⟩
  cases m with
  | zero => exact q'.elim
  | succ m =>
    unfold whN at q'
    refine ⟨F', env', rel', ?_⟩
    cases hf : f env' with
    | bad => rw [hf] at q'; exact q'
    | ex c x e => rw [hf] at q'; exact fun a F2 H2 g2 r2 t => q' a σ' F2 H2 g2.f (b'.gr g2) r2 t
    | ok k e =>
      rw [hf] at q'
      intro v F2 H2 g2 rel2 ev
      have ev : k = v := ev
      subst ev
      cases k with
      | false => exact q' σ' F2 H2 g2.f (b'.gr g2) rel2
      | true =>
        dsimp only at q'
        rw [if_pos rfl]
        refine ⟨fun σ H => ∃ m', m' < m + 1 ∧ ∃ F env, Bd F0 H0 F H σ env ∧ Rel X.K F H σ env ∧ okS X.K S W F0 H0 F D (whN f g m' env), fun σ H h => h, F2, e, b'.gr g2, rel2, ?_⟩
        have q' := okS.shift g2.f q'
        cases hg : g e with
        | bad => rw [hg] at q'; exact q'
        | ex c x e => rw [hg] at q'; exact q'
        | ok r e2 =>
          rw [hg] at q'
          cases r with
          | nx => exact fun σ3 F3 H3 e3 b3 r3 => ⟨m, Nat.lt_succ_self m, F3, e2, b3, r3, okS.shift e3 q'⟩
          | ct => exact fun σ3 F3 H3 e3 b3 r3 => ⟨m, Nat.lt_succ_self m, F3, e2, b3, r3, okS.shift e3 q'⟩
          | bk => exact q'
          | rt d => exact q'
end
end Iv

set_option Elab.async false
set_option linter.all false
set_option maxRecDepth 100000
/-! Whole defs; lists of a def's own; great divisions; the law's end. -/
namespace Iv
open PySem PySem.Spec PyProof.Rows L2 Evl

section
variable {X : Cx} {S : Xs} {W : WX} {F0 H0 : Hp} {e c : Expr} {es : List Expr} {pos : Pos}
/-! ### lists of one's own -/
theorem Owned.at_ {K : PySem.W.Frag} {F H F1 H1 : Hp} {σ : L2.St} {env env1 : En} {i : Nat} {l : List D} (rel1 : Rel K F1 H1 σ env1) (rel : Rel K F H σ env) (g : Gr σ env F H env1 F1 H1) (h : env1[i]? = some (.ow l)) :
    ∃ p vs, σ[i]? = some (some (.ref p)) ∧ F1 p = none ∧ H p = some (.lst vs) ∧ H1 p = some (.lst vs) ∧ Rs K F1 l vs := by
  obtain ⟨o, q1, p, vs, q2, n, q3, r⟩ := rel1.at_ i _ h
  subst q2
  have ow := rel.owned (g.own p ⟨i, _, h, rfl, q1⟩)
  refine ⟨p, vs, q1, n, ?_, q3, r⟩
  cases z : H p with
  | none => exact absurd z ow.2
  | some o =>
    have := g.h p o z
    rw [q3] at this
    cases this
    rfl
/-- an own list changes -/
theorem Rel.put {K : PySem.W.Frag} {F H : Hp} {σ : L2.St} {env : En} {i : Nat} {l l' : List D} {vs' : List V} {p : Addr} (rel : Rel K F H σ env) (h : env[i]? = some (.ow l)) (hs : σ[i]? = some (some (.ref p))) (n : F p = none) (r : Rs K F l' vs') :
    Rel K F (upd H p (.lst vs')) σ (env.set i (.ow l')) ∧ ∀ a, Owned σ (env.set i (.ow l')) a → Owned σ env a := by
  have hi : i < env.length := (List.getElem?_eq_some_iff.mp h).1
  have back : ∀ {j : Nat} {t : Sl}, (env.set i (.ow l'))[j]? = some t → t.own = true → ∃ t', env[j]? = some t' ∧ t'.own = true ∧ (j ≠ i → t' = t) := fun {j t} e o => by
    by_cases hj : i = j
    · subst hj; exact ⟨_, h, rfl, fun z => absurd rfl z⟩
    · rw [List.getElem?_set_ne hj] at e; exact ⟨t, e, o, fun _ => rfl⟩
  refine ⟨⟨by rw [List.length_set]; exact rel.len, fun a u q => ?_, fun j t e => ?_, fun a b s t c e1 e2 o1 o2 v1 v2 => ?_⟩, fun a ⟨j, t, e, o, v⟩ => ?_⟩
  · rw [upd_ne (fun z => by rw [z, n] at q; cases q)]; exact rel.ex a u q
  · by_cases hj : i = j
    · subst hj
      rw [List.getElem?_set_self hi] at e
      cases e
      exact ⟨_, hs, p, vs', rfl, n, upd_same, r⟩
    · rw [List.getElem?_set_ne hj] at e
      obtain ⟨o, q1, q2⟩ := rel.at_ j t e
      refine ⟨o, q1, ?_⟩
      have ne : ∀ a, t.own = true → o = some (.ref a) → a ≠ p := fun a ho hv z => by
        subst z
        exact hj (rel.dis i j _ t a h e rfl ho hs (by rw [q1, hv]))
      cases t with
      | un => trivial
      | xo a => exact q2
      | fr d => exact q2
      | ow l0 => obtain ⟨p', ws, z1, z2, z3, z4⟩ := q2; exact ⟨p', ws, z1, z2, by rw [upd_ne (ne p' rfl z1)]; exact z3, z4⟩
      | od ks ds => obtain ⟨p', ws, z1, z2, z3, z4⟩ := q2; exact ⟨p', ws, z1, z2, by rw [upd_ne (ne p' rfl z1)]; exact z3, z4⟩
  · obtain ⟨s', e1', o1', _⟩ := back e1 o1
    obtain ⟨t', e2', o2', _⟩ := back e2 o2
    exact rel.dis a b s' t' c e1' e2' o1' o2' v1 v2
  · obtain ⟨t', e', o', _⟩ := back e o
    exact ⟨j, t', e', o', v⟩
theorem Bd.put {F H : Hp} {σ : L2.St} {env env' : En} {p : Addr} {o : HO} (b : Bd F0 H0 F H σ env) (hp : Owned σ env p) (h : ∀ a, Owned σ env' a → Owned σ env a) : Bd F0 H0 F (upd H p o) σ env' :=
  ⟨b.f, Ex.mut b.h (b.own p hp), b.keep, fun a z => b.own a (h a z)⟩
/-- the list that slot i owns -/
def owAt (env : En) (i : Nat) : Option (List D) := match env[i]? with
  | some (.ow l) => some l
  | _ => none
theorem owAt_eq {env : En} {i : Nat} {l : List D} (h : owAt env i = some l) : env[i]? = some (.ow l) := by
  unfold owAt at h
  split at h
  · rename_i l' e
    cases h
    exact e
  · cases h
/-- x.append(e) -/
def mApp (i : Nat) (f : M D) : M Fl := fun env => match owAt env i with
  | some _ => (f env).bind fun d env => match owAt env i with
    | some l => if l.length < 90000 then .ok .nx (env.set i (.ow (l ++ [d]))) else .bad
    | none => .bad
  | none => .bad
theorem ds_app {i : Nat} {f : M D} {st : Stmt} (h : PS X st (tDrop (tBM X.K "list" rAppend (tVar i) (tCons (rd X.K S W (TF X.K) f) tNil)))) : DS X S W F0 H0 st (mApp i f) :=
  PS.imp h fun D σ H ⟨F, env, b, rel, q⟩ => by
  unfold mApp at q
  cases h0 : owAt env i with
  | none => rw [h0] at q; exact q.elim
  | some l0 =>
    rw [h0] at q
    obtain ⟨p, vs, e1, n1, h1, h2, r1⟩ := Owned.at_ rel rel Gr.refl (owAt_eq h0)
    refine ⟨.ref p, e1, .inl ⟨rfl, vs, sq_of h1⟩, F, env, rel, okS.ex_bind b q fun d env' v F' H' hr g b' rel' rv q => ?_⟩
    have rv : R X.K F' d v := rv
    cases h3 : owAt env' i with
    | none => rw [h3] at q; exact q.elim
    | some l =>
      rw [h3] at q
      obtain ⟨p', vs', k1, k2, k3, k4, k5⟩ := Owned.at_ rel' rel g (owAt_eq h3)
      rw [e1] at k1
      cases k1
      rw [h1] at k3
      cases k3
      dsimp only at q
      split at q
      · rename_i hl
        have hp := rel'.put (owAt_eq h3) e1 k2 (k5.append (Rs.cons rv Rs.nil))
        exact ⟨p, vs, v, rfl, rfl, k4, sz_lt (by rw [k5.length]; omega), q σ F' _ (Ex.refl _) (b'.put ⟨i, _, owAt_eq h3, rfl, e1⟩ hp.2) hp.1⟩
      · exact q.elim
/-- x[k] = e -/
def mPut (i : Nat) (ix f : M D) : M Fl := fun env => (f env).bind fun d env => match owAt env i with
  | some _ => (ix env).bind fun k env => match owAt env i, k with
    | some l, .int k => (match ixN l.length k with
      | some j => .ok .nx (env.set i (.ow (l.set j d)))
      | none => .bad)
    | _, _ => .bad
  | none => .bad
theorem ds_put {i : Nat} {ix f : M D} {st : Stmt} (h : PS X st (tAsg (rd X.K S W (TF X.K) f) (gSub (tVar i) (rd X.K S W (TP X.K) ix) rSetL))) : DS X S W F0 H0 st (mPut i ix f) :=
  PS.imp h fun D σ H ⟨F, env, b, rel, q⟩ => by
  refine ⟨F, env, rel, okS.ex_bind b q fun d env1 v F1 H1 hr g1 b1 rel1 rv q => ?_⟩
  have rv : R X.K F1 d v := rv
  cases h0 : owAt env1 i with
  | none => rw [h0] at q; exact q.elim
  | some l0 =>
    rw [h0] at q
    obtain ⟨p, vs, e1, n1, h1, h2, r1⟩ := Owned.at_ rel1 rel1 Gr.refl (owAt_eq h0)
    refine ⟨.ref p, e1, F1, env1, rel1, okS.ex_bind b1 q fun k env2 u F2 H2 hr2 g2 b2 rel2 ru q => ?_⟩
    have ru : RP X.K F2 H2 k u := ru
    cases h3 : owAt env2 i with
    | none => rw [h3] at q; exact q.elim
    | some l =>
      rw [h3] at q
      obtain ⟨p', vs', k1, k2, k3, k4, k5⟩ := Owned.at_ rel2 rel1 g2 (owAt_eq h3)
      rw [e1] at k1
      cases k1
      rw [h1] at k3
      cases k3
      cases k with
      | int k =>
        dsimp only at q
        cases hj : ixN l.length k with
        | none => rw [hj] at q; exact q.elim
        | some j =>
          rw [hj] at q
          have hp := rel2.put (owAt_eq h3) e1 k2 (Rs.set j (rv.mono g2.f) k5)
          exact ⟨p, vs, k, j, rfl, ru.int, k4, by rw [k5.length]; exact hj, q σ F2 _ (Ex.refl _) (b2.put ⟨i, _, owAt_eq h3, rfl, e1⟩ hp.2) hp.1⟩
      | _ => exact q.elim
/-! ### raise, of a class without an own __init__ -/
def mRaise (c : Nat) : M Fl := fun env => .ex c none env
theorem ds_raise {c : Nat} {C : Addr} {st : Stmt} (h : PS X st (fun _ σ H => W (.ref C) none σ H)) (hC : S.cls c = .ref C) : DS X S W F0 H0 st (mRaise c) := PS.imp h fun D σ H ⟨F, env, b, rel, q⟩ => by
  have q := q none σ F H (Ex.refl _) b rel rfl
  rw [hC] at q
  exact q

/-! ### a whole def -/
def stE (n : Nat) (ds : List D) : En := ds.map Sl.fr ++ List.replicate (n - ds.length) .un
/-- what the def yields -/
def runF (n : Nat) (g : M Fl) (ds : List D) : FR := match g (stE n ds) with
  | .ok (.rt d) _ => .ok d
  | .ok .nx _ => .ok .non
  | .ex c x _ => .ex c x
  | _ => .bad
theorem start_rel {K : PySem.W.Frag} {F H : Hp} {N : List Str} {ds : List D} {vs : List V} (e : Ex F H) (r : Rs K F ds vs) : Rel K F H (L2.start N vs) (stE N.length ds) where
  len := by unfold stE L2.start; rw [List.length_append, List.length_append, List.length_map, List.length_map, List.length_replicate, List.length_replicate, r.length]
  ex := e
  at_ := fun i s h => by
    unfold stE at h
    unfold L2.start
    by_cases hi : i < ds.length
    · rw [List.getElem?_append_left (by rw [List.length_map]; exact hi), List.getElem?_map] at h
      obtain ⟨d, h1, h2⟩ := Option.map_eq_some_iff.mp h
      subst h2
      obtain ⟨v, q1, q2⟩ := r.get' h1
      refine ⟨some v, ?_, v, rfl, q2⟩
      rw [List.getElem?_append_left (by rw [List.length_map, r.length]; exact hi), List.getElem?_map, q1]
      rfl
    · rw [List.getElem?_append_right (by rw [List.length_map]; omega), List.length_map] at h
      obtain ⟨h1, h2⟩ := List.getElem?_eq_some_iff.mp h
      rw [List.getElem_replicate] at h2
      subst h2
      rw [List.length_replicate] at h1
      refine ⟨none, ?_, True.intro⟩
      rw [List.getElem?_append_right (by rw [List.length_map, r.length]; omega), List.length_map, r.length]
      exact List.getElem?_eq_some_iff.mpr ⟨by rw [List.length_replicate]; exact h1, by rw [List.getElem_replicate]⟩
  dis := fun i j s t a h1 _ o1 _ _ _ => by
    exfalso
    unfold stE at h1
    by_cases hi : i < ds.length
    · rw [List.getElem?_append_left (by rw [List.length_map]; exact hi), List.getElem?_map] at h1
      obtain ⟨d, _, h2⟩ := Option.map_eq_some_iff.mp h1
      subst h2
      cases o1
    · rw [List.getElem?_append_right (by rw [List.length_map]; omega), List.length_map] at h1
      obtain ⟨_, h2⟩ := List.getElem?_eq_some_iff.mp h1
      rw [List.getElem_replicate] at h2
      subst h2
      cases o1
theorem start_own {N : Nat} {ds : List D} {σ : L2.St} {a : Addr} : ¬ Owned σ (stE N ds) a := fun ⟨i, s, h1, o1, _⟩ => by
  unfold stE at h1
  by_cases hi : i < ds.length
  · rw [List.getElem?_append_left (by rw [List.length_map]; exact hi), List.getElem?_map] at h1
    obtain ⟨d, _, h2⟩ := Option.map_eq_some_iff.mp h1
    subst h2
    cases o1
  · rw [List.getElem?_append_right (by rw [List.length_map]; omega), List.length_map] at h1
    obtain ⟨_, h2⟩ := List.getElem?_eq_some_iff.mp h1
    rw [List.getElem_replicate] at h2
    subst h2
    cases o1
/-- the def of the text st at f, found under the name x -/
structure Df (K : PySem.W.Frag) (mg : Str → Option Value) (x : Str) (st : Stmt) (ps : List Str) : Prop where
  ex : ∃ f fd, Fun K x x st f fd ∧ mg x = some (.ref f) ∧ Binds K fd ps []
/-- a def by its body, in the air that keeps an exception's context -/
theorem okN {P : Program} {w : World} {K : PySem.W.Frag} {mg : Str → Option Value} {base : Heap} {x : Str} {st : Stmt} {f : Addr} {fd : FuncData} {N ps : List Str} {k : Nat} {sp : Sp} (Fn : Fun K x x st f fd) (Sc : FnScope N ps (defScope st)) (hl : ∀ vs H Q E, sp vs H Q E → vs.length = ps.length)
    (hb : ∀ (cdv : Value) (A : Around) (outer : List PySem.Env) (s : Shared) (H : Hp) (vs : List V) (Q : VK) (E : XK), Room k (A.deeper (envOfC x (defScope st) s.heap.objs.size f cdv)) → sp vs H Q E →
      ∃ t, PSs (cxOf (L2N.CX P w) P w K mg base N x (defScope st) f cdv A outer s H E) (defBody st) t ∧ t { nx := fun _ H' => Q .non H', rt := Q } (L2.start N vs) H) : FnOk P w K mg base (L2N.CX P w) (k + 1) f fd ps sp := by
  obtain ⟨_, _, _, _, _, _, cdv, _, _, e, lk, hcd⟩ := Fn.ex
  subst e
  exact fn_of lk hcd Sc hl fun A outer s H vs Q E r z => hb cdv A outer s H vs Q E r z
theorem fn_body {P : Program} {w : World} {K : PySem.W.Frag} {mg : Str → Option Value} {base : Heap} {S : Xs} {k : Nat} {x : Str} {st : Stmt} {f : Addr} {fd : FuncData} {N ps : List Str} {g : M Fl} (Fn : Fun K x x st f fd) (Sc : FnScope N ps (defScope st))
    (hb : ∀ (cdv : Value) (A : Around) (outer : List PySem.Env) (s : Shared) (H : Hp) (E : XK) (F0 H0 : Hp), Room k (A.deeper (envOfC x (defScope st) s.heap.objs.size f cdv)) →
      L2N.Takes (cxOf (L2N.CX P w) P w K mg base N x (defScope st) f cdv A outer s H E) (fun cls d _ H => E cls d H) →
      PassesOwn (model P w) (cxOf (L2N.CX P w) P w K mg base N x (defScope st) f cdv A outer s H E).A (cxOf (L2N.CX P w) P w K mg base N x (defScope st) f cdv A outer s H E).env (cxOf (L2N.CX P w) P w K mg base N x (defScope st) f cdv A outer s H E).xe →
      DSs (cxOf (L2N.CX P w) P w K mg base N x (defScope st) f cdv A outer s H E) S (fun cls d _ H => E cls d H) F0 H0 (defBody st) g) : FnOk P w K mg base (L2N.CX P w) (k + 1) f fd ps (spF K S ps.length (runF N.length g)) := by
  refine okN Fn Sc (fun vs H Q E ⟨F, ds, _, r, hl, _⟩ => by rw [r.length]; exact hl) (fun cdv A outer s H vs Q E hr ⟨F, ds, ef, r, hl, q⟩ => ?_)
  refine ⟨_, hb cdv A outer s H E F H hr (L2N.takes_of rfl rfl rfl rfl) (passes_of rfl), F, stE N.length ds, ⟨Ex.refl _, Ex.refl _, fun _ _ h => h, fun a z => absurd z start_own⟩, start_rel ef r, ?_⟩
  have new : ∀ {F' H' σ env}, Bd F H F' H' σ env → Rel K F' H' σ env → New F H F' H' := fun b rel => ⟨b.f, b.h, rel.ex, b.keep⟩
  unfold runF at q
  cases hg : g (stE N.length ds) with
  | bad => rw [hg] at q; exact q
  | ex c x e => rw [hg] at q; exact fun a σ F' H' _ b rel t => q a F' H' (new b rel) t
  | ok r e =>
    rw [hg] at q
    cases r with
    | rt d => exact fun v F' H' n t => q v F' H' n t
    | nx => exact fun σ F' H' _ b rel => q .non F' H' (new b rel) (by simp only [R])
    | bk => exact q.elim
    | ct => exact q.elim
theorem cl_of {P : Program} {w : World} {K : PySem.W.Frag} {mg : Str → Option Value} {base : Heap} {S : Xs} {k : Nat} {x : Str} {st : Stmt} {N ps : List Str} {g : M Fl} (Fd : Df K mg x st ps) (Sc : FnScope N ps (defScope st))
    (hb : ∀ (f : Addr) (cdv : Value) (A : Around) (outer : List PySem.Env) (s : Shared) (H : Hp) (E : XK) (F0 H0 : Hp), Room k (A.deeper (envOfC x (defScope st) s.heap.objs.size f cdv)) →
      L2N.Takes (cxOf (L2N.CX P w) P w K mg base N x (defScope st) f cdv A outer s H E) (fun cls d _ H => E cls d H) →
      PassesOwn (model P w) (cxOf (L2N.CX P w) P w K mg base N x (defScope st) f cdv A outer s H E).A (cxOf (L2N.CX P w) P w K mg base N x (defScope st) f cdv A outer s H E).env (cxOf (L2N.CX P w) P w K mg base N x (defScope st) f cdv A outer s H E).xe →
      DSs (cxOf (L2N.CX P w) P w K mg base N x (defScope st) f cdv A outer s H E) S (fun cls d _ H => E cls d H) F0 H0 (defBody st) g) : Cl P w K mg base S (k + 1) x ps.length (runF N.length g) := by
  obtain ⟨f, fd, Fn, hm, bi⟩ := Fd.ex
  exact ⟨f, fd, ps, fn_body Fn Sc (hb f), hm, Fn.kp, bi⟩
/-- no promise at all -/
theorem cl_bad {P : Program} {w : World} {K : PySem.W.Frag} {mg : Str → Option Value} {base : Heap} {S : Xs} {k n : Nat} {x : Str} {st : Stmt} {ps : List Str} (Fd : Df K mg x st ps) : Cl P w K mg base S k x n (fun _ => .bad) := by
  obtain ⟨f, fd, Fn, hm, bi⟩ := Fd.ex
  exact ⟨f, fd, ps, ⟨fun vs H Q E ⟨_, _, _, _, _, q⟩ => q.elim, fun _ _ _ _ _ _ _ _ _ _ _ _ _ ⟨_, _, _, _, _, q⟩ => q.elim⟩, hm, Fn.kp, bi⟩

/-! ### great divisions -/
structure Big (X : Cx) : Prop where
  seer : X.base.NoSeer
  tree : X.prog.given.tree = none
  top : ∃ env l, X.stack = env :: l ∧ env.scope.isGenerator = false ∧ env.scope.isCoroutine = false ∧ env.builtins = builtinsNs ∧ env.globals = mainGlobals
theorem op_divA (B : Big X) (hr : Room 40 X.A) : OpR X (binaryOp .FloorDiv) (rI (fun _ j => j ≠ 0) fun i j => .int (i.fdiv j)) := fun pins s σ H x y v u Q I rx ry h => by
  obtain ⟨i, j, rfl, rfl, hc, q⟩ := h
  obtain ⟨t, rfl⟩ := rx
  obtain ⟨t', rfl⟩ := ry
  obtain ⟨env, l, e1, e2, e3, e4, e5⟩ := B.top
  have room : PySem.PylongRoom (model X.prog X.w) X.A s := PySem.PylongRoom.of I.nolimit (by have := hr.dp; show _ + 100 < _; omega)
    (PySem.SeerAt.of (B.seer.keeps I.bk) B.tree (by rw [I.ok.frames, e1]) e2 e3 e4 e5)
  exact floordiv_int hc ⟨.int _, H, I.tok _, ⟨_, rfl⟩, q⟩ (.inr room)
def oDiv : D → D → Option Sv := oI nz fun i j => i.fdiv j
theorem os_div {K : PySem.W.Frag} : OpS K (rI (fun _ j => j ≠ 0) fun i j => .int (i.fdiv j)) oDiv := op_I fun _ _ h => of_decide_eq_true h
end
end Iv

set_option Elab.async false
set_option linter.all false
set_option maxRecDepth 100000
/-! The law's end: its def yields True for every script. -/
namespace Iv
open PySem PySem.Spec PyProof.Rows L2 Evl

/-- what stays of a namespace when lists are out of sight -/
theorem ns_hid {h : Heap} {H : Hp} {b : Addr} {m : Str → Option Value} (no : ∀ c o, h.get? c = some o → (∃ es ep, o.data = .dict es ep) → H c = none) (n : h.Ns b m) : (hidT h H).Ns b m := by
  obtain ⟨o, es, ep, e, d, r⟩ := n
  exact ⟨o, es, ep, hidT_get e (no b o e ⟨es, ep, d⟩), d, r⟩
theorem seer_hid {h : Heap} {H : Hp} (no : ∀ c o, h.get? c = some o → (∃ es ep, o.data = .dict es ep) → H c = none) (nm : ∀ c o, h.get? c = some o → o.cls = .type "module" → H c = none) (n : h.NoSeer) : (hidT h H).NoSeer where
  statics := by
    obtain ⟨mc, a, b⟩ := n.statics
    exact ⟨mc, ns_hid no a, b⟩
  mods := by
    obtain ⟨mc, a, b⟩ := n.mods
    exact ⟨mc, ns_hid no a, b⟩
  imp := by
    obtain ⟨mc, a, b⟩ := n.imp
    exact ⟨mc, ns_hid no a, b⟩
  main := by
    obtain ⟨mg, bm, ob, a, b, c, d, e⟩ := n.main
    exact ⟨mg, bm, ob, ns_hid no a, b, hidT_get c (nm bm ob c d), d, e⟩
/-- the law's def as promised over every ground -/
def LawOk (P : Program) (w : World) (K : PySem.W.Frag) (mg : Str → Option Value) (S : Xs) (k : Nat) (fa : Addr) (fd : FuncData) (x : Str) (fn : List D → FR) : Prop :=
  ∀ base : Heap, K.In base → base.Ns mainGlobals mg → base.NoSeer → FnOk P w K mg base (L2N.CX P w) k fa fd [x] (spF K S 1 fn)
section
variable {P : Program} {w : World} {K : PySem.W.Frag} {mg mb : Str → Option Value} {S : Xs} {k : Nat} {fa a : Addr} {fd : FuncData} {x : Str} {fn : List D → FR} {s₁ : Shared} {vs : List Value} {ns : List Int}
abbrev Post (P : Program) (w : World) (s₁ : Shared) : Result → Shared → Prop := fun r s' => r = .ok (.ret (.bool true)) ∧ OldK s₁.heap s'.heap ∧ s'.os = s₁.os ∧ AllBare s'.gens
/-- from an abstract heap that knows the script alone -/
theorem end_at (H : Hp) (hok : HOk P w H s₁.heap) (hS : SqL K H a (ns.map V.int)) (only : ∀ b, H b = none ∨ ∃ o ys, H b = some (.frz o (.lst ys))) (no : ∀ b o, s₁.heap.get? b = some o → o.cls ≠ .type "list" → H b = none) (nk : ∀ b o, K.lookup b = some o → H b = none)
    (KX : K.In s₁.heap) (g : s₁.heap.Ns mainGlobals mg) (b : s₁.heap.Ns builtinsNs mb) (bb : ∀ y : Str, y ≠ "__name__" → mb y = bootBuiltins y) (lim : s₁.heap.NoLimit) (see : s₁.heap.NoSeer) (gen : s₁.gens = #[])
    (dl : ∀ c o, s₁.heap.get? c = some o → (∃ es ep, o.data = .dict es ep) → H c = none)
    (hr : Room k callerA) (F : LawOk P w K mg S k fa fd x fn) (hb : ∀ (s : Shared) (u : Value), BindsTo s fd ⟨[u], []⟩ [(x, u)]) (hf : fn [.scr ns] = .ok (.bl true)) :
    codeAny (model P w) callerA (.call (.ref fa) ⟨[.ref a], []⟩) (Post P w s₁) s₁ := by
  have kin : K.In (hidT s₁.heap H) := fun c o e => hidT_get (KX c o e) (nk c o e)
  have gl := ns_hid dl g
  have sn : (hidT s₁.heap H).NoSeer := seer_hid dl (fun c o e q => no c o e (by rw [q]; decide)) see
  obtain ⟨mc, l1, l2⟩ := lim
  have ground : Mod K mg (hidT s₁.heap H) := ⟨kin, gl, ⟨mb, ns_hid dl b, bb⟩, ⟨mc, ns_hid dl l1, l2⟩⟩
  have e0 : Env0 P w K mg (hidT s₁.heap H) callerA [] s₁ H :=
    { frames := rfl, mod := ground, bs := fun c o e => of_hidT e, bsz := Nat.le_of_eq (hidT_size _ _), funs := trivial
      frf := fun c hc => absurd hc (by simp [frs]), hok := hok, bare := .of_eq gen }
  have sp : spF K S 1 fn [.ref a] H (fun v _ => v = .bl true) (fun _ _ _ => False) := by
    refine ⟨H, [.scr ns], Ex.refl _, Rs.cons (by simp only [R]; exact ⟨a, rfl, hS⟩) Rs.nil, rfl, ?_⟩
    rw [hf]
    intro v F' H' _ r
    simpa only [R] using r
  have run := (F _ kin gl sn).run callerA [] s₁ H ⟨[.ref a], []⟩ [.ref a] [.ref a] _ _ hr e0 (hb s₁ (.ref a)) (.cons rfl .nil) sp
  refine codeAny_mono run fun r s' q => ?_
  match r, q with
  | .error e, q => 
    obtain ⟨_, _, _, _, _, _, _, _, _, _, _, _, z⟩ := (show L2N.CX P w [] H s₁ (fun _ _ _ => False) e s' from q)
    exact z.elim
  | .ok .next, q => exact False.elim q
  | .ok .brk, q => exact False.elim q
  | .ok .cont, q => exact False.elim q
  | .ok (.ret u), q =>
    obtain ⟨v, H', os, bare, un, ok', rv, qv⟩ := (show CE [] P w H s₁ (fun v _ => v = .bl true) u s' from q)
    subst qv
    have eu : u = Value.bool true := rv
    subst eu
    refine ⟨rfl, OldK.of_keep fun c o e => ?_, os, bare⟩
    rcases only c with z | ⟨o', ys, z⟩
    · exact un.keep c o e z (by simp [frs]) (by simp)
    · have z' := un.frzs c o' _ z
      have h1 := (hok c _ z).1
      have h2 := (ok' c _ z').1
      rw [e] at h1
      cases h1
      exact h2
theorem end_of {l : PySem.W.OpenLaw} {n : Nat} {q : Program} {loose : List Str} {XP : (Str → Option Value) → Heap → Prop} {YP : World → Heap → Prop} {d : DefRec} {K : Params → PySem.W.Frag} {S : World → (Str → Option Value) → Xs} {fn : List D → FR}
    (hn : l.most = some n) (hn2 : n ≤ 1000) (hdf : d.params.defaults = []) (hr : Room k callerA) (himp : importsNone q = true) (hY : ∀ (w : World) (h : Heap), YP w h → (K w.params).In h)
    (F : ∀ (w : World) (mg : Str → Option Value) (fa : Addr) (h : Heap), (K w.params).In h → h.Ns mainGlobals mg → mg d.name = some (.ref fa) →
      ∃ fd : FuncData, (∀ (s : Shared) (u : Value), BindsTo s fd ⟨[u], []⟩ [(x, u)]) ∧ LawOk l.prog w (K w.params) mg (S w mg) k fa fd x fn)
    (hf : ∀ ns : List Int, ns.length ≤ n → (∀ i ∈ ns, Builtin.Int.intBits i ≤ 1048576) → fn [.scr ns] = .ok (.bl true)) :
    PySem.W.WalkO q loose XP YP l.row.toRowW d [] (fun f vs => PySem.call f vs) := by
  refine Att.attach_callB hn hdf fun w s₀ s₁ mg mb fa o pm cd doc a vs ns G Y ho hd hcd hmg hobj hints hlen hbits hg => ?_
  have KX := hY w _ Y
  obtain ⟨fd, hb, hF⟩ := F w mg fa _ KX G.T.g hmg
  have rv := vals_ints hints
  have hl : ns.length ≤ sizeLine := Nat.le_trans (Nat.le_trans hlen hn2) (by decide)
  have go := fun H h1 h2 h3 h4 h5 h6 => end_at (P := l.prog) (w := w) (K := K w.params) (mg := mg) (mb := mb) (S := S w mg) (k := k) (fa := fa) (a := a) (fd := fd) (x := x) (fn := fn) (s₁ := s₁) (ns := ns) H h1 h2 h3 h4 h5 KX G.T.g G.T.b G.T.builtins G.T.nolimit (G.T.seer himp) hg h6 hr hF hb (hf ns hlen hbits)
  by_cases hk : (K w.params).lookup a = none
  · refine go (fun b => if b = a then some (.frz { cls := .type "list", data := .seq vs.toArray } (.lst (ns.map V.int))) else none) (fun b u z => ?_) (.inl (.inr ⟨_, if_pos rfl⟩)) (fun b => ?_) (fun b ob e nc => ?_) (fun b ob e => ?_) (fun c ob e dd => ?_)
    · dsimp only at z
      split at z
      · rename_i e
        cases z
        rw [e]
        exact ⟨hobj, by rw [List.length_map]; exact hl, vs, _, rv, hobj⟩
      · cases z
    · split
      · exact .inr ⟨_, _, rfl⟩
      · exact .inl rfl
    · refine if_neg fun z => ?_
      rw [z, hobj] at e
      cases e
      exact nc rfl
    · refine if_neg fun z => ?_
      rw [z, hk] at e
      cases e
    · refine if_neg fun z => ?_
      rw [z, hobj] at e
      cases e
      obtain ⟨es, ep, q⟩ := dd
      cases q
  · cases hk2 : (K w.params).lookup a with
    | none => exact absurd hk2 hk
    | some ob =>
      have e := KX a ob hk2
      rw [hobj] at e
      cases e
      refine go (fun _ => none) (fun b u z => nomatch z) (.inr ⟨_, vs.toArray, _, hk2, rfl, rfl, rfl, ?_, by simpa using rv⟩) (fun b => .inl rfl) (fun b ob e nc => rfl) (fun b ob e => rfl) (fun c ob e dd => rfl)
      rw [List.size_toArray]
      have := hints.length
      omega
end
end Iv

set_option Elab.async false
set_option linter.all false
set_option maxRecDepth 100000
/-! Short words for texts that are printed. -/
namespace Iv
open PySem PySem.Spec PyProof.Rows L2 Evl

/-- which built-in names the module leaves alone -/
structure Bl (mg : Str → Option Value) : Prop where
  len : mg "len" = none
  abs : mg "abs" = none
  int : mg "int" = none
  isinstance : mg "isinstance" = none
  max : mg "max" = none
  min : mg "min" = none
  list : mg "list" = none
  tuple : mg "tuple" = none
  sum : mg "sum" = none
  any : mg "any" = none
  all : mg "all" = none
  range : mg "range" = none
  sorted : mg "sorted" = none
  bool : mg "bool" = none
  str : mg "str" = none
  dict : mg "dict" = none
  zip : mg "zip" = none
section
variable {X : Cx} {S : Xs} {W : WX} {F0 H0 : Hp} {e a b : Expr} {es : List Expr} {pos p : Pos} {f : M (List D)}
theorem nm (i : Nat) {x : Str} (hN : X.N[i]? = some x := by rfl) (hv : Vis X.env.scope x := by first | exact Or.inl rfl | exact Or.inr (Or.inl rfl) | exact Or.inr (Or.inr rfl)) (hd : (x == ("__debug__" : Str)) = false := by decide) (hcd : (x == ("__classdict__" : Str)) = false := by decide) : PD X S W (.Name x pos) (mVar i) := pd_var hN hv hd hcd
theorem pk (i : Nat) {x : Str} (hN : X.N[i]? = some x := by rfl) (hv : Vis X.env.scope x := by first | exact Or.inl rfl | exact Or.inr (Or.inl rfl) | exact Or.inr (Or.inr rfl)) (hd : (x == ("__debug__" : Str)) = false := by decide) (hcd : (x == ("__classdict__" : Str)) = false := by decide) : PP X S W (.Name x pos) (mPk i) := pp_var hN hv hd hcd
theorem tg (i : Nat) {x : Str} (hN : X.N.Nodup) (hi : X.N[i]? = some x := by rfl) (hx : Loc X.env.scope x := by first | exact Or.inl rfl | exact Or.inr rfl) (hf : X.fn x = true ∨ X.env.scope.names.lookup x = some .local := by first | exact .inl rfl | exact .inr rfl) : PGd X (.Name x pos) [i] (γN i) := pgd_name hN hi hx hf
theorem st_set (i : Nat) {x : Str} {pos' : Pos} {f : M Sv} (hN : X.N.Nodup) (he : PD X S W e f) (hi : X.N[i]? = some x := by rfl) (hx : Loc X.env.scope x := by first | exact Or.inl rfl | exact Or.inr rfl) (hs : swapsWith e (some (.Name x pos')) pos.line X.env = pure false := by rfl) (hf : X.fn x = true ∨ X.env.scope.names.lookup x = some .local := by first | exact .inl rfl | exact .inr rfl) :
    DS X S W F0 H0 (.Assign [.Name x pos'] e pos) (mSet i f) := ds_set hN hi hx he hs hf
theorem ds_never {st : Stmt} : DS X S W F0 H0 st (fun _ => .bad) := PS.imp ps_never fun D σ H ⟨_, _, _, _, q⟩ => q
theorem op_add_ {op : Operator} {r : R2} {o : D → D → Option Sv} {f g : M D} (ho : OpR X (binaryOp op) r) (hs : OpS X.K r o) (ha : PP X S W a f) (hb : PP X S W b g) : PD X S W (.BinOp a op b pos) (mOp o f g) := pd_op ho hs ha hb
theorem cp {op : CmpOp} {r : R2} {o : D → D → Option Sv} {f g : M D} (ho : OpR X (compareOp op) r) (hs : OpS X.K r o) (ha : PP X S W a f) (hb : PP X S W b g) (hm : behindInMarks op b = false := by first | exact nomark _ | rfl) : PD X S W (.Compare a [op] [b] pos) (mOp o f g) := pd_cmp ho hs hm ha hb
theorem cpB {op : CmpOp} {r : R2} {o : D → D → Option Sv} {f g : M D} (ho : OpR X (compareOp op) r) (hs : OpS X.K r o) (ha : PP X S W a f) (hb : PP X S W b g) (hm : behindInMarks op b = false := by first | exact nomark _ | rfl) : PB X S W (.Compare a [op] [b] pos) (mB (mOp o f g)) := pb_cmp ho hs hm ha hb
theorem ix {f g : M D} (ha : PP X S W a f) (hb : PP X S W b g) (hx : PlainIx b := by intro _ _; rfl) : PD X S W (.Subscript a b pos) (mOp oIx f g) := pd_ix ix_seq os_ix hx ha hb
theorem pd_ty {x : Str} {T : String} (hg : Gl X x) (hm : X.mg x = none) (hv : bootBuiltins x = some (.type T)) (hn : x ≠ "__name__" := by decide) (hd : (x == ("__debug__" : Str)) = false := by decide) : PD X S W (.Name x pos) (mC (.ty T)) := pd_c (pe_bltn hg hm hv (v := .ty T) rfl hn hd) fun _ => by simp only [R]
theorem ty_int (B : Bl X.mg) (hg : Gl X "int" := by rfl) : PD X S W (.Name "int" pos) (mC (.ty "int")) := pd_ty hg B.int PyProof.Rows.boot_int
theorem ty_bool (B : Bl X.mg) (hg : Gl X "bool" := by rfl) : PD X S W (.Name "bool" pos) (mC (.ty "bool")) := pd_ty hg B.bool PyProof.Rows.boot_bool
theorem ty_str (B : Bl X.mg) (hg : Gl X "str" := by rfl) : PD X S W (.Name "str" pos) (mC (.ty "str")) := pd_ty hg B.str PyProof.Rows.boot_str
theorem ty_list (B : Bl X.mg) (hg : Gl X "list" := by rfl) : PD X S W (.Name "list" pos) (mC (.ty "list")) := pd_ty hg B.list PyProof.Rows.boot_list
theorem ty_tuple (B : Bl X.mg) (hg : Gl X "tuple" := by rfl) : PD X S W (.Name "tuple" pos) (mC (.ty "tuple")) := pd_ty hg B.tuple PyProof.Rows.boot_tuple
section
theorem b_len (B : Bl X.mg) (ha : PPs X S W (e :: es) f) (hg : Gl X "len" := by rfl) (he : starEach (e :: es) X.env = (false, eval e X.env) :: starEach es X.env := by rfl) (hpl : (backTo pos (starEach es X.env)).any (·.1) = false := by rfl) : PD X S W (.Call (.Name "len" p) (e :: es) [] pos) (mCl cLen f) := pd_callB call_len cs_len hg B.len PySem.boot_len ha (by decide) (by decide) he hpl
theorem b_abs (B : Bl X.mg) (ha : PPs X S W (e :: es) f) (hg : Gl X "abs" := by rfl) (he : starEach (e :: es) X.env = (false, eval e X.env) :: starEach es X.env := by rfl) (hpl : (backTo pos (starEach es X.env)).any (·.1) = false := by rfl) : PD X S W (.Call (.Name "abs" p) (e :: es) [] pos) (mCl cAbs f) := pd_callB call_abs cs_abs hg B.abs PyProof.Rows.boot_abs ha (by decide) (by decide) he hpl
theorem b_int (B : Bl X.mg) (ha : PPs X S W (e :: es) f) (hg : Gl X "int" := by rfl) (he : starEach (e :: es) X.env = (false, eval e X.env) :: starEach es X.env := by rfl) (hpl : (backTo pos (starEach es X.env)).any (·.1) = false := by rfl) : PD X S W (.Call (.Name "int" p) (e :: es) [] pos) (mCl cInt f) := pd_callTy call_int1 cs_int hg B.int PyProof.Rows.boot_int ha (by decide) (by decide) he hpl
theorem b_isi (B : Bl X.mg) (ha : PPs X S W (e :: es) f) (hg : Gl X "isinstance" := by rfl) (he : starEach (e :: es) X.env = (false, eval e X.env) :: starEach es X.env := by rfl) (hpl : (backTo pos (starEach es X.env)).any (·.1) = false := by rfl) : PD X S W (.Call (.Name "isinstance" p) (e :: es) [] pos) (mCl cIsi f) := pd_callB call_isi cs_isi hg B.isinstance PyProof.Rows.boot_isinstance ha (by decide) (by decide) he hpl
theorem b_max (B : Bl X.mg) (ha : PPs X S W (e :: es) f) (hc : X.calm = true) (hg : Gl X "max" := by rfl) (he : starEach (e :: es) X.env = (false, eval e X.env) :: starEach es X.env := by rfl) (hpl : (backTo pos (starEach es X.env)).any (·.1) = false := by rfl) : PD X S W (.Call (.Name "max" p) (e :: es) [] pos) (mCl cMax2 f) := pd_callB (call_max2 hc) cs_max2 hg B.max PyProof.Rows.boot_max ha (by decide) (by decide) he hpl
theorem b_min (B : Bl X.mg) (ha : PPs X S W (e :: es) f) (hc : X.calm = true) (hg : Gl X "min" := by rfl) (he : starEach (e :: es) X.env = (false, eval e X.env) :: starEach es X.env := by rfl) (hpl : (backTo pos (starEach es X.env)).any (·.1) = false := by rfl) : PD X S W (.Call (.Name "min" p) (e :: es) [] pos) (mCl cMin2 f) := pd_callB (call_min2 hc) cs_min2 hg B.min PyProof.Rows.boot_min ha (by decide) (by decide) he hpl
theorem b_list (B : Bl X.mg) (ha : PPs X S W (e :: es) f) (hg : Gl X "list" := by rfl) (he : starEach (e :: es) X.env = (false, eval e X.env) :: starEach es X.env := by rfl) (hpl : (backTo pos (starEach es X.env)).any (·.1) = false := by rfl) : PD X S W (.Call (.Name "list" p) (e :: es) [] pos) (mCl cList f) := pd_callTy call_list_of cs_list hg B.list PyProof.Rows.boot_list ha (by decide) (by decide) he hpl
theorem b_tuple (B : Bl X.mg) (ha : PPs X S W (e :: es) f) (hg : Gl X "tuple" := by rfl) (he : starEach (e :: es) X.env = (false, eval e X.env) :: starEach es X.env := by rfl) (hpl : (backTo pos (starEach es X.env)).any (·.1) = false := by rfl) : PD X S W (.Call (.Name "tuple" p) (e :: es) [] pos) (mCl cTuple f) := pd_callTy call_tuple_of cs_tuple hg B.tuple PyProof.Rows.boot_tuple ha (by decide) (by decide) he hpl
theorem b_sum (B : Bl X.mg) (ha : PPs X S W (e :: es) f) (hc : X.calm = true) (hg : Gl X "sum" := by rfl) (he : starEach (e :: es) X.env = (false, eval e X.env) :: starEach es X.env := by rfl) (hpl : (backTo pos (starEach es X.env)).any (·.1) = false := by rfl) : PD X S W (.Call (.Name "sum" p) (e :: es) [] pos) (mCl cSum f) := pd_callB (cr_sum hc) cs_sum hg B.sum PyProof.Rows.boot_sum ha (by decide) (by decide) he hpl
theorem b_any (B : Bl X.mg) (ha : PPs X S W (e :: es) f) (hc : X.calm = true) (hg : Gl X "any" := by rfl) (he : starEach (e :: es) X.env = (false, eval e X.env) :: starEach es X.env := by rfl) (hpl : (backTo pos (starEach es X.env)).any (·.1) = false := by rfl) : PD X S W (.Call (.Name "any" p) (e :: es) [] pos) (mCl cAny f) := pd_callB (cr_any hc) cs_any hg B.any PyProof.Rows.boot_any ha (by decide) (by decide) he hpl
theorem b_all (B : Bl X.mg) (ha : PPs X S W (e :: es) f) (hc : X.calm = true) (hg : Gl X "all" := by rfl) (he : starEach (e :: es) X.env = (false, eval e X.env) :: starEach es X.env := by rfl) (hpl : (backTo pos (starEach es X.env)).any (·.1) = false := by rfl) : PD X S W (.Call (.Name "all" p) (e :: es) [] pos) (mCl cAll f) := pd_callB (cr_all hc) cs_all hg B.all PyProof.Rows.boot_all ha (by decide) (by decide) he hpl
theorem b_gcd (hm : X.mg "gcd" = some (.builtin "math.gcd")) (ha : PPs X S W (e :: es) f) (hg : Gl X "gcd" := by rfl) (he : starEach (e :: es) X.env = (false, eval e X.env) :: starEach es X.env := by rfl) (hpl : (backTo pos (starEach es X.env)).any (·.1) = false := by rfl) : PD X S W (.Call (.Name "gcd" p) (e :: es) [] pos) (mCl cGcd f) := pd_callBf cr_gcd cs_gcd hg hm ha (by decide) he hpl
end
theorem y_rng1 {f : M (List D)} {tg : Expr} (B : Bl X.mg) (ha : PPs X S W [a] f) (hg : Gl X "range" := by rfl) (hs : starEach [a] X.env = [(false, eval a X.env)] := by rfl) : PY X S W tg (.Call (.Name "range" p) [a] [] pos) (mRng1 f) := py_range1 hg B.range ha hs
theorem y_rng2 {f : M (List D)} {tg : Expr} (B : Bl X.mg) (ha : PPs X S W [a, b] f) (hg : Gl X "range" := by rfl) (hs : starEach [a, b] X.env = [(false, eval a X.env), (false, eval b X.env)] := by rfl) (hs2 : starEach [b] X.env = [(false, eval b X.env)] := by rfl) : PY X S W tg (.Call (.Name "range" p) [a, b] [] pos) (mRng2 f) := py_range2 hg B.range ha hs hs2
theorem cl {k j n : Nat} {x : Str} {fn : List D → FR} {f : M (List D)} (c : Cl X.prog X.w X.K X.mg X.base S k x n fn) (hr : Room j X.A) (hk : k ≤ j) (tk : L2N.Takes X W) (ha : PFs X S W (e :: es) f) (hg : Gl X x := by rfl)
    (hdb : (x == ("__debug__" : Str)) = false := by decide) (he : starEach (e :: es) X.env = (false, eval e X.env) :: starEach es X.env := by rfl) (hpl : (backTo pos (starEach es X.env)).any (·.1) = false := by rfl) : PD X S W (.Call (.Name x p) (e :: es) [] pos) (mCall n fn f) := pd_call c hr hk hg tk ha hdb he hpl
theorem Big.blk {s : Shared} {H : Hp} {scope : Scope} {cenv : PySem.Env} {fp : List Addr} (B : Big X) : Big (X.blk s H scope cenv fp) := ⟨B.seer, B.tree, B.top⟩
theorem tk0 : L2N.Takes X W0 := fun _ _ ⟨_, _, _, _, _, _, _, _, _, _, _, _, _, _, _, _, z⟩ => z.elim
end
theorem big_of {P : Program} {w : World} {K : PySem.W.Frag} {mg : Str → Option Value} {base : Heap} {CX : CXT} {N ps : List Str} {qual : Str} {sc : Scope} {f : Addr} {cdv : Value} {A : Around} {outer : List PySem.Env} {s : Shared} {H : Hp} {E : XK} (hn : base.NoSeer) (ht : P.given.tree = none) (S : FnScope N ps sc) :
    Big (cxOf CX P w K mg base N qual sc f cdv A outer s H E) := ⟨hn, ht, _, outer, rfl, S.gen, S.co, rfl, rfl⟩
theorem df_mk {K : PySem.W.Frag} {h : Heap} {mg : Str → Option Value} {x : Str} {st : Stmt} {ps : List Str} {f : Addr} {oc : Value} {od an : Option Addr} {osl : Array (Option Value)} {kV doc pm cdv ct : Value} (X : K.In h) (G : h.Ns mainGlobals mg)
    (a : PySem.W.nsIn K mainGlobals x = some (some (.ref f))) (l : K.lookup f = some ⟨oc, od, .func (PySem.W.fnOf x x (defArgs st) (defBody st) (defScope st) .none kV doc pm an cdv ct), osl⟩) (c : PySem.W.codeIn K cdv x = true) (k : PySem.W.keepIn K (.ref f) = true)
    (hb : ∀ (kV doc pm : Value) (an : Option Addr) (cdv ct : Value) (us : List Value), us.length = ps.length → bindArgs (PySem.W.fnOf x x (defArgs st) (defBody st) (defScope st) .none kV doc pm an cdv ct) ⟨us, []⟩ = pure (ps.zip us)) : Df K mg x st ps :=
  ⟨f, _, fun_mk l c k, PySem.W.mg_of X G a, (fun_mk l c k).binds hb⟩
end Iv

set_option Elab.async false
set_option linter.all false
/-! How meanings are reckoned. -/
namespace Iv
open PySem L2
@[simp] theorem mC_eq {d : D} {env : En} : mC d env = .ok (.d d) env := rfl
@[simp] theorem mVar_eq {i : Nat} {env : En} : mVar i env = (match env[i]? with
  | some (.fr d) => .ok (.d d) env
  | some (.ow l) => .ok (.d (.lst l)) (env.set i (.fr (.lst l)))
  | some (.od ks ds) => .ok (.d (.dct ks ds)) (env.set i (.fr (.dct ks ds)))
  | _ => .bad) := rfl
@[simp] theorem mPk_eq {i : Nat} {env : En} : mPk i env = (match env[i]? with
  | some (.fr d) => .ok d env
  | some (.ow l) => .ok (.lst l) env
  | some (.od ks ds) => .ok (.dct ks ds) env
  | _ => .bad) := rfl
@[simp] theorem mD_eq {f : M Sv} {env : En} : mD f env = (f env).bind fun sv env => .ok sv.toD env := rfl
@[simp] theorem mOp_eq {o : D → D → Option Sv} {f g : M D} {env : En} : mOp o f g env = (f env).bind fun x env => (g env).bind fun y env => rdo (o x y) env := rfl
@[simp] theorem mUn_eq {o : D → Option Sv} {f : M D} {env : En} : mUn o f env = (f env).bind fun x env => rdo (o x) env := rfl
@[simp] theorem mCl_eq {o : List D → Option Sv} {f : M (List D)} {env : En} : mCl o f env = (f env).bind fun x env => rdo (o x) env := rfl
@[simp] theorem rdo_some {sv : Sv} {env : En} : rdo (some sv) env = .ok sv env := rfl
@[simp] theorem rdo_none {env : En} : rdo none env = .bad := rfl
@[simp] theorem mNil_eq {env : En} : mNil env = .ok [] env := rfl
@[simp] theorem mCons_eq {f : M D} {g : M (List D)} {env : En} : mCons f g env = (f env).bind fun x env => (g env).bind fun xs env => .ok (x :: xs) env := rfl
@[simp] theorem mTup_eq {f : M (List D)} {env : En} : mTup f env = (f env).bind fun ds env => if ds.length ≤ 100000 then .ok (.d (.tup ds)) env else .bad := rfl
@[simp] theorem mLst_eq {f : M (List D)} {env : En} : mLst f env = (f env).bind fun ds env => if ds.length ≤ 100000 then .ok (.l ds) env else .bad := rfl
@[simp] theorem mB_eq {f : M Sv} {env : En} : mB f env = (f env).bind fun sv env => (match sv with
  | .d (.bl b) => .ok b env
  | _ => .bad) := rfl
@[simp] theorem mNotB_eq {f : M Bool} {env : En} : mNotB f env = (f env).bind fun b env => .ok (!b) env := rfl
@[simp] theorem mAndB_eq {f g : M Bool} {env : En} : mAndB f g env = (f env).bind fun b env => if b = true then g env else .ok false env := rfl
@[simp] theorem mOrB_eq {f g : M Bool} {env : En} : mOrB f g env = (f env).bind fun b env => if b = true then .ok true env else g env := rfl
@[simp] theorem mAndV_eq {f g : M Sv} {env : En} : mAndV f g env = (mB f env).bind fun b env => if b = true then g env else .ok (.d (.bl false)) env := rfl
@[simp] theorem mOrV_eq {f g : M Sv} {env : En} : mOrV f g env = (mB f env).bind fun b env => if b = true then .ok (.d (.bl true)) env else g env := rfl
@[simp] theorem mNotV_eq {f : M Sv} {env : En} : mNotV f env = (mB f env).bind fun b env => .ok (.d (.bl (!b))) env := rfl
@[simp] theorem mIf_eq {h : M Bool} {f g : M Sv} {env : En} : mIf h f g env = (h env).bind fun b env => if b = true then f env else g env := rfl
@[simp] theorem mNoP_eq {env : En} : mNoP env = .ok none env := rfl
@[simp] theorem mPart_eq {f : M D} {env : En} : mPart f env = (f env).bind fun d env => (match d with
  | .int i => .ok (some i) env
  | _ => .bad) := rfl
@[simp] theorem mSl_eq {f : M D} {lo hi : M (Option Int)} {env : En} : mSl f lo hi env = (f env).bind fun d env => (lo env).bind fun l env => (hi env).bind fun u env => rdo (oSl d l u) env := rfl
@[simp] theorem mCall_eq {n : Nat} {fn : List D → FR} {f : M (List D)} {env : En} : mCall n fn f env = (f env).bind fun ds env => if ds.length = n then (match fn ds with
  | .ok d => .ok (.d d) env
  | .ex c x => .ex c x env
  | .bad => .bad) else .bad := rfl
@[simp] theorem mIt_eq {f : M D} {env : En} : mIt f env = (f env).bind fun d env => (match itemsOf d with
  | some l => .ok l env
  | none => .bad) := rfl
@[simp] theorem mRng1_eq {f : M (List D)} {env : En} : mRng1 f env = (f env).bind fun ds env => (match ds with
  | [.int n] => if small n = true then .ok (upTo 0 n.toNat) env else .bad
  | _ => .bad) := rfl
@[simp] theorem mRng2_eq {f : M (List D)} {env : En} : mRng2 f env = (f env).bind fun ds env => (match ds with
  | [.int a, .int b] => if small a = true ∧ small b = true then .ok (upTo a (b - a).toNat) env else .bad
  | _ => .bad) := rfl
@[simp] theorem mLc_eq {vs : List Nat} {γ : D → En → Option En} {src : M (List D)} {cond : M Bool} {elt : M D} {env : En} : mLc vs γ src cond elt env = (src env).bind fun items env1 => if items.length ≤ 90000 then
    (match compL vs γ cond elt items [] (wipeE env1 vs) with
    | .ok acc env2 => .ok (.l acc) env2
    | _ => .bad) else .bad := rfl
@[simp] theorem mYes_eq {env : En} : mYes env = .ok true env := rfl
@[simp] theorem mNx_eq {env : En} : mNx env = .ok .nx env := rfl
@[simp] theorem mSeq_eq {g h : M Fl} {env : En} : mSeq g h env = (match g env with
  | .ok .nx env' => h env'
  | r => r) := rfl
@[simp] theorem mSet_eq {i : Nat} {f : M Sv} {env : En} : mSet i f env = (f env).bind fun sv env => .ok .nx (env.set i (slOf sv)) := rfl
@[simp] theorem slOf_d {x : D} : slOf (.d x) = .fr x := rfl
@[simp] theorem slOf_l {x : List D} : slOf (.l x) = .ow x := rfl
@[simp] theorem slOf_k {ks : List Key} {x : List D} : slOf (.k ks x) = .od ks x := rfl
@[simp] theorem mAsg_eq {γ : D → En → Option En} {f : M D} {env : En} : mAsg γ f env = (f env).bind fun d env => (match γ d env with
  | some env' => .ok .nx env'
  | none => .bad) := rfl
@[simp] theorem mRet_eq {f : M D} {env : En} : mRet f env = (f env).bind fun d env => .ok (.rt d) env := rfl
@[simp] theorem mRetN_eq {env : En} : mRetN env = .ok (.rt .non) env := rfl
@[simp] theorem mDrop_eq {f : M Sv} {env : En} : mDrop f env = (f env).bind fun _ env => .ok .nx env := rfl
@[simp] theorem mIfS_eq {f : M Bool} {g h : M Fl} {env : En} : mIfS f g h env = (f env).bind fun b env => if b = true then g env else h env := rfl
@[simp] theorem mFor_eq {γ : D → En → Option En} {src : M (List D)} {g : M Fl} {env : En} : mFor γ src g env = (src env).bind fun items env => forL γ g items env := rfl
@[simp] theorem mApp_eq {i : Nat} {f : M D} {env : En} : mApp i f env = (match owAt env i with
  | some _ => (f env).bind fun d env => (match owAt env i with
    | some l => if l.length < 90000 then .ok .nx (env.set i (.ow (l ++ [d]))) else .bad
    | none => .bad)
  | none => .bad) := rfl
@[simp] theorem owAt_eq' {i : Nat} {env : En} : owAt env i = (match env[i]? with
  | some (.ow l) => some l
  | _ => none) := rfl
@[simp] theorem mPut_eq {i : Nat} {ix f : M D} {env : En} : mPut i ix f env = (f env).bind fun d env => (match owAt env i with
  | some _ => (ix env).bind fun k env => (match owAt env i, k with
    | some l, .int k => (match ixN l.length k with
      | some j => .ok .nx (env.set i (.ow (l.set j d)))
      | none => .bad)
    | _, _ => .bad)
  | none => .bad) := rfl
@[simp] theorem mRaise_eq {c : Nat} {env : En} : mRaise c env = .ex c none env := rfl
@[simp] theorem γN_eq {i : Nat} {d : D} {env : En} : γN i d env = some (env.set i (.fr d)) := rfl
@[simp] theorem γNil_eq {env : En} : γNil [] env = some env := rfl
@[simp] theorem γCons_eq {g : D → En → Option En} {h : List D → En → Option En} {d : D} {r : List D} {env : En} : γCons g h (d :: r) env = (g d env).bind fun env1 => h r env1 := rfl
@[simp] theorem γT_eq {n : Nat} {h : List D → En → Option En} {l : List D} {env : En} : γT n h (.tup l) env = if l.length = n then h l env else none := rfl
@[simp] theorem runF_eq {n : Nat} {g : M Fl} {ds : List D} : runF n g ds = (match g (stE n ds) with
  | .ok (.rt d) _ => .ok d
  | .ok .nx _ => .ok .non
  | .ex c x _ => .ex c x
  | _ => .bad) := rfl
@[simp] theorem stE_eq {n : Nat} {ds : List D} : stE n ds = ds.map Sl.fr ++ List.replicate (n - ds.length) .un := rfl
@[simp] theorem forL_nil {γ : D → En → Option En} {g : M Fl} {env : En} : forL γ g [] env = .ok .nx env := rfl
@[simp] theorem forL_cons {γ : D → En → Option En} {g : M Fl} {x : D} {xs : List D} {env : En} : forL γ g (x :: xs) env = (match γ x env with
    | none => .bad
    | some env1 => (match g env1 with
      | .ok .nx env2 => forL γ g xs env2
      | .ok .ct env2 => forL γ g xs env2
      | .ok .bk env2 => .ok .nx env2
      | r => r)) := by
  (conv => lhs; unfold forL)
  all_goals rfl
@[simp] theorem wipeE_nil {env : En} : wipeE env [] = env := rfl
@[simp] theorem wipeE_cons {env : En} {v : Nat} {vs : List Nat} : wipeE env (v :: vs) = (wipeE env vs).set v .un := rfl
/-- operations on ints -/
@[simp] theorem oAdd_int {i j : Int} : oAdd (.int i) (.int j) = some (.d (.int (i + j))) := rfl
@[simp] theorem oSub_int {i j : Int} : oSub (.int i) (.int j) = some (.d (.int (i - j))) := rfl
theorem oAdd_lst {a b : List D} (h : a.length + b.length ≤ 100000) : oAdd (.lst a) (.lst b) = some (.l (a ++ b)) := by
  show (if a.length + b.length ≤ 100000 then _ else _) = _
  rw [if_pos h]
theorem oMul_int {i j : Int} (h : mulOk i j = true) : oMul (.int i) (.int j) = some (.d (.int (i * j))) := by
  show (if mulOk i j = true then _ else _) = _
  rw [if_pos h]
theorem oDiv_int {i j : Int} (h : j ≠ 0) : oDiv (.int i) (.int j) = some (.d (.int (i.fdiv j))) := by
  show (if nz i j = true then _ else _) = _
  rw [if_pos (show nz i j = true from decide_eq_true h)]
theorem oMod_int {i j : Int} (h : j ≠ 0) : oMod (.int i) (.int j) = some (.d (.int (i.fmod j))) := by
  show (if nz i j = true then _ else _) = _
  rw [if_pos (show nz i j = true from decide_eq_true h)]
@[simp] theorem oLt_int {i j : Int} : oLt (.int i) (.int j) = some (.d (.bl (decide (i < j)))) := rfl
@[simp] theorem oLe_int {i j : Int} : oLe (.int i) (.int j) = some (.d (.bl (decide (i ≤ j)))) := rfl
@[simp] theorem oGt_int {i j : Int} : oGt (.int i) (.int j) = some (.d (.bl (decide (j < i)))) := rfl
@[simp] theorem oGe_int {i j : Int} : oGe (.int i) (.int j) = some (.d (.bl (decide (j ≤ i)))) := rfl
@[simp] theorem oEq_int {i j : Int} : oEq (.int i) (.int j) = some (.d (.bl (i == j))) := rfl
@[simp] theorem oNe_int {i j : Int} : oNe (.int i) (.int j) = some (.d (.bl (!(i == j)))) := rfl
@[simp] theorem oEq_bl {i j : Bool} : oEq (.bl i) (.bl j) = some (.d (.bl (i == j))) := rfl
@[simp] theorem oEq_str {i j : Str} : oEq (.str i) (.str j) = some (.d (.bl (i == j))) := rfl
@[simp] theorem oIs_non {a : D} : oIs a .non = some (.d (.bl (isN a))) := rfl
@[simp] theorem oIsNot_non {a : D} : oIsNot a .non = some (.d (.bl (!isN a))) := rfl
@[simp] theorem oNeg_int {i : Int} : oNeg (.int i) = some (.d (.int (-i))) := rfl
@[simp] theorem cLen_lst {l : List D} : cLen [.lst l] = some (.d (.int l.length)) := rfl
@[simp] theorem cLen_tup {l : List D} : cLen [.tup l] = some (.d (.int l.length)) := rfl
@[simp] theorem cLen_scr {l : List Int} : cLen [.scr l] = some (.d (.int l.length)) := rfl
@[simp] theorem cAbs_int {i : Int} : cAbs [.int i] = some (.d (.int (i.natAbs : Int))) := rfl
@[simp] theorem cInt_int {i : Int} : cInt [.int i] = some (.d (.int i)) := rfl
@[simp] theorem cInt_bl {b : Bool} : cInt [.bl b] = some (.d (.int (if b then 1 else 0))) := rfl
@[simp] theorem cMax2_int {i j : Int} : cMax2 [.int i, .int j] = some (.d (.int (if j > i then j else i))) := rfl
@[simp] theorem cMin2_int {i j : Int} : cMin2 [.int i, .int j] = some (.d (.int (if j < i then j else i))) := rfl
@[simp] theorem cGcd_int {i j : Int} : cGcd [.int i, .int j] = some (.d (.int (Nat.gcd i.natAbs j.natAbs : Nat))) := rfl
@[simp] theorem cList_lst {l : List D} : cList [.lst l] = some (.l l) := rfl
@[simp] theorem cList_tup {l : List D} : cList [.tup l] = some (.l l) := rfl
@[simp] theorem cTuple_lst {l : List D} : cTuple [.lst l] = some (.d (.tup l)) := rfl
@[simp] theorem cTuple_tup {l : List D} : cTuple [.tup l] = some (.d (.tup l)) := rfl
@[simp] theorem itemsOf_lst {l : List D} : itemsOf (.lst l) = some l := rfl
@[simp] theorem itemsOf_tup {l : List D} : itemsOf (.tup l) = some l := rfl
@[simp] theorem itemsOf_scr {l : List Int} : itemsOf (.scr l) = some (l.map D.int) := rfl
@[simp] theorem oIx_tup {l : List D} {i : Int} : oIx (.tup l) (.int i) = (atI l i).map Sv.d := rfl
@[simp] theorem oIx_lst {l : List D} {i : Int} : oIx (.lst l) (.int i) = (atI l i).map Sv.d := rfl
@[simp] theorem oIx_scr {l : List Int} {i : Int} : oIx (.scr l) (.int i) = (atI l i).map fun n => Sv.d (.int n) := rfl
@[simp] theorem atI_two0 {α : Type} {a b : α} : atI [a, b] 0 = some a := rfl
@[simp] theorem atI_two1 {α : Type} {a b : α} : atI [a, b] 1 = some b := rfl
theorem atI_nat' {α : Type} {l : List α} {k : Nat} : atI l (k : Int) = l[k]? := by
  cases h : l[k]? with
  | some v => exact atI_nat h
  | none =>
    have hl : l.length ≤ k := List.getElem?_eq_none_iff.mp h
    unfold atI ixN
    rw [if_pos (by omega), if_neg (by omega)]
    rfl
@[simp] theorem tyN_non : tyN .non = "NoneType" := rfl
@[simp] theorem tyN_bl {b : Bool} : tyN (.bl b) = "bool" := rfl
@[simp] theorem tyN_int {b : Int} : tyN (.int b) = "int" := rfl
@[simp] theorem tyN_str {b : Str} : tyN (.str b) = "str" := rfl
@[simp] theorem tyN_tup {b : List D} : tyN (.tup b) = "tuple" := rfl
@[simp] theorem tyN_lst {b : List D} : tyN (.lst b) = "list" := rfl
@[simp] theorem tyN_scr {b : List Int} : tyN (.scr b) = "list" := rfl
@[simp] theorem cIsi_non {t : String} : cIsi [.non, .ty t] = (isTy "NoneType" t).map fun c => .d (.bl c) := rfl
@[simp] theorem cIsi_bl {b : Bool} {t : String} : cIsi [.bl b, .ty t] = (isTy "bool" t).map fun c => .d (.bl c) := rfl
@[simp] theorem cIsi_int {b : Int} {t : String} : cIsi [.int b, .ty t] = (isTy "int" t).map fun c => .d (.bl c) := rfl
@[simp] theorem cIsi_str {b : Str} {t : String} : cIsi [.str b, .ty t] = (isTy "str" t).map fun c => .d (.bl c) := rfl
@[simp] theorem cIsi_tup {b : List D} {t : String} : cIsi [.tup b, .ty t] = (isTy "tuple" t).map fun c => .d (.bl c) := rfl
@[simp] theorem cIsi_lst {b : List D} {t : String} : cIsi [.lst b, .ty t] = (isTy "list" t).map fun c => .d (.bl c) := rfl
@[simp] theorem cIsi_scr {b : List Int} {t : String} : cIsi [.scr b, .ty t] = (isTy "list" t).map fun c => .d (.bl c) := rfl
@[simp] theorem isTy_int {a : String} : isTy a "int" = some (a = "int" || a = "bool") := rfl
@[simp] theorem isTy_bool {a : String} : isTy a "bool" = some (decide (a = "bool")) := rfl
@[simp] theorem isTy_str {a : String} : isTy a "str" = some (decide (a = "str")) := rfl
@[simp] theorem isTy_tuple {a : String} : isTy a "tuple" = some (decide (a = "tuple")) := rfl
@[simp] theorem isTy_list {a : String} : isTy a "list" = some (decide (a = "list")) := rfl
end Iv

set_option Elab.async false
set_option linter.all false
set_option maxHeartbeats 1000000
/-! What the laws' own helpers yield. -/
namespace Law
open PySem PySem.Spec PyProof.Rows L2 Evl Iv
noncomputable def g_u_law_cell : M Fl :=
    mSeq (mIfS (mB (mOp oLt (mPk 1) (mD (mCl cLen (mCons (mPk 0) (mNil)))))) (mRet (mD (mOp oIx (mPk 0) (mPk 1)))) (mNx))
    (mRet (mD (mOp oAdd (mD (mOp oMul (mD (mC (.int 5))) (mPk 1))) (mD (mC (.int 3))))))
noncomputable def f_u_law_cell : List D → FR := runF 2 g_u_law_cell
noncomputable def g_u_law_gcd : M Fl :=
    mSeq (mSet 0 (mCl cAbs (mCons (mPk 0) (mNil))))
    (mSeq (mSet 1 (mCl cAbs (mCons (mPk 1) (mNil))))
    (mSeq (mWh (mB (mOp oGt (mPk 1) (mD (mC (.int 0))))) (mSeq (mSet 2 (mOp oMod (mD (mCl cInt (mCons (mPk 0) (mNil)))) (mPk 1)))
    (mSeq (mSet 0 (mVar 1))
    (mSet 1 (mVar 2)))))
    (mRet (mD (mVar 0)))))
noncomputable def f_u_law_gcd : List D → FR := runF 3 g_u_law_gcd
noncomputable def g_u_law_low : M Fl :=
    mSeq (mSet 2 (mCall 2 f_u_law_gcd (mCons (mD (mVar 0)) (mCons (mD (mVar 1)) (mNil)))))
    (mSeq (mIfS (mB (mOp oLt (mPk 1) (mD (mC (.int 0))))) (mSet 2 (mOp oSub (mD (mC (.int 0))) (mPk 2))) (mNx))
    (mRet (mD (mTup (mCons (mD (mOp oDiv (mPk 0) (mPk 2))) (mCons (mD (mOp oDiv (mPk 1) (mPk 2))) (mNil)))))))
noncomputable def f_u_law_low : List D → FR := runF 3 g_u_law_low
noncomputable def g_u_law_ratio : M Fl :=
    mSeq (mIfS (mB (mOp oEq (mPk 1) (mD (mC (.int 0))))) (mRet (mD (mTup (mCons (mD (mC (.int 0))) (mCons (mD (mC (.int 1))) (mNil)))))) (mNx))
    (mRet (mD (mCall 2 f_u_law_low (mCons (mD (mVar 0)) (mCons (mD (mVar 1)) (mNil))))))
noncomputable def f_u_law_ratio : List D → FR := runF 2 g_u_law_ratio

/-! ### sizes -/
theorem mulOk_of {i j : Int} {a b : Nat} (ha : i.natAbs < 2 ^ a) (hb : j.natAbs < 2 ^ b) (h : a + b ≤ 130000000) : mulOk i j = true := by
  refine decide_eq_true ?_
  have key : ∀ (x : Nat) (a : Nat), x < 2 ^ a → x.log2 ≤ a - 1 := fun x a hx => by
    by_cases h0 : x = 0
    · subst h0; simp
    · have := (Nat.log2_lt h0).mpr hx
      omega
  have h1 := key _ _ ha
  have h2 := key _ _ hb
  have p1 : i.natAbs = 0 ∨ 0 < a := by
    by_cases h0 : a = 0
    · subst h0; left; simpa using ha
    · omega
  have p2 : j.natAbs = 0 ∨ 0 < b := by
    by_cases h0 : b = 0
    · subst h0; left; simpa using hb
    · omega
  omega

/-! ### cells -/
def cellAt (ns : List Int) (k : Nat) : Int := match ns[k]? with
  | some v => v
  | none => 5 * (k : Int) + 3
theorem cell_eq {ns : List Int} {k : Nat} (hk : k < 1000000) : f_u_law_cell [.scr ns, .int (k : Int)] = .ok (.int (cellAt ns k)) := by
  have hm : mulOk 5 (k : Int) = true := mulOk_of (a := 3) (b := 64) (by decide) (by
    have : (1000000 : Nat) < 2 ^ 64 := by decide
    simp only [Int.natAbs_natCast]; omega) (by decide)
  by_cases h : k < ns.length
  · have hd : decide ((k : Int) < (ns.length : Int)) = true := decide_eq_true (by omega)
    have hg : ns[k]? = some ns[k] := List.getElem?_eq_getElem h
    simp [f_u_law_cell, g_u_law_cell, atI_nat', hg, hd, cellAt, h]
  · have hd : decide ((k : Int) < (ns.length : Int)) = false := decide_eq_false (by omega)
    have hg : ns[k]? = none := List.getElem?_eq_none (by omega)
    simp [f_u_law_cell, g_u_law_cell, hd, cellAt, hg, h, oMul_int hm]
/-! ### the greatest common divisor -/
theorem gcd_loop : ∀ (b a : Nat) (s : Sl), ∃ n s', whN (mB (mOp oGt (mPk 1) (mD (mC (.int 0))))) (mSeq (mSet 2 (mOp oMod (mD (mCl cInt (mCons (mPk 0) (mNil)))) (mPk 1))) (mSeq (mSet 0 (mVar 1)) (mSet 1 (mVar 2)))) n
    [.fr (.int (a : Int)), .fr (.int (b : Int)), s] = .ok .nx [.fr (.int (Nat.gcd a b : Nat)), .fr (.int 0), s'] := fun b => by
  induction b using Nat.strongRecOn with
  | ind b ih =>
    intro a s
    by_cases h : b = 0
    · subst h
      exact ⟨1, s, by simp [whN]⟩
    · have hb : ((b : Nat) : Int) ≠ 0 := by omega
      obtain ⟨n, s', e⟩ := ih (a % b) (Nat.mod_lt _ (by omega)) b (.fr (.int ((a % b : Nat) : Int)))
      have hf : ((a : Nat) : Int).fmod (b : Int) = ((a % b : Nat) : Int) := by
        rw [Int.fmod_eq_emod_of_nonneg _ (by omega)]
        rfl
      have hp : 0 < b := by omega
      refine ⟨n + 1, s', ?_⟩
      rw [whN]
      simp [hp, oMod_int hb, hf, h]
      have hg : Nat.gcd a b = Nat.gcd b (a % b) := by rw [Nat.gcd_comm, Nat.gcd_rec, Nat.gcd_comm]
      rw [hg, ← e]
      simp
theorem gcd_eq {a b : Int} : f_u_law_gcd [.int a, .int b] = .ok (.int (Int.gcd a b : Nat)) := by
  obtain ⟨n, s', e⟩ := gcd_loop b.natAbs a.natAbs .un
  have hw := mWh_eq e (fun z => nomatch z)
  simp [f_u_law_gcd, g_u_law_gcd, hw, Int.gcd]
/-! ### ratios -/
/-- a ratio as it is written: its number in lowest terms -/
def enc (q : Rat) : D := .tup [.int q.num, .int (q.den : Int)]
theorem low_num {n d : Int} (hd : d ≠ 0) : (if d < 0 then n.fdiv (0 - (Int.gcd n d : Nat)) else n.fdiv (Int.gcd n d : Nat)) = (Rat.divInt n d).num := by
  have hg : Int.gcd n d ≠ 0 := fun z => hd (Int.gcd_eq_zero_iff.mp z).2
  have hdv : ((Int.gcd n d : Nat) : Int) ∣ n := Int.gcd_dvd_left ..
  obtain ⟨k, hk⟩ := hdv
  have hgi : ((Int.gcd n d : Nat) : Int) ≠ 0 := by omega
  rw [Rat.num_divInt, Int.gcd_comm d n]
  generalize hG : ((Int.gcd n d : Nat) : Int) = G at *
  split
  · rename_i h
    rw [Int.sign_eq_neg_one_of_neg h, hk]
    have e1 : (G * k).fdiv (0 - G) = -k := by
      have : G * k = (0 - G) * (-k) := by grind
      rw [this, Int.mul_fdiv_cancel_left _ (by omega)]
    have e2 : (-1 * (G * k)) / G = -k := by
      have : -1 * (G * k) = G * (-k) := by grind
      rw [this, Int.mul_ediv_cancel_left _ hgi]
    rw [e1, e2]
  · rename_i h
    have hs : d.sign = 1 := Int.sign_eq_one_of_pos (by omega)
    rw [hs, hk, Int.mul_fdiv_cancel_left _ hgi, Int.one_mul, Int.mul_ediv_cancel_left _ hgi]
theorem low_den {n d : Int} (hd : d ≠ 0) : (if d < 0 then d.fdiv (0 - (Int.gcd n d : Nat)) else d.fdiv (Int.gcd n d : Nat)) = ((Rat.divInt n d).den : Int) := by
  have hg : Int.gcd n d ≠ 0 := fun z => hd (Int.gcd_eq_zero_iff.mp z).2
  have hdv : ((Int.gcd n d : Nat) : Int) ∣ d := Int.gcd_dvd_right ..
  obtain ⟨k, hk⟩ := hdv
  have hgi : ((Int.gcd n d : Nat) : Int) ≠ 0 := by omega
  rw [Rat.den_divInt, if_neg hd, Int.gcd_comm d n]
  have hN : d.natAbs = Int.gcd n d * k.natAbs := by
    have := congrArg Int.natAbs hk
    rw [Int.natAbs_mul, Int.natAbs_natCast] at this
    exact this
  rw [hN, Nat.mul_div_cancel_left _ (by omega)]
  generalize hG : ((Int.gcd n d : Nat) : Int) = G at *
  have hGp : 0 < G := by omega
  split
  · rename_i h
    have hkn : k < 0 := by
      rw [hk] at h
      by_cases hk0 : k < 0
      · exact hk0
      · exact absurd h (Int.not_lt.mpr (Int.mul_nonneg (by omega) (by omega)))
    have e1 : (G * k).fdiv (0 - G) = -k := by
      have : G * k = (0 - G) * (-k) := by grind
      rw [this, Int.mul_fdiv_cancel_left _ (by omega)]
    rw [hk, e1]
    omega
  · rename_i h
    have hkp : 0 ≤ k := by
      rw [hk] at h
      by_cases hk0 : k < 0
      · exact absurd (Int.mul_neg_of_pos_of_neg hGp hk0) h
      · omega
    rw [hk, Int.mul_fdiv_cancel_left _ hgi]
    omega
theorem low_eq {n d : Int} (hd : d ≠ 0) : f_u_law_low [.int n, .int d] = .ok (enc (Rat.divInt n d)) := by
  have hg : ((Int.gcd n d : Nat) : Int) ≠ 0 := fun z => hd (Int.gcd_eq_zero_iff.mp (Int.natCast_eq_zero.mp z)).2
  have h1 := low_num (n := n) hd
  have h2 := low_den (n := n) hd
  by_cases h : d < 0
  · rw [if_pos h] at h1 h2
    have hg2 : 0 - ((Int.gcd n d : Nat) : Int) ≠ 0 := by omega
    simp only [Int.zero_sub] at h1 h2 hg2
    simp [f_u_law_low, g_u_law_low, gcd_eq, h, oDiv_int (i := n) hg2, oDiv_int (i := d) hg2, h1, h2, enc, hg]
  · rw [if_neg h] at h1 h2
    simp [f_u_law_low, g_u_law_low, gcd_eq, h, oDiv_int (i := n) hg, oDiv_int (i := d) hg, h1, h2, enc]
/-- n / d, zero over zero being zero -/
def ratOf (n d : Int) : Rat := if d = 0 then 0 else Rat.divInt n d
theorem ratio_eq {n d : Int} : f_u_law_ratio [.int n, .int d] = .ok (enc (ratOf n d)) := by
  by_cases h : d = 0
  · subst h
    simp [f_u_law_ratio, g_u_law_ratio, ratOf, enc]
  · have hb : (d == 0) = false := beq_eq_false_iff_ne.mpr h
    simp [f_u_law_ratio, g_u_law_ratio, ratOf, low_eq h, h, hb]
/-! ### loops and comprehensions that are pure -/
theorem compL_pure {vs : List Nat} {γ : D → En → Option En} {cond : M Bool} {elt : M D} {env : En} {h : D → D} : ∀ {xs : List D} {acc : List D}, (∀ x ∈ xs, ∃ e1 e2 e3, γ x env = some e1 ∧ cond e1 = .ok true e2 ∧ elt e2 = .ok (h x) e3 ∧ wipeE e3 vs = env) → compL vs γ cond elt xs acc env = .ok (acc ++ xs.map h) env
  | [], acc, _ => by simp [compL]
  | x :: xs, acc, H => by
    obtain ⟨e1, e2, e3, h1, h2, h3, h4⟩ := H x List.mem_cons_self
    unfold compL
    rw [h1]
    dsimp only
    rw [h2]
    dsimp only
    rw [h3]
    dsimp only
    rw [h4, compL_pure fun y hy => H y (List.mem_cons_of_mem _ hy)]
    simp
theorem compL_map {α : Type} {enc : α → D} {vs : List Nat} {γ : D → En → Option En} {cond : M Bool} {elt : M D} {env : En} {h : α → D} : ∀ {xs : List α} {acc : List D}, (∀ x ∈ xs, ∃ e1 e2 e3, γ (enc x) env = some e1 ∧ cond e1 = .ok true e2 ∧ elt e2 = .ok (h x) e3 ∧ wipeE e3 vs = env) → compL vs γ cond elt (xs.map enc) acc env = .ok (acc ++ xs.map h) env
  | [], acc, _ => by simp [compL]
  | x :: xs, acc, H => by
    obtain ⟨e1, e2, e3, h1, h2, h3, h4⟩ := H x List.mem_cons_self
    rw [List.map_cons]
    unfold compL
    rw [h1]
    dsimp only
    rw [h2]
    dsimp only
    rw [h3]
    dsimp only
    rw [h4, compL_map fun y hy => H y (List.mem_cons_of_mem _ hy)]
    simp
theorem compL_filter {vs : List Nat} {γ : D → En → Option En} {cond : M Bool} {elt : M D} {env : En} {h : D → D} {p : D → Bool} : ∀ {xs : List D} {acc : List D}, (∀ x ∈ xs, ∃ e1 e2, γ x env = some e1 ∧ cond e1 = .ok (p x) e2 ∧ (p x = true → ∃ e3, elt e2 = .ok (h x) e3 ∧ wipeE e3 vs = env) ∧ (p x = false → wipeE e2 vs = env)) →
    compL vs γ cond elt xs acc env = .ok (acc ++ (xs.filter p).map h) env
  | [], acc, _ => by simp [compL]
  | x :: xs, acc, H => by
    obtain ⟨e1, e2, h1, h2, h3, h4⟩ := H x List.mem_cons_self
    have ih := fun acc => compL_filter (acc := acc) fun y hy => H y (List.mem_cons_of_mem x hy)
    unfold compL
    rw [h1]
    dsimp only
    rw [h2]
    cases hp : p x with
    | true =>
      obtain ⟨e3, q1, q2⟩ := h3 hp
      dsimp only
      rw [q1]
      dsimp only
      rw [q2, ih]
      simp [hp]
    | false =>
      dsimp only
      rw [h4 hp, ih]
      simp [hp]
/-- a loop by its fold: E s is the state of the slots at the fold's s, whatever the loop's own slots hold -/
theorem forL_fold {σ : Type} {γ : D → En → Option En} {g : M Fl} (E : σ → En → Prop) (step : σ → D → σ) : ∀ {xs : List D} {s : σ} {env : En}, E s env → (∀ x ∈ xs, ∀ s env, E s env → ∃ e1 e2, γ x env = some e1 ∧ g e1 = .ok .nx e2 ∧ E (step s x) e2) →
    ∃ env', forL γ g xs env = .ok .nx env' ∧ E (xs.foldl step s) env'
  | [], s, env, h, _ => ⟨env, rfl, h⟩
  | x :: xs, s, env, h, H => by
    obtain ⟨e1, e2, h1, h2, h3⟩ := H x List.mem_cons_self s env h
    obtain ⟨env', q1, q2⟩ := forL_fold E step h3 fun y hy => H y (List.mem_cons_of_mem _ hy)
    refine ⟨env', ?_, q2⟩
    rw [forL_cons, h1]
    dsimp only
    rw [h2]
    exact q1
theorem upTo_len {lo : Int} {n : Nat} : (Iv.upTo lo n).length = n := by simp [Iv.upTo]
theorem mem_upTo {n : Nat} {x : D} (h : x ∈ Iv.upTo 0 n) : ∃ k : Nat, k < n ∧ x = .int (k : Int) := by
  unfold Iv.upTo at h
  obtain ⟨k, h1, h2⟩ := List.mem_map.mp h
  exact ⟨k, List.mem_range.mp h1, by rw [← h2, Int.zero_add]⟩
theorem small_nat {n : Nat} (h : n ≤ 1000000) : small (n : Int) = true := by
  unfold small
  rw [Bool.and_eq_true, decide_eq_true_eq, decide_eq_true_eq]
  omega

/-! ### the same data -/
noncomputable def g_u_law_same (f_u_law_same : List D → FR) : M Fl :=
    mSeq (mIfS (mB (mOp oIs (mPk 1) (mD (mC .non)))) (mRet (mD (mOp oIs (mPk 0) (mD (mC .non))))) (mNx))
    (mSeq (mIfS (mB (mCl cIsi (mCons (mPk 1) (mCons (mD (mC (.ty "bool"))) (mNil))))) (mRet (mD (mAndV (mCl cIsi (mCons (mPk 0) (mCons (mD (mC (.ty "bool"))) (mNil)))) (mOp oEq (mPk 0) (mPk 1))))) (mNx))
    (mSeq (mIfS (mB (mCl cIsi (mCons (mPk 1) (mCons (mD (mC (.ty "int"))) (mNil))))) (mRet (mD (mAndV (mCl cIsi (mCons (mPk 0) (mCons (mD (mC (.ty "int"))) (mNil)))) (mAndV (mNotV (mCl cIsi (mCons (mPk 0) (mCons (mD (mC (.ty "bool"))) (mNil))))) (mOp oEq (mPk 0) (mPk 1)))))) (mNx))
    (mSeq (mIfS (mB (mCl cIsi (mCons (mPk 1) (mCons (mD (mC (.ty "str"))) (mNil))))) (mRet (mD (mAndV (mCl cIsi (mCons (mPk 0) (mCons (mD (mC (.ty "str"))) (mNil)))) (mOp oEq (mPk 0) (mPk 1))))) (mNx))
    (mSeq (mIfS (mB (mCl cIsi (mCons (mPk 1) (mCons (mD (mC (.ty "list"))) (mNil))))) (mIfS (mOrB (mNotB (mB (mCl cIsi (mCons (mPk 0) (mCons (mD (mC (.ty "list"))) (mNil)))))) (mB (mOp oNe (mD (mCl cLen (mCons (mPk 0) (mNil)))) (mD (mCl cLen (mCons (mPk 1) (mNil))))))) (mRet (mD (mC (.bl false)))) (mNx)) (mIfS (mOrB (mNotB (mB (mCl cIsi (mCons (mPk 0) (mCons (mD (mC (.ty "tuple"))) (mNil)))))) (mB (mOp oNe (mD (mCl cLen (mCons (mPk 0) (mNil)))) (mD (mCl cLen (mCons (mPk 1) (mNil))))))) (mRet (mD (mC (.bl false)))) (mNx)))
    (mRet (mD (mCl cAll (mCons (mD (mLc [2] (γN 2) (mRng1 (mCons (mD (mCl cLen (mCons (mPk 1) (mNil)))) (mNil))) (mYes) (mD (mCall 2 f_u_law_same (mCons (mD (mOp oIx (mPk 0) (mPk 2))) (mCons (mD (mOp oIx (mPk 1) (mPk 2))) (mNil))))))) (mNil)))))))))
noncomputable def sameF : Nat → List D → FR
  | 0, _ => .bad
  | n + 1, ds => runF 3 (g_u_law_same (sameF n)) ds
/-- of eight levels -/
noncomputable def f_u_law_same : List D → FR := sameF 8
/-- data of so many levels -/
def Pl : Nat → D → Prop
  | 0, _ => False
  | _ + 1, .non => True
  | _ + 1, .bl _ => True
  | _ + 1, .int _ => True
  | _ + 1, .str _ => True
  | n + 1, .tup l => l.length ≤ 90000 ∧ ∀ x ∈ l, Pl n x
  | n + 1, .lst l => l.length ≤ 90000 ∧ ∀ x ∈ l, Pl n x
  | _ + 1, _ => False
theorem cAll_map {α : Type} {l : List α} {p : α → Bool} : cAll [.lst (l.map fun x => D.bl (p x))] = some (.d (.bl (l.all p))) := by
  have e : l.map (fun x => D.bl (p x)) = (l.map p).map D.bl := by rw [List.map_map]; rfl
  show (bools _).map _ = _
  rw [e, bools_map]
  simp
theorem cAny_map {α : Type} {l : List α} {p : α → Bool} : cAny [.lst (l.map fun x => D.bl (p x))] = some (.d (.bl (l.any p))) := by
  have e : l.map (fun x => D.bl (p x)) = (l.map p).map D.bl := by rw [List.map_map]; rfl
  show (bools _).map _ = _
  rw [e, bools_map]
  simp
theorem same_seq {n : Nat} {l : List D} {c : List D → D} (hc : c = D.tup ∨ c = D.lst) (hl : l.length ≤ 90000) (ih : ∀ x ∈ l, sameF n [x, x] = .ok (.bl true)) : sameF (n + 1) [c l, c l] = .ok (.bl true) := by
  have key : compL [2] (γN 2) mYes (mD (mCall 2 (sameF n) (mCons (mD (mOp oIx (mPk 0) (mPk 2))) (mCons (mD (mOp oIx (mPk 1) (mPk 2))) mNil)))) (Iv.upTo 0 l.length) [] [.fr (c l), .fr (c l), .un] = .ok ((Iv.upTo 0 l.length).map fun _ => D.bl true) [.fr (c l), .fr (c l), .un] := by
    refine compL_pure fun x hx => ?_
    obtain ⟨k, hk, rfl⟩ := mem_upTo hx
    have hg : l[k]? = some l[k] := List.getElem?_eq_getElem hk
    refine ⟨[.fr (c l), .fr (c l), .fr (.int k)], _, [.fr (c l), .fr (c l), .fr (.int k)], rfl, rfl, ?_, rfl⟩
    rcases hc with rfl | rfl <;> simp [atI_nat', hg, ih _ (List.getElem_mem hk)]
  have hs : small (l.length : Int) = true := small_nat (by omega)
  have hall : cAll [.lst ((Iv.upTo 0 l.length).map fun _ => D.bl true)] = some (.d (.bl true)) := by
    rw [cAll_map (p := fun _ => true)]
    simp
  rcases hc with rfl | rfl <;> simp [sameF, g_u_law_same, isN, hs, upTo_len, hl, key, hall]
theorem same_self : ∀ {n : Nat} {d : D}, Pl n d → sameF n [d, d] = .ok (.bl true)
  | 0, _, h => h.elim
  | n + 1, .non, _ => by simp [sameF, g_u_law_same, isN]
  | n + 1, .bl b, _ => by simp [sameF, g_u_law_same, isN]
  | n + 1, .int b, _ => by simp [sameF, g_u_law_same, isN]
  | n + 1, .str b, _ => by simp [sameF, g_u_law_same, isN]
  | n + 1, .tup l, h => same_seq (.inl rfl) h.1 fun x hx => same_self (h.2 x hx)
  | n + 1, .lst l, h => same_seq (.inr rfl) h.1 fun x hx => same_self (h.2 x hx)
  | n + 1, .ty _, h => h.elim
  | n + 1, .scr _, h => h.elim
  | n + 1, .dct _ _, h => h.elim
theorem Pl.enc {n : Nat} {q : Rat} : Pl (n + 2) (enc q) := ⟨by simp, fun x hx => by
  rcases List.mem_cons.mp hx with e | hx
  · rw [e]; exact True.intro
  · rw [List.mem_singleton.mp hx]; exact True.intro⟩
theorem same_enc {q : Rat} : f_u_law_same [enc q, enc q] = .ok (.bl true) := same_self (n := 8) Pl.enc

/-! ### is it a ratio -/
noncomputable def g_u_law_is_integer : M Fl :=
    mRet (mD (mAndV (mCl cIsi (mCons (mPk 0) (mCons (mD (mC (.ty "int"))) (mNil)))) (mNotV (mCl cIsi (mCons (mPk 0) (mCons (mD (mC (.ty "bool"))) (mNil)))))))
noncomputable def f_u_law_is_integer : List D → FR := runF 1 g_u_law_is_integer
noncomputable def g_u_law_is_ratio : M Fl :=
    mSeq (mIfS (mOrB (mNotB (mB (mCl cIsi (mCons (mPk 0) (mCons (mD (mC (.ty "tuple"))) (mNil)))))) (mB (mOp oNe (mD (mCl cLen (mCons (mPk 0) (mNil)))) (mD (mC (.int 2)))))) (mRet (mD (mC (.bl false)))) (mNx))
    (mSeq (mIfS (mOrB (mNotB (mB (mCall 1 f_u_law_is_integer (mCons (mD (mOp oIx (mPk 0) (mD (mC (.int 0))))) (mNil))))) (mNotB (mB (mCall 1 f_u_law_is_integer (mCons (mD (mOp oIx (mPk 0) (mD (mC (.int 1))))) (mNil)))))) (mRet (mD (mC (.bl false)))) (mNx))
    (mRet (mD (mAndV (mOp oGe (mD (mOp oIx (mPk 0) (mD (mC (.int 1))))) (mD (mC (.int 1)))) (mOp oEq (mD (mCall 2 f_u_law_gcd (mCons (mD (mOp oIx (mPk 0) (mD (mC (.int 0))))) (mCons (mD (mOp oIx (mPk 0) (mD (mC (.int 1))))) (mNil))))) (mD (mC (.int 1))))))))
noncomputable def f_u_law_is_ratio : List D → FR := runF 1 g_u_law_is_ratio
theorem is_int {i : Int} : f_u_law_is_integer [.int i] = .ok (.bl true) := by simp [f_u_law_is_integer, g_u_law_is_integer]
theorem is_rat {q : Rat} : f_u_law_is_ratio [enc q] = .ok (.bl true) := by
  have h1 : (1 : Int) ≤ (q.den : Int) := by have := q.den_pos; omega
  have h2 : Int.gcd q.num (q.den : Int) = 1 := q.reduced
  simp [f_u_law_is_ratio, g_u_law_is_ratio, enc, is_int, h1, gcd_eq, h2]
end Law

set_option Elab.async false
set_option linter.all false
set_option maxHeartbeats 1000000
set_option maxRecDepth 100000
/-! Ratios of the program. -/
namespace Law
open PySem PySem.Spec PyProof.Rows L2 Evl Iv
/-! ### sizes of ratios -/
def Sz (b : Nat) (q : Rat) : Prop := q.num.natAbs < 2 ^ b ∧ q.den < 2 ^ b
theorem Sz.mono {a b : Nat} {q : Rat} (h : Sz a q) (hl : a ≤ b) : Sz b q :=
  ⟨Nat.lt_of_lt_of_le h.1 (Nat.pow_le_pow_right (by decide) hl), Nat.lt_of_lt_of_le h.2 (Nat.pow_le_pow_right (by decide) hl)⟩
theorem divInt_size {n d : Int} (hd : d ≠ 0) : (Rat.divInt n d).num.natAbs ≤ n.natAbs ∧ (Rat.divInt n d).den ≤ d.natAbs := by
  rw [Rat.num_divInt, Rat.den_divInt, if_neg hd]
  constructor
  · have hg : Int.gcd d n ≠ 0 := fun z => hd (Int.gcd_eq_zero_iff.mp z).1
    obtain ⟨k, hk⟩ := (Int.gcd_dvd_right .. : ((Int.gcd d n : Nat) : Int) ∣ n)
    have hgi : ((Int.gcd d n : Nat) : Int) ≠ 0 := by omega
    generalize hG : ((Int.gcd d n : Nat) : Int) = G at *
    have e : d.sign * n / G = d.sign * k := by
      rw [hk, show d.sign * (G * k) = G * (d.sign * k) by grind, Int.mul_ediv_cancel_left _ hgi]
    rw [e, hk, Int.natAbs_mul, Int.natAbs_mul, Int.natAbs_sign_of_ne_zero hd, Nat.one_mul]
    exact Nat.le_mul_of_pos_left _ (by omega)
  · exact Nat.div_le_self _ _
theorem divInt_sz {n d : Int} {b : Nat} (hd : d ≠ 0) (hn : n.natAbs < 2 ^ b) (hb : d.natAbs < 2 ^ b) : Sz b (Rat.divInt n d) :=
  ⟨Nat.lt_of_le_of_lt (divInt_size hd).1 hn, Nat.lt_of_le_of_lt (divInt_size hd).2 hb⟩
theorem add_divInt (p q : Rat) : p + q = Rat.divInt (p.num * q.den + q.num * p.den) (p.den * q.den) := by
  have hp : (p.den : Int) ≠ 0 := by have := p.den_nz; omega
  have hq : (q.den : Int) ≠ 0 := by have := q.den_nz; omega
  rw [← Rat.divInt_add_divInt _ _ hp hq, Rat.num_divInt_den, Rat.num_divInt_den]
theorem sub_divInt (p q : Rat) : p - q = Rat.divInt (p.num * q.den - q.num * p.den) (p.den * q.den) := by
  have hp : (p.den : Int) ≠ 0 := by have := p.den_nz; omega
  have hq : (q.den : Int) ≠ 0 := by have := q.den_nz; omega
  rw [← Rat.divInt_sub_divInt _ _ hp hq, Rat.num_divInt_den, Rat.num_divInt_den]
theorem mul_divInt (p q : Rat) : p * q = Rat.divInt (p.num * q.num) (p.den * q.den) := by
  rw [← Rat.divInt_mul_divInt, Rat.num_divInt_den, Rat.num_divInt_den]
theorem div_divInt (p q : Rat) : p / q = Rat.divInt (p.num * q.den) (p.den * q.num) := by
  rw [Rat.div_def, Rat.inv_def, ← Rat.divInt_mul_divInt, Rat.num_divInt_den]
theorem dens_ne (p q : Rat) : (p.den : Int) * (q.den : Int) ≠ 0 := by
  have hp := p.den_pos
  have hq := q.den_pos
  have : 0 < (p.den : Int) * (q.den : Int) := Int.mul_pos (by omega) (by omega)
  omega
theorem lt_mul {x y a b : Nat} (hx : x < 2 ^ a) (hy : y < 2 ^ b) : x * y < 2 ^ (a + b) := by
  rw [Nat.pow_add]
  exact Nat.mul_lt_mul'' hx hy
theorem Sz.add {a b : Nat} {p q : Rat} (hp : Sz a p) (hq : Sz b q) : Sz (a + b + 1) (p + q) := by
  rw [add_divInt]
  have h1 := lt_mul hp.1 hq.2
  have h2 := lt_mul hq.1 hp.2
  have h3 := lt_mul hp.2 hq.2
  rw [Nat.add_comm b a] at h2
  have h4 : 2 ^ (a + b + 1) = 2 ^ (a + b) + 2 ^ (a + b) := by rw [Nat.pow_succ]; omega
  refine divInt_sz (dens_ne p q) ?_ ?_
  · have : (p.num * q.den + q.num * p.den).natAbs ≤ (p.num * q.den).natAbs + (q.num * p.den).natAbs := Int.natAbs_add_le _ _
    rw [Int.natAbs_mul, Int.natAbs_mul, Int.natAbs_natCast, Int.natAbs_natCast] at this
    omega
  · rw [Int.natAbs_mul, Int.natAbs_natCast, Int.natAbs_natCast]
    omega
theorem Sz.neg {a : Nat} {p : Rat} (hp : Sz a p) : Sz a (-p) := ⟨by rw [Rat.neg_num, Int.natAbs_neg]; exact hp.1, by rw [Rat.neg_den]; exact hp.2⟩
theorem Sz.sub {a b : Nat} {p q : Rat} (hp : Sz a p) (hq : Sz b q) : Sz (a + b + 1) (p - q) := by
  rw [Rat.sub_eq_add_neg]
  exact hp.add hq.neg
theorem Sz.mul {a b : Nat} {p q : Rat} (hp : Sz a p) (hq : Sz b q) : Sz (a + b) (p * q) := by
  rw [mul_divInt]
  refine divInt_sz (dens_ne p q) ?_ ?_
  · rw [Int.natAbs_mul]
    exact lt_mul hp.1 hq.1
  · rw [Int.natAbs_mul, Int.natAbs_natCast, Int.natAbs_natCast]
    exact lt_mul hp.2 hq.2
theorem num_ne {q : Rat} (h : q ≠ 0) : q.num ≠ 0 := fun z => h (Rat.num_eq_zero.mp z)
theorem Sz.div {a b : Nat} {p q : Rat} (hp : Sz a p) (hq : Sz b q) (h0 : q ≠ 0) : Sz (a + b) (p / q) := by
  rw [div_divInt]
  have hd : (p.den : Int) * q.num ≠ 0 := Int.mul_ne_zero (by have := p.den_nz; omega) (num_ne h0)
  refine divInt_sz hd ?_ ?_
  · rw [Int.natAbs_mul, Int.natAbs_natCast]
    exact lt_mul hp.1 hq.2
  · rw [Int.natAbs_mul, Int.natAbs_natCast]
    exact lt_mul hp.2 hq.1
theorem sz_zero : Sz 1 0 := ⟨by decide, by decide⟩
theorem sz_one : Sz 1 1 := ⟨by decide, by decide⟩

/-! ### the program's functions -/
noncomputable def g_make_ratio : M Fl :=
    mSeq (mIfS (mB (mOp oEq (mPk 1) (mD (mC (.int 0))))) ((fun _ => .bad : M Fl)) (mNx))
    (mSeq (mSet 2 (mCl cGcd (mCons (mPk 0) (mCons (mPk 1) (mNil)))))
    (mSeq (mIfS (mB (mOp oLt (mPk 1) (mD (mC (.int 0))))) (mSet 2 (mUn oNeg (mPk 2))) (mNx))
    (mRet (mD (mTup (mCons (mD (mOp oDiv (mPk 0) (mPk 2))) (mCons (mD (mOp oDiv (mPk 1) (mPk 2))) (mNil))))))))
noncomputable def f_make_ratio : List D → FR := runF 3 g_make_ratio
noncomputable def g_add : M Fl :=
    mRet (mD (mCall 2 f_make_ratio (mCons (mD (mOp oAdd (mD (mOp oMul (mD (mOp oIx (mPk 0) (mD (mC (.int 0))))) (mD (mOp oIx (mPk 1) (mD (mC (.int 1))))))) (mD (mOp oMul (mD (mOp oIx (mPk 1) (mD (mC (.int 0))))) (mD (mOp oIx (mPk 0) (mD (mC (.int 1))))))))) (mCons (mD (mOp oMul (mD (mOp oIx (mPk 0) (mD (mC (.int 1))))) (mD (mOp oIx (mPk 1) (mD (mC (.int 1))))))) (mNil)))))
noncomputable def f_add : List D → FR := runF 2 g_add
noncomputable def g_subtract : M Fl :=
    mRet (mD (mCall 2 f_make_ratio (mCons (mD (mOp oSub (mD (mOp oMul (mD (mOp oIx (mPk 0) (mD (mC (.int 0))))) (mD (mOp oIx (mPk 1) (mD (mC (.int 1))))))) (mD (mOp oMul (mD (mOp oIx (mPk 1) (mD (mC (.int 0))))) (mD (mOp oIx (mPk 0) (mD (mC (.int 1))))))))) (mCons (mD (mOp oMul (mD (mOp oIx (mPk 0) (mD (mC (.int 1))))) (mD (mOp oIx (mPk 1) (mD (mC (.int 1))))))) (mNil)))))
noncomputable def f_subtract : List D → FR := runF 2 g_subtract
theorem make_eq {n d : Int} (hd : d ≠ 0) : f_make_ratio [.int n, .int d] = .ok (enc (Rat.divInt n d)) := by
  have hg : ((Int.gcd n d : Nat) : Int) ≠ 0 := fun z => hd (Int.gcd_eq_zero_iff.mp (Int.natCast_eq_zero.mp z)).2
  have h1 := low_num (n := n) hd
  have h2 := low_den (n := n) hd
  have hb : (d == 0) = false := beq_eq_false_iff_ne.mpr hd
  have eg : ((Nat.gcd n.natAbs d.natAbs : Nat) : Int) = ((Int.gcd n d : Nat) : Int) := rfl
  by_cases h : d < 0
  · rw [if_pos h, Int.zero_sub] at h1 h2
    have hg2 : -((Int.gcd n d : Nat) : Int) ≠ 0 := by omega
    simp [f_make_ratio, g_make_ratio, hb, hd, eg, h, oDiv_int (i := n) hg2, oDiv_int (i := d) hg2, h1, h2, enc, hg]
  · rw [if_neg h] at h1 h2
    simp [f_make_ratio, g_make_ratio, hb, hd, eg, h, oDiv_int (i := n) hg, oDiv_int (i := d) hg, h1, h2, enc]
theorem mk_nd {p q : Rat} {a b : Nat} (hp : Sz a p) (hq : Sz b q) (h : a + b ≤ 130000000) : mulOk p.num q.den = true := mulOk_of hp.1 (by rw [Int.natAbs_natCast]; exact hq.2) h
theorem mk_dd {p q : Rat} {a b : Nat} (hp : Sz a p) (hq : Sz b q) (h : a + b ≤ 130000000) : mulOk p.den q.den = true := mulOk_of (by rw [Int.natAbs_natCast]; exact hp.2) (by rw [Int.natAbs_natCast]; exact hq.2) h
theorem mk_nn {p q : Rat} {a b : Nat} (hp : Sz a p) (hq : Sz b q) (h : a + b ≤ 130000000) : mulOk p.num q.num = true := mulOk_of hp.1 hq.1 h
theorem mk_dn {p q : Rat} {a b : Nat} (hp : Sz a p) (hq : Sz b q) (h : a + b ≤ 130000000) : mulOk p.den q.num = true := mulOk_of (by rw [Int.natAbs_natCast]; exact hp.2) hq.1 h
theorem add_eq {p q : Rat} {a b : Nat} (hp : Sz a p) (hq : Sz b q) (h : a + b ≤ 130000000) : f_add [enc p, enc q] = .ok (enc (p + q)) := by
  have h' : b + a ≤ 130000000 := by omega
  rw [add_divInt]
  simp [f_add, g_add, enc, oMul_int (mk_nd hp hq h), oMul_int (mk_nd hq hp h'), oMul_int (mk_dd hp hq h), make_eq (dens_ne p q)]
theorem sub_eq {p q : Rat} {a b : Nat} (hp : Sz a p) (hq : Sz b q) (h : a + b ≤ 130000000) : f_subtract [enc p, enc q] = .ok (enc (p - q)) := by
  have h' : b + a ≤ 130000000 := by omega
  rw [sub_divInt]
  simp [f_subtract, g_subtract, enc, oMul_int (mk_nd hp hq h), oMul_int (mk_nd hq hp h'), oMul_int (mk_dd hp hq h), make_eq (dens_ne p q)]
@[simp] theorem ix_num {q : Rat} : oIx (enc q) (.int 0) = some (.d (.int q.num)) := rfl
@[simp] theorem ix_den {q : Rat} : oIx (enc q) (.int 1) = some (.d (.int (q.den : Int))) := rfl
theorem cross {q : Rat} {n d : Int} (hd : d ≠ 0) (h : q = Rat.divInt n d) : q.num * d = n * (q.den : Int) := by
  have hq : (q.den : Int) ≠ 0 := by have := q.den_nz; omega
  have e : Rat.divInt q.num q.den = Rat.divInt n d := by rw [Rat.num_divInt_den, h]
  exact (Rat.divInt_eq_divInt_iff hq hd).mp e
theorem add_cross (a b : Rat) : (a + b).num * ((a.den : Int) * b.den) = (a.num * b.den + b.num * a.den) * ((a + b).den : Int) := cross (dens_ne a b) (add_divInt a b)
theorem sub_cross (a b : Rat) : (a - b).num * ((a.den : Int) * b.den) = (a.num * b.den - b.num * a.den) * ((a - b).den : Int) := cross (dens_ne a b) (sub_divInt a b)
theorem mul_cross (a b : Rat) : (a * b).num * ((a.den : Int) * b.den) = a.num * b.num * ((a * b).den : Int) := cross (dens_ne a b) (mul_divInt a b)
theorem enc_neg {q : Rat} : D.tup [.int (0 - q.num), .int (q.den : Int)] = enc (-q) := by
  unfold enc
  rw [Rat.neg_num, Rat.neg_den, Int.zero_sub]
theorem enc_neg' {q : Rat} : D.tup [.int (-q.num), .int (q.den : Int)] = enc (-q) := by
  unfold enc
  rw [Rat.neg_num, Rat.neg_den]
theorem enc_zero : D.tup [.int 0, .int 1] = enc 0 := rfl
theorem enc_one : D.tup [.int 1, .int 1] = enc 1 := rfl
/-! ### sizes of cells -/
theorem bits_lt {i : Int} {b : Nat} (h : Builtin.Int.intBits i ≤ b) : i.natAbs < 2 ^ b := by
  unfold Builtin.Int.intBits at h
  by_cases h0 : i.natAbs = 0
  · rw [h0]; exact Nat.two_pow_pos b
  · have h1 : ¬ ((i == 0) = true) := fun z => h0 (by rw [beq_iff_eq] at z; omega)
    have h2 : i.natAbs.log2 + 1 ≤ b := by
      first
        | (rw [if_neg h1] at h; exact h)
        | (simp at h; omega)
    exact (Nat.log2_lt h0).mp (by omega)
theorem cell_sz {ns : List Int} {k b : Nat} (hb : ∀ i ∈ ns, Builtin.Int.intBits i ≤ b) (h64 : 64 ≤ b) (hk : k < 1000000) : (cellAt ns k).natAbs < 2 ^ b := by
  unfold cellAt
  split
  · rename_i v e
    exact bits_lt (hb v (List.mem_of_getElem? e))
  · have h1 : (2 : Nat) ^ 64 ≤ 2 ^ b := Nat.pow_le_pow_right (by decide) h64
    have h2 : (10000000 : Nat) < 2 ^ 64 := by decide
    omega
theorem ratOf_sz {n d : Int} {b : Nat} (hn : n.natAbs < 2 ^ b) (hd : d.natAbs < 2 ^ b) (h1 : 1 ≤ b) : Sz b (ratOf n d) := by
  unfold ratOf
  split
  · exact sz_zero.mono h1
  · rename_i h
    exact divInt_sz h hn hd
/-! ### a loop by what holds of it -/
theorem forL_inv {γ : D → En → Option En} {g : M Fl} {all : List D} (P : Nat → En → Prop) (step : ∀ i x env, all[i]? = some x → P i env → ∃ e1 e2, γ x env = some e1 ∧ g e1 = .ok .nx e2 ∧ P (i + 1) e2) :
    ∀ {xs : List D} {i : Nat} {env : En}, all.drop i = xs → i ≤ all.length → P i env → ∃ env', forL γ g xs env = .ok .nx env' ∧ P all.length env'
  | [], i, env, hx, hi, h => by
    have : i = all.length := by
      have := congrArg List.length hx
      rw [List.length_drop, List.length_nil] at this
      omega
    subst this
    exact ⟨env, rfl, h⟩
  | x :: xs, i, env, hx, hi, h => by
    have hl : i < all.length := by
      have := congrArg List.length hx
      rw [List.length_drop, List.length_cons] at this
      omega
    have hd := List.drop_eq_getElem_cons hl
    rw [hx] at hd
    obtain ⟨h1, h2⟩ := List.cons.inj hd
    have hg : all[i]? = some x := by rw [List.getElem?_eq_getElem hl, h1]
    obtain ⟨e1, e2, q1, q2, q3⟩ := step i x env hg h
    obtain ⟨env', q4, q5⟩ := forL_inv P step (xs := xs) (i := i + 1) (env := e2) h2.symm hl q3
    refine ⟨env', ?_, q5⟩
    rw [forL_cons, q1]
    dsimp only
    rw [q2]
    exact q4
theorem for_inv {γ : D → En → Option En} {g : M Fl} {all : List D} {env : En} (P : Nat → En → Prop) (h0 : P 0 env) (step : ∀ i x env, all[i]? = some x → P i env → ∃ e1 e2, γ x env = some e1 ∧ g e1 = .ok .nx e2 ∧ P (i + 1) e2) :
    ∃ env', forL γ g all env = .ok .nx env' ∧ P all.length env' := forL_inv P step (xs := all) (i := 0) rfl (Nat.zero_le _) h0
/-! ### two ratios: the same, less, greater -/
theorem same_int {n : Nat} {i j : Int} : sameF (n + 1) [.int i, .int j] = .ok (.bl (i == j)) := by simp [sameF, g_u_law_same, isN]
theorem sameF_succ {n : Nat} {ds : List D} : sameF (n + 1) ds = runF 3 (g_u_law_same (sameF n)) ds := rfl
theorem same_two {f : List D → FR} (hf : ∀ i j : Int, f [.int i, .int j] = .ok (.bl (i == j))) {a b c d : Int} : runF 3 (g_u_law_same f) [.tup [.int a, .int b], .tup [.int c, .int d]] = .ok (.bl ((a == c) && ((b == d) && true))) := by
  have e : Iv.upTo 0 2 = [.int 0, .int 1] := rfl
  have hs : small 2 = true := by decide
  have ha : cAll [.lst [.bl (a == c), .bl (b == d)]] = some (.d (.bl ((a == c) && ((b == d) && true)))) := by simp [cAll, Iv.bools]
  have key : compL [2] (γN 2) mYes (mD (mCall 2 f (mCons (mD (mOp oIx (mPk 0) (mPk 2))) (mCons (mD (mOp oIx (mPk 1) (mPk 2))) mNil)))) [.int 0, .int 1] [] [.fr (.tup [.int a, .int b]), .fr (.tup [.int c, .int d]), .un] = .ok [.bl (a == c), .bl (b == d)] [.fr (.tup [.int a, .int b]), .fr (.tup [.int c, .int d]), .un] := by
    simp [compL, hf]
  simp [g_u_law_same, isN, hs, e, key, ha]
theorem same_rat {p q : Rat} : f_u_law_same [enc p, enc q] = .ok (.bl (decide (p = q))) := by
  have e2 : decide (p = q) = ((p.num == q.num) && (((p.den : Int) == (q.den : Int)) && true)) := by
    rw [Bool.eq_iff_iff]
    simp only [decide_eq_true_eq, Bool.and_eq_true, beq_iff_eq]
    constructor
    · intro h; subst h; exact ⟨rfl, rfl, trivial⟩
    · intro h; exact Rat.ext h.1 (by omega)
  rw [e2]
  show sameF (7 + 1) [enc p, enc q] = _
  rw [sameF_succ]
  exact same_two fun i j => same_int (n := 6)
noncomputable def cmpQ (p q : Rat) : Int := if p < q then -1 else if q < p then 1 else 0
noncomputable def g_compare : M Fl :=
    mSeq (mSet 2 (mOp oMul (mD (mOp oIx (mPk 0) (mD (mC (.int 0))))) (mD (mOp oIx (mPk 1) (mD (mC (.int 1)))))))
    (mSeq (mSet 3 (mOp oMul (mD (mOp oIx (mPk 1) (mD (mC (.int 0))))) (mD (mOp oIx (mPk 0) (mD (mC (.int 1)))))))
    (mSeq (mIfS (mB (mOp oLt (mPk 2) (mPk 3))) (mRet (mD (mUn oNeg (mD (mC (.int 1)))))) (mNx))
    (mSeq (mIfS (mB (mOp oGt (mPk 2) (mPk 3))) (mRet (mD (mC (.int 1)))) (mNx))
    (mRet (mD (mC (.int 0)))))))
noncomputable def f_compare : List D → FR := runF 4 g_compare
theorem compare_eq {p q : Rat} {a b : Nat} (hp : Sz a p) (hq : Sz b q) (h : a + b ≤ 130000000) : f_compare [enc p, enc q] = .ok (.int (cmpQ p q)) := by
  have m1 := mk_nd hp hq h
  have m2 := mk_nd hq hp (by omega)
  have l1 := Rat.lt_iff p q
  have l2 := Rat.lt_iff q p
  unfold cmpQ
  by_cases h1 : p < q
  · have h1' := l1.mp h1
    simp [f_compare, g_compare, oMul_int, m1, m2, h1, h1']
  · have h1' : ¬ (p.num * (q.den : Int) < q.num * (p.den : Int)) := fun z => h1 (l1.mpr z)
    by_cases h2 : q < p
    · have h2' := l2.mp h2
      simp [f_compare, g_compare, oMul_int, m1, m2, h1, h2, h1', h2']
    · have h2' : ¬ (q.num * (p.den : Int) < p.num * (q.den : Int)) := fun z => h2 (l2.mpr z)
      simp [f_compare, g_compare, oMul_int, m1, m2, h1, h2, h1', h2']
end Law

set_option Elab.async false
set_option linter.all false
set_option maxRecDepth 100000
set_option maxHeartbeats 4000000
/-! The ratio arithmetic of laws and program; draws. -/
namespace Law
open PySem PySem.Spec PyProof.Rows L2 Evl Iv
noncomputable def g_u_law_add : M Fl :=
    mRet (mD (mCall 2 f_u_law_low (mCons (mD (mOp oAdd (mD (mOp oMul (mD (mOp oIx (mPk 0) (mD (mC (.int 0))))) (mD (mOp oIx (mPk 1) (mD (mC (.int 1))))))) (mD (mOp oMul (mD (mOp oIx (mPk 1) (mD (mC (.int 0))))) (mD (mOp oIx (mPk 0) (mD (mC (.int 1))))))))) (mCons (mD (mOp oMul (mD (mOp oIx (mPk 0) (mD (mC (.int 1))))) (mD (mOp oIx (mPk 1) (mD (mC (.int 1))))))) (mNil)))))
noncomputable def f_u_law_add : List D → FR := runF 2 g_u_law_add
noncomputable def g_u_law_subtract : M Fl :=
    mRet (mD (mCall 2 f_u_law_low (mCons (mD (mOp oSub (mD (mOp oMul (mD (mOp oIx (mPk 0) (mD (mC (.int 0))))) (mD (mOp oIx (mPk 1) (mD (mC (.int 1))))))) (mD (mOp oMul (mD (mOp oIx (mPk 1) (mD (mC (.int 0))))) (mD (mOp oIx (mPk 0) (mD (mC (.int 1))))))))) (mCons (mD (mOp oMul (mD (mOp oIx (mPk 0) (mD (mC (.int 1))))) (mD (mOp oIx (mPk 1) (mD (mC (.int 1))))))) (mNil)))))
noncomputable def f_u_law_subtract : List D → FR := runF 2 g_u_law_subtract
noncomputable def g_u_law_multiply : M Fl :=
    mRet (mD (mCall 2 f_u_law_low (mCons (mD (mOp oMul (mD (mOp oIx (mPk 0) (mD (mC (.int 0))))) (mD (mOp oIx (mPk 1) (mD (mC (.int 0))))))) (mCons (mD (mOp oMul (mD (mOp oIx (mPk 0) (mD (mC (.int 1))))) (mD (mOp oIx (mPk 1) (mD (mC (.int 1))))))) (mNil)))))
noncomputable def f_u_law_multiply : List D → FR := runF 2 g_u_law_multiply
noncomputable def g_multiply : M Fl :=
    mRet (mD (mCall 2 f_make_ratio (mCons (mD (mOp oMul (mD (mOp oIx (mPk 0) (mD (mC (.int 0))))) (mD (mOp oIx (mPk 1) (mD (mC (.int 0))))))) (mCons (mD (mOp oMul (mD (mOp oIx (mPk 0) (mD (mC (.int 1))))) (mD (mOp oIx (mPk 1) (mD (mC (.int 1))))))) (mNil)))))
noncomputable def f_multiply : List D → FR := runF 2 g_multiply
noncomputable def g_divide : M Fl :=
    mRet (mD (mCall 2 f_make_ratio (mCons (mD (mOp oMul (mD (mOp oIx (mPk 0) (mD (mC (.int 0))))) (mD (mOp oIx (mPk 1) (mD (mC (.int 1))))))) (mCons (mD (mOp oMul (mD (mOp oIx (mPk 0) (mD (mC (.int 1))))) (mD (mOp oIx (mPk 1) (mD (mC (.int 0))))))) (mNil)))))
noncomputable def f_divide : List D → FR := runF 2 g_divide
noncomputable def g_u_law_draws : M Fl :=
    mSeq (mSet 2 (mCl cAbs (mCons (mD (mCl cInt (mCons (mPk 0) (mNil)))) (mNil))))
    (mSeq (mSet 3 (mOp oGe (mPk 2) (mD (mOp oPow (mD (mC (.int 10))) (mD (mC (.int 18)))))))
    (mSeq (mSet 4 (mVar 2))
    (mSeq (mSet 5 (mLst (mNil)))
    (mSeq (mFor (γN 6) (mRng1 (mCons (mPk 1) (mNil))) (mIfS (mAndB (mB (mVar 3)) (mB (mOp oGt (mPk 2) (mD (mC (.int 0)))))) (mSeq (mApp 5 (mD (mOp oMod (mD (mCl cInt (mCons (mPk 2) (mNil)))) (mD (mC (.int 5040))))))
    (mSet 2 (mOp oDiv (mPk 2) (mD (mC (.int 5040)))))) (mSeq (mSet 7 (mOp oMod (mD (mCl cInt (mCons (mD (mOp oAdd (mD (mOp oAdd (mD (mOp oMul (mPk 4) (mD (mC (.int 48271))))) (mD (mOp oMul (mD (mOp oAdd (mPk 6) (mD (mC (.int 1))))) (mD (mC (.int 69621))))))) (mD (mC (.int 11))))) (mNil)))) (mD (mC (.int 2147483647)))))
    (mSeq (mSet 7 (mOp oMod (mD (mCl cInt (mCons (mD (mOp oAdd (mD (mOp oMul (mPk 7) (mPk 7))) (mD (mOp oMul (mD (mC (.int 40692))) (mD (mOp oAdd (mPk 6) (mD (mC (.int 3))))))))) (mNil)))) (mD (mC (.int 2147483399)))))
    (mApp 5 (mD (mOp oMod (mD (mCl cInt (mCons (mD (mOp oDiv (mPk 7) (mD (mC (.int 64))))) (mNil)))) (mD (mC (.int 5040))))))))))
    (mRet (mD (mVar 5)))))))
noncomputable def f_u_law_draws : List D → FR := runF 8 g_u_law_draws
noncomputable def g_u_law_discount : M Fl :=
    mSeq (mSet 1 (mOp oAdd (mD (mC (.int 2))) (mD (mOp oMod (mD (mCl cInt (mCons (mPk 0) (mNil)))) (mD (mC (.int 9)))))))
    (mRet (mD (mCall 2 f_u_law_low (mCons (mD (mOp oMod (mD (mOp oDiv (mD (mCl cInt (mCons (mPk 0) (mNil)))) (mD (mC (.int 9))))) (mPk 1))) (mCons (mD (mVar 1)) (mNil))))))
noncomputable def f_u_law_discount : List D → FR := runF 2 g_u_law_discount
theorem ladd_eq {p q : Rat} {a b : Nat} (hp : Sz a p) (hq : Sz b q) (h : a + b ≤ 130000000) : f_u_law_add [enc p, enc q] = .ok (enc (p + q)) := by
  simp [f_u_law_add, g_u_law_add, oMul_int, mk_nd hp hq h, mk_nd hq hp (by omega : b + a ≤ _), mk_dd hp hq h, low_eq (dens_ne p q), add_divInt]
theorem lsub_eq {p q : Rat} {a b : Nat} (hp : Sz a p) (hq : Sz b q) (h : a + b ≤ 130000000) : f_u_law_subtract [enc p, enc q] = .ok (enc (p - q)) := by
  simp [f_u_law_subtract, g_u_law_subtract, oMul_int, mk_nd hp hq h, mk_nd hq hp (by omega : b + a ≤ _), mk_dd hp hq h, low_eq (dens_ne p q), sub_divInt]
theorem lmul_eq {p q : Rat} {a b : Nat} (hp : Sz a p) (hq : Sz b q) (h : a + b ≤ 130000000) : f_u_law_multiply [enc p, enc q] = .ok (enc (p * q)) := by
  simp [f_u_law_multiply, g_u_law_multiply, oMul_int, mk_nn hp hq h, mk_dd hp hq h, low_eq (dens_ne p q), mul_divInt]
theorem mul_eq {p q : Rat} {a b : Nat} (hp : Sz a p) (hq : Sz b q) (h : a + b ≤ 130000000) : f_multiply [enc p, enc q] = .ok (enc (p * q)) := by
  simp [f_multiply, g_multiply, oMul_int, mk_nn hp hq h, mk_dd hp hq h, make_eq (dens_ne p q), mul_divInt]
theorem div_eq {p q : Rat} {a b : Nat} (hp : Sz a p) (hq : Sz b q) (h : a + b ≤ 130000000) (h0 : q ≠ 0) : f_divide [enc p, enc q] = .ok (enc (p / q)) := by
  have hd : (p.den : Int) * q.num ≠ 0 := Int.mul_ne_zero (by have := p.den_pos; omega) (num_ne h0)
  simp [f_divide, g_divide, oMul_int, mk_nd hp hq h, mk_dn hp hq h, make_eq hd, div_divInt]
/-! ### draws -/
theorem fm {i : Int} {k : Nat} (h : 0 < k) : i.fmod (k : Int) = i % (k : Int) := Int.fmod_eq_emod_of_nonneg _ (by omega)
theorem nat_of {i : Int} (h : 0 ≤ i) : ∃ n : Nat, i = (n : Int) := ⟨i.toNat, by omega⟩
theorem pow_18 : oPow (.int 10) (.int 18) = some (.d (.int 1000000000000000000)) := rfl
/-- a row of draws -/
def Dr (n : Nat) (xs : List Int) : Prop := xs.length = n ∧ ∀ x ∈ xs, 0 ≤ x ∧ x < 5040
theorem Dr.snoc {n : Nat} {xs : List Int} {x : Int} (h : Dr n xs) (h0 : 0 ≤ x) (h1 : x < 5040) : Dr (n + 1) (xs ++ [x]) := ⟨by rw [List.length_append, h.1]; rfl, fun y hy => by
  rcases List.mem_append.mp hy with hy | hy
  · exact h.2 y hy
  · rw [List.mem_singleton.mp hy]; exact ⟨h0, h1⟩⟩
theorem draws_eq {i : Int} {B n : Nat} (hi : i.natAbs < 2 ^ B) (hB : B ≤ 100000000) (hn : n ≤ 1000) : ∃ xs, Dr n xs ∧ f_u_law_draws [.int i, .int (n : Int)] = .ok (.lst (xs.map .int)) := by
  obtain ⟨big, hbig⟩ : ∃ b : Bool, b = decide ((1000000000000000000 : Int) ≤ (i.natAbs : Int)) := ⟨_, rfl⟩
  have key := for_inv (γ := γN 6) (g := (mIfS (mAndB (mB (mVar 3)) (mB (mOp oGt (mPk 2) (mD (mC (.int 0)))))) (mSeq (mApp 5 (mD (mOp oMod (mD (mCl cInt (mCons (mPk 2) (mNil)))) (mD (mC (.int 5040))))))
    (mSet 2 (mOp oDiv (mPk 2) (mD (mC (.int 5040)))))) (mSeq (mSet 7 (mOp oMod (mD (mCl cInt (mCons (mD (mOp oAdd (mD (mOp oAdd (mD (mOp oMul (mPk 4) (mD (mC (.int 48271))))) (mD (mOp oMul (mD (mOp oAdd (mPk 6) (mD (mC (.int 1))))) (mD (mC (.int 69621))))))) (mD (mC (.int 11))))) (mNil)))) (mD (mC (.int 2147483647)))))
    (mSeq (mSet 7 (mOp oMod (mD (mCl cInt (mCons (mD (mOp oAdd (mD (mOp oMul (mPk 7) (mPk 7))) (mD (mOp oMul (mD (mC (.int 40692))) (mD (mOp oAdd (mPk 6) (mD (mC (.int 3))))))))) (mNil)))) (mD (mC (.int 2147483399)))))
    (mApp 5 (mD (mOp oMod (mD (mCl cInt (mCons (mD (mOp oDiv (mPk 7) (mD (mC (.int 64))))) (mNil)))) (mD (mC (.int 5040))))))))))
    (all := Iv.upTo 0 n) (env := [.fr (.int i), .fr (.int (n : Int)), .fr (.int (i.natAbs : Int)), .fr (.bl big), .fr (.int (i.natAbs : Int)), .ow [], .un, .un])
    (fun k env => ∃ xs r s6 s7, env = [.fr (.int i), .fr (.int (n : Int)), .fr (.int r), .fr (.bl big), .fr (.int (i.natAbs : Int)), .ow (xs.map .int), s6, s7] ∧ Dr k xs) ⟨[], _, .un, .un, rfl, rfl, fun _ h => nomatch h⟩ (by
      rintro k x env hx ⟨xs, r, s6, s7, rfl, hd⟩
      obtain ⟨j, hj, rfl⟩ := mem_upTo (List.mem_of_getElem? hx)
      have hk : k < n := by
        have := (List.getElem?_eq_some_iff.mp hx).1
        rw [upTo_len] at this
        exact this
      have hl := hd.1
      have hq : xs.length < 90000 := by omega
      by_cases hc : big = true ∧ 0 < r
      · have f := fm (i := r) (k := 5040) (by decide)
        simp only [Int.cast_ofNat_Int] at f
        have m : oMod (.int r) (.int 5040) = _ := oMod_int (by decide)
        have d : oDiv (.int r) (.int 5040) = _ := oDiv_int (by decide)
        refine ⟨_, [.fr (.int i), .fr (.int (n : Int)), .fr (.int (r.fdiv 5040)), .fr (.bl big), .fr (.int (i.natAbs : Int)), .ow ((xs ++ [r.fmod 5040]).map .int), .fr (.int (j : Int)), s7], rfl, ?_, _, _, _, _, rfl, hd.snoc (by omega) (by omega)⟩
        simp [hc.1, hc.2, m, d, hq]
      · have hc' : big = true → ¬ 0 < r := fun a b => hc ⟨a, b⟩
        have m0 : oMul (.int (i.natAbs : Int)) (.int 48271) = _ := oMul_int (mulOk_of (a := B) (b := 16) (by rw [Int.natAbs_natCast]; exact hi) (by decide) (by omega))
        have j1 : oMul (.int ((j : Int) + 1)) (.int 69621) = _ := oMul_int (mulOk_of (a := 16) (b := 17) (by omega) (by decide) (by decide))
        have j3 : oMul (.int 40692) (.int ((j : Int) + 3)) = _ := oMul_int (mulOk_of (a := 16) (b := 16) (by decide) (by omega) (by decide))
        generalize hz : (i.natAbs : Int) * 48271 + ((j : Int) + 1) * 69621 + 11 = z at *
        have m1 : oMod (.int z) (.int 2147483647) = _ := oMod_int (by decide)
        have f1 := fm (i := z) (k := 2147483647) (by decide)
        simp only [Int.cast_ofNat_Int] at f1
        have b1 : 0 ≤ z.fmod 2147483647 ∧ z.fmod 2147483647 < 2147483647 := by omega
        generalize z.fmod 2147483647 = y at *
        have m2 : oMul (.int y) (.int y) = _ := oMul_int (mulOk_of (a := 31) (b := 31) (by omega) (by omega) (by decide))
        generalize hu : y * y + 40692 * ((j : Int) + 3) = u at *
        have m3 : oMod (.int u) (.int 2147483399) = _ := oMod_int (by decide)
        generalize u.fmod 2147483399 = v at *
        have d : oDiv (.int v) (.int 64) = _ := oDiv_int (by decide)
        generalize v.fdiv 64 = t at *
        have m4 : oMod (.int t) (.int 5040) = _ := oMod_int (by decide)
        have f := fm (i := t) (k := 5040) (by decide)
        simp only [Int.cast_ofNat_Int] at f
        refine ⟨_, [.fr (.int i), .fr (.int (n : Int)), .fr (.int r), .fr (.bl big), .fr (.int (i.natAbs : Int)), .ow ((xs ++ [t.fmod 5040]).map .int), .fr (.int (j : Int)), .fr (.int v)], rfl, ?_, _, _, _, _, rfl, hd.snoc (by omega) (by omega)⟩
        cases big with
        | true => simp [hc' rfl, m0, j1, j3, hz, m1, m2, hu, m3, d, m4, hq]
        | false => simp [m0, j1, j3, hz, m1, m2, hu, m3, d, m4, hq])
  obtain ⟨env', k1, xs, r, s6, s7, rfl, hd⟩ := key
  rw [upTo_len] at hd
  have hsm : small (n : Int) = true := small_nat (by omega)
  refine ⟨xs, hd, ?_⟩
  subst hbig
  simp [f_u_law_draws, g_u_law_draws, pow_18, hsm, k1]
/-- a discount: at least zero, less than one, small -/
theorem discount_eq {x : Int} (h0 : 0 ≤ x) (h1 : x < 5040) : ∃ b : Rat, 0 ≤ b ∧ b < 1 ∧ Sz 4 b ∧ f_u_law_discount [.int x] = .ok (enc b) := by
  have m9 : oMod (.int x) (.int 9) = _ := oMod_int (by decide)
  have d9 : oDiv (.int x) (.int 9) = _ := oDiv_int (by decide)
  have f9 := fm (i := x) (k := 9) (by decide)
  simp only [Int.cast_ofNat_Int] at f9
  have b9 : 0 ≤ x.fmod 9 ∧ x.fmod 9 < 9 := by omega
  generalize x.fmod 9 = r at *
  generalize x.fdiv 9 = q at *
  obtain ⟨w, hw⟩ := nat_of (i := 2 + r) (by omega)
  have hw0 : 0 < w := by omega
  have mw : oMod (.int q) (.int (2 + r)) = some (.d (.int (q % (w : Int)))) := by rw [oMod_int (by omega), hw, fm hw0]
  have c0 := Int.emod_nonneg q (by omega : (w : Int) ≠ 0)
  have c1 := Int.emod_lt_of_pos q (by omega : 0 < (w : Int))
  generalize q % (w : Int) = n at *
  have hwz : (w : Int) ≠ 0 := by omega
  refine ⟨Rat.divInt n w, ?_, ?_, divInt_sz hwz (by omega) (by omega), ?_⟩
  · exact Rat.divInt_nonneg c0 (by omega)
  · have hp : (0 : Rat) < ((w : Int) : Rat) := by rw [show (0 : Rat) = ((0 : Int) : Rat) from rfl, Rat.intCast_lt_intCast]; omega
    rw [Rat.divInt_eq_div, Rat.div_lt_iff hp, Rat.one_mul, Rat.intCast_lt_intCast]
    exact c1
  · have lo := low_eq (n := n) hwz
    generalize Rat.divInt n w = b at *
    rw [← hw] at lo
    simp [f_u_law_discount, g_u_law_discount, m9, d9, mw, lo]
end Law

set_option Elab.async false
set_option linter.all false
set_option maxRecDepth 100000
set_option maxHeartbeats 4000000
/-! Exceptions of own classes: raise, try, the law's look at what it caught. -/
namespace Iv
open PySem PySem.Spec PyProof.Rows L2 Evl
/-! ### how often True stands in a list -/
def isT : Value → Bool
  | .bool b => b
  | _ => false
theorem bools_vals : ∀ {bs : List Bool} {us : List Value}, Vals (bs.map V.bl) us → us = bs.map Value.bool
  | [], _, .nil => rfl
  | b :: bs, _, .cons r t => by
    have r : _ = Value.bool b := r
    rw [r, bools_vals t]
    rfl
theorem isT_count : ∀ bs : List Bool, (bs.map Value.bool).countP isT = bs.count true
  | [] => rfl
  | b :: bs => by
    rw [List.map_cons, List.countP_cons, List.count_cons, isT_count bs]
    cases b <;> rfl
def rCntT (K : PySem.W.Frag) : V → List V → Hp → VK → Prop := fun x ys H Q => ∃ (p : Addr) (bs : List Bool), x = .ref p ∧ ys = [.bl true] ∧ SqL K H p (bs.map V.bl) ∧ Q (.int (bs.count true : Nat)) H
theorem mt_cntT {X : Cx} : MtR X "list.count" (rCntT X.K) := by
  intro pins s σ H x ys v us Q I rx rys ⟨p, bs, e1, e2, hq, q⟩
  subst e1 e2
  obtain rfl : v = Value.ref p := rx
  match us, rys with
  | [u], .cons ry .nil =>
    obtain rfl : u = Value.bool true := ry
    obtain ⟨its, rv, ⟨⟨c, dd, dt, sl⟩, n, ho, hc, _, hdt⟩, _⟩ := I.list hq
    dsimp only at hc hdt
    subst hc hdt
    have hv := bools_vals rv
    subst hv
    refine call_meets PySem.F.slot_list_count ⟨_, ho, rfl⟩ PySem.F.entry_list_count (PySem.F.args_list_count_2 _ _) (PySem.SeqAt.list_countAt p (bs.map Value.bool).toArray n dd sl (.bool true) isT) ⟨ho, fun y hy => ?_, ?_⟩
    · obtain ⟨b, _, rfl⟩ := List.mem_map.mp (show y ∈ bs.map Value.bool by simpa using hy)
      have z := PySem.SeqAt.EqAt.bool_bool (A := X.A.in1) (s := s) b true
      have e : (b == true) = isT (.bool b) := by cases b <;> rfl
      rw [e] at z
      exact z
    · have e : (bs.map Value.bool).toArray.toList.countP isT = bs.count true := isT_count bs
      rw [e]
      exact ⟨.int (bs.count true : Nat), H, I.tok _, ⟨_, rfl⟩, q⟩
/-- l.count(True) -/
def oCnt (l : List D) : D → Option Sv
  | .bl true => (bools l).map fun bs => .d (.int (bs.count true : Nat))
  | _ => none
def mCnt (f g : M D) : M Sv := fun env => (f env).bind fun x env => match x with
  | .lst l => (g env).bind fun y env => rdo (oCnt l y) env
  | _ => .bad
section
variable {X : Cx} {S : Xs} {W : WX} {o e : Expr} {es : List Expr} {pos apos p : Pos} {f g : M D}
theorem pd_cnt (ho : PP X S W o f) (ha : PP X S W e g) (hbase : attributeBase o "count" X.env (eval o X.env) = eval o X.env := by rfl)
    (hfew : ((backTo pos (starEach [e] X.env)).all (fun x => !x.1) && (backToKw pos (keywordEach [] X.env)).all (fun x => x.1.isSome)
      && decide ([e].length + ([] : List Keyword).length + (if ([] : List Keyword).isEmpty then 0 else 1) < 30)) = true := by rfl)
    (hline : (apos.endLine == pos.line) = true := by rfl) (hs : starEach [e] X.env = [(false, eval e X.env)] := by rfl) :
    PD X S W (.Call (.Attribute o "count" apos) [e] [] pos) (mCnt f g) :=
  PE.imp (pe_bm PySem.F.plainAttrs_list PySem.F.slot_list_count PySem.F.type_list_count mt_cntT ho (pa_cons ha pa_nil hs) hbase hfew hline hs rfl) fun σ H Q q => by
  obtain ⟨F, ef, q⟩ := rd_bind (T := TP X.K) q
  refine rd_imp q fun x H1 ⟨F1, env1, dx, g1, g2, rel1, rx, q⟩ => ?_
  have rx : RP X.K F1 H1 dx x := rx
  cases dx with
  | lst l =>
    have hx : ∃ p vs, x = .ref p ∧ H1 p = some (.lst vs) ∧ Rs X.K F1 l vs := by
      rcases rx with r | ⟨ds, p, vs, z, e2, e3, e4⟩ | ⟨ks, ds, p, vs, z, _⟩
      · simp only [R] at r
        obtain ⟨a, vs, e1, e2, e3⟩ := r
        exact ⟨a, vs, e1, rel1.ex a _ e2, e3⟩
      · cases z
        exact ⟨p, vs, e2, e3, e4⟩
      · cases z
    obtain ⟨p, vs, rfl, hp, rvs⟩ := hx
    refine ⟨.inl ⟨rfl, vs, sq_of hp⟩, ?_⟩
    have q := okG.bind (T := TP X.K) q
    refine ⟨F1, env1, rel1, q.imp fun y H2 ⟨F2, env2, dy, k1, k2, rel2, ry, q⟩ => ?_⟩
    dsimp only at q
    show rCntT X.K (.ref p) [y] H2 Q
    have hb : ∃ bs : List Bool, l = bs.map D.bl ∧ dy = .bl true ∧ okG X.K S W σ (TV X.K) F2 H2 env2 Q (.ok (.d (.int (bs.count true : Nat))) env2) := by
      cases dy with
      | bl b =>
        cases b with
        | true =>
          cases hbs : bools l with
          | none => rw [show oCnt l (.bl true) = none by unfold oCnt; rw [hbs]; rfl] at q; exact q.elim
          | some bs =>
            rw [show oCnt l (.bl true) = some (.d (.int (bs.count true : Nat))) by unfold oCnt; rw [hbs]; rfl] at q
            exact ⟨bs, bools_eq hbs, rfl, q⟩
        | false => exact q.elim
      | _ => exact q.elim
    obtain ⟨bs, rfl, rfl, q2⟩ := hb
    have ey : y = .bl true := (show RP X.K F2 H2 (.bl true) y from ry).bl
    subst ey
    have ev := Rs.bls rvs
    subst ev
    exact ⟨p, bs, rfl, rfl, sq_of (k2 p _ hp), q2 _ F2 H2 Gr.refl rel2 (RVd Ri)⟩
  | _ => exact q.elim
/-! ### isinstance of the exception that is held -/
theorem call_isP {a C : Addr} {oe : Obj} (T : ExcC X.K C) (hm : (a, oe) ∈ X.pn) (hz : Zc (.ref C) none oe) (hf : ∃ vs, oe.data = .fields vs) : CallR X (.builtin "isinstance") (rIsE X.K C a) := fun pins s σ H ys us Q I r ⟨c, cv, b, e0, hcv, hk, q⟩ => by
  subst e0
  match us, r with
  | [u, w], .cons r1 (.cons r2 .nil) =>
    obtain rfl : u = Value.ref a := r1
    obtain rfl : w = cv := hcv _ r2
    have get := (I.pin (a, oe) (List.mem_append_left _ hm)).1
    have J : PySem.W.InstAt s.heap a oe C none := by
      obtain ⟨vs, hv⟩ := hf
      obtain ⟨c1, d1, t1, sl1⟩ := oe
      obtain ⟨z1, z2⟩ := hz
      dsimp only at z1 z2 hv
      subst z1 z2 hv
      exact ⟨get, rfl, rfl, True.intro⟩
    exact PySem.W.kia_one (PySem.W.handS_kitx_exc T.hg T.hk T.hs T.hd T.ha T.hn T.ht T.hm) I.kIn J hk (fun z => nomatch z) fun tk => ⟨.bl b, H, I.kept (t' := tk) fun _ _ k => k, rfl, q⟩
/-- isinstance(e, C), e in slot i holds the exception at a -/
def mIsE (i : Nat) (a : Addr) (b : Bool) : M Sv := fun env => match env[i]? with
  | some (.xo a') => if a' = a then .ok (.d (.bl b)) env else .bad
  | _ => .bad
theorem rd_isE {i : Nat} {a C : Addr} {b : Bool} {v : V} {cv : Value} {σ : L2.St} {H : Hp} {Q : VK} (hcv : ∀ u, RelV v u → u = cv) (hk : PySem.W.kitOne X.K (.ref C) cv = some b) (q : rd X.K S W (TV X.K) (mIsE i a b) σ H Q) :
    tCB (rIsE X.K C a) (tCons (tVar i) (tCons (tC v) tNil)) σ H Q := by
  obtain ⟨F, env, rel, q⟩ := q
  unfold mIsE at q
  split at q
  · rename_i a' hi
    by_cases ha : a' = a
    · subst ha
      rw [if_pos rfl] at q
      obtain ⟨o, h1, h2⟩ := rel.at_ i _ hi
      obtain rfl : o = some (.ref a') := h2
      exact ⟨_, h1, v, cv, b, rfl, hcv, hk, q _ F H Gr.refl rel (RVd Rb)⟩
    · rw [if_neg ha] at q
      exact q.elim
  · exact q.elim
theorem pd_isE {i : Nat} {a C D : Addr} {oe : Obj} {b : Bool} {x y : Str} {p1 p2 : Pos} (T : ExcC X.K C) (hp : (a, oe) ∈ X.pn) (hz : Zc (.ref C) none oe) (hf : ∃ vs, oe.data = .fields vs) (B : Bl X.mg) (hD : X.mg y = some (.ref D)) (hk : PySem.W.kitOne X.K (.ref C) (.ref D) = some b)
    (hN : X.N[i]? = some x := by rfl) (hv : Vis X.env.scope x := by first | exact Or.inl rfl | exact Or.inr (Or.inl rfl) | exact Or.inr (Or.inr rfl)) (hd : (x == ("__debug__" : Str)) = false := by decide) (hcd : (x == ("__classdict__" : Str)) = false := by decide) (hg : Gl X "isinstance" := by rfl) (hg2 : Gl X y := by rfl) (hdy : (y == ("__debug__" : Str)) = false := by decide) :
    PD X S W (.Call (.Name "isinstance" p) [.Name x p1, .Name y p2] [] pos) (mIsE i a b) :=
  PE.imp (pe_callB (call_isP T hp hz hf) hg B.isinstance PyProof.Rows.boot_isinstance (pa_cons (pe_var hN hv hd hcd) (pa_cons (pe_glob (v := .ref D) hg2 hD rfl hdy) pa_nil))) fun σ H Q q => rd_isE (fun u r => r) hk q
theorem pd_isET {i : Nat} {a C : Addr} {oe : Obj} {b : Bool} {x y : Str} {T' : String} {p1 p2 : Pos} (T : ExcC X.K C) (hp : (a, oe) ∈ X.pn) (hz : Zc (.ref C) none oe) (hf : ∃ vs, oe.data = .fields vs) (B : Bl X.mg) (hD : X.mg y = none) (hb : bootBuiltins y = some (.type T')) (hk : PySem.W.kitOne X.K (.ref C) (.type T') = some b) (hy : y ≠ "__name__" := by decide)
    (hN : X.N[i]? = some x := by rfl) (hv : Vis X.env.scope x := by first | exact Or.inl rfl | exact Or.inr (Or.inl rfl) | exact Or.inr (Or.inr rfl)) (hd : (x == ("__debug__" : Str)) = false := by decide) (hcd : (x == ("__classdict__" : Str)) = false := by decide) (hg : Gl X "isinstance" := by rfl) (hg2 : Gl X y := by rfl) (hdy : (y == ("__debug__" : Str)) = false := by decide) :
    PD X S W (.Call (.Name "isinstance" p) [.Name x p1, .Name y p2] [] pos) (mIsE i a b) :=
  PE.imp (pe_callB (call_isP T hp hz hf) hg B.isinstance PyProof.Rows.boot_isinstance (pa_cons (pe_var hN hv hd hcd) (pa_cons (pe_bltn (v := .ty T') hg2 hD hb rfl hy hdy) pa_nil))) fun σ H Q q => rd_isE (fun u r => r) hk q
end
end Iv
namespace Iv
open PySem PySem.Spec PyProof.Rows L2 Evl L2H
/-! ### raise C('..') -/
/-- what the written part says of an own error class without __init__ -/
structure ExF (K : PySem.W.Frag) (mg : Str → Option Value) (x : Str) (C : Addr) : Prop where
  g : mg x = some (.ref C)
  q : PySem.W.excIn K C [.type "ValueError", .type "Exception", .type "BaseException", .type "object"] "ValueError.__new__" = true
  k : PySem.W.keepIn K (.ref C) = true
  b : PySem.W.subIn K (.ref C) (.type "BaseException") = some true
  t : PySem.W.typeIn K (.ref C) = some (.type "type")
  e : ExcC K C
  x : PySem.W.exmOne K (.ref C) (.ref C) = some true
theorem ds_raiseC {X : Cx} {S : Xs} {W : WX} {F0 H0 : Hp} {c : Nat} {C : Addr} {x m : Str} {j : Nat} {p p2 pos pos2 : Pos} (hc : X.calm = true) (tk : L2N.Takes X W) (T : ExF X.K X.mg x C) (hC : S.cls c = .ref C) (hg : Gl X x := by rfl) (hd : (x == ("__debug__" : Str)) = false := by decide) :
    DS X S W F0 H0 (.Raise (some (.Call (.Name x p) [.Constant (.str m) j p2] [] pos)) none pos2) (mRaise c) :=
  ds_raise (L2N.ps_raise hc tk (L2N.pmk_own PySem.F.excBase_ValueError T.q T.g T.k (raises_own T.b T.t) hg hd)) hC
/-! ### a def that looks at the exception that is held -/
structure FnP (P : Program) (w : World) (K : PySem.W.Frag) (mg : Str → Option Value) (base : Heap) (S : Xs) (k : Nat) (f : Addr) (fd : FuncData) (x : Str) (p : Addr × Obj) (d : D) : Prop where
  run : ∀ (A : Around) (outer : List PySem.Env) (s : Shared) (F H : Hp) (Q : VK), RoomH k A → PinOk outer H s p → Env0 P w K mg base A outer s H → BindsTo s fd ⟨[.ref p.1], []⟩ [(x, .ref p.1)] → Ex F H → (∀ v F' H', New F H F' H' → R K F' d v → Q v H') →
    codeAny (model P w) A (.call (.ref f) ⟨[.ref p.1], []⟩) (CR (L2N.CX P w) outer P w H s Q fun _ _ _ => False) s
theorem startP_rel {K : PySem.W.Frag} {F H : Hp} {a : Addr} {N : List Str} (e : Ex F H) (hn : 1 ≤ N.length) : Rel K F H (L2.start N [.ref a]) (.xo a :: List.replicate (N.length - 1) .un) where
  len := by unfold L2.start; simp
  ex := e
  at_ := fun i s h => by
    unfold L2.start
    cases i with
    | zero => cases h; exact ⟨some (.ref a), rfl, rfl⟩
    | succ i =>
      have h : (List.replicate (N.length - 1) Sl.un)[i]? = some s := h
      obtain ⟨h1, h2⟩ := List.getElem?_eq_some_iff.mp h
      rw [List.getElem_replicate] at h2
      subst h2
      rw [List.length_replicate] at h1
      refine ⟨none, ?_, True.intro⟩
      show (List.replicate (N.length - 1) (none : Option V))[i]? = some none
      exact List.getElem?_eq_some_iff.mpr ⟨by rw [List.length_replicate]; exact h1, List.getElem_replicate _⟩
  dis := fun i j s t b h1 _ o1 _ _ _ => by
    exfalso
    cases i with
    | zero => cases h1; cases o1
    | succ i =>
      have h : (List.replicate (N.length - 1) Sl.un)[i]? = some s := h1
      obtain ⟨q1, q2⟩ := List.getElem?_eq_some_iff.mp h
      rw [List.getElem_replicate] at q2
      subst q2
      cases o1
theorem startP_own {σ : L2.St} {a b : Addr} {n : Nat} : ¬ Owned σ (.xo a :: List.replicate n .un) b := fun ⟨i, s, h, o, _⟩ => by
  cases i with
  | zero => cases h; cases o
  | succ i =>
    have h : (List.replicate n Sl.un)[i]? = some s := h
    obtain ⟨q1, q2⟩ := List.getElem?_eq_some_iff.mp h
    rw [List.getElem_replicate] at q2
    subst q2
    cases o
theorem fnP_of {P : Program} {w : World} {K : PySem.W.Frag} {mg : Str → Option Value} {base : Heap} {S : Xs} {k : Nat} {x y : Str} {st : Stmt} {f : Addr} {fd : FuncData} {N : List Str} {p : Addr × Obj} {d : D} {g : M Fl} {env' : En} (Fn : Fun K x x st f fd) (Sc : FnScope N [y] (defScope st))
    (hb : ∀ (cdv : Value) (A : Around) (outer : List PySem.Env) (s : Shared) (H : Hp) (F0 : Hp), RoomH k (A.deeper (envOfC x (defScope st) s.heap.objs.size f cdv)) →
      DSs (cxH (L2N.CX P w) P w K mg base N x (defScope st) f cdv A outer s H (fun _ _ _ => False) p) S (fun _ _ _ _ => False) F0 H (defBody st) g)
    (hg : g (.xo p.1 :: List.replicate (N.length - 1) .un) = .ok (.rt d) env') : FnP P w K mg base S (k + 1) f fd y p d := by
  obtain ⟨_, _, _, _, _, _, cdv, _, _, e, lk, hcd⟩ := Fn.ex
  subst e
  refine ⟨fun A outer s F H Q hr hpin e0 bi ef hq => ?_⟩
  have kin : K.In s.heap := e0.mod.kin.keeps fun b o e => (e0.bs b o e).1
  have nolim : s.heap.NoLimit := e0.mod.nolimit.keeps fun b o e => (e0.bs b o e).1
  have hpar := Sc.par y List.mem_cons_self
  have kinds : ∀ z ∈ [(y, Value.ref p.1)], (defScope st).names.lookup z.1 = some .local ∨ ((defScope st).names.lookup z.1 = some .cell ∧ ((cellsFrom (s.heap.objs.size + 1) (defScope st).names []).lookup z.1).isSome = true) := fun z hz => by
    rw [List.mem_singleton.mp hz]
    rcases hpar with q | q
    · exact .inl q
    · exact .inr ⟨q, PySem.W.cellsFrom_some _ _ _ (.inl q)⟩
  have hn : 1 ≤ N.length := by
    have := congrArg List.length Sc.pre
    rw [List.length_take] at this
    have e1 : [y].length = 1 := rfl
    omega
  refine codeAny_call_function hr.depth (kin _ _ lk) rfl Sc.co Sc.gen rfl (PySem.W.codeRec_of kin hcd) (bi _ _ _ _ (wpAny_newFunctionEnv_cells Sc.kind kinds fun env1 he s1 z => ?_))
  subst he
  refine ⟨nolim.keeps z.toInCall.keep, codeAny_func ?_⟩
  have I : Inv (cxH (L2N.CX P w) P w K mg base N x (defScope st) f cdv A outer s H (fun _ _ _ => False) p) [] (L2.start N [.ref p.1]) H s1 := inv_startH (ps := [y]) (us := [.ref p.1]) (vs := [.ref p.1]) Sc hpin e0 rfl (.cons rfl .nil) z
  have fin : ∀ {σ' : L2.St} {H' : Hp} {v : V} {u : Value} {s' : Shared}, Inv (cxH (L2N.CX P w) P w K mg base N x (defScope st) f cdv A outer s H (fun _ _ _ => False) p) [] σ' H' s' → RelV v u → Q v H' → CE outer P w H s Q u s' :=
    fun {σ' H' v u s'} J r q => ⟨v, H', J.os, J.bare, J.base, J.hok, r, q⟩
  have go := (hb cdv A outer s H F (hr.deeper _)).run [] s1 (L2.start N [.ref p.1]) H { nx := fun _ H' => Q .non H', rt := Q } I ⟨F, _, ⟨Ex.refl _, Ex.refl _, fun _ _ h => h, fun b z => absurd z startP_own⟩, startP_rel ef hn, by
    rw [hg]
    exact fun v F' H' n r => hq v F' H' n r⟩
  refine wpAny_mono go (fun fl s' q => ?_) fun _ _ q => q
  match fl, q with
  | .ret u, ⟨v, σ', H', J, r, q⟩ => exact fin J r q
  | .next, ⟨σ', H', J, q⟩ => exact fin (v := V.non) (u := Value.none) J rfl q
  | .brk, ⟨_, _, _, q⟩ => exact q.elim
  | .cont, ⟨_, _, _, q⟩ => exact q.elim
end Iv
namespace Iv
open PySem PySem.Spec PyProof.Rows L2 Evl L2H
section
variable {X : Cx}
/-- f(e), f looks at the exception that e holds -/
theorem pe_callP {S : Xs} {i k : Nat} {f : Addr} {fd : FuncData} {x y n : Str} {p : Addr × Obj} {d : D} {q q1 pos : Pos} (Fn : FnP X.prog X.w X.K X.mg X.base S k f fd y p d) (hp : p ∈ X.pn) (hr : RoomH k X.A) (hm : X.mg x = some (.ref f)) (hk : PySem.W.keepIn X.K (.ref f) = true) (bi : Binds X.K fd [y] []) (hN : X.N[i]? = some n)
    (hv : Vis X.env.scope n) (hg : Gl X x) (hd : (n == ("__debug__" : Str)) = false := by decide) (hcd : (n == ("__classdict__" : Str)) = false := by decide) (hdb : (x == ("__debug__" : Str)) = false := by decide) :
    PE X (.Call (.Name x q) [.Name n q1] [] pos) (fun σ H Q => σ[i]? = some (some (.ref p.1)) ∧ ∃ F, Ex F H ∧ ∀ v F' H', New F H F' H' → R X.K F' d v → Q v H') := by
  refine ⟨fun pins s σ H Q I ⟨hs, F, ef, hq⟩ => ?_⟩
  have ha : PA X [.Name n q1] (tCons (tVar i) tNil) := pa_cons (pe_var hN hv hd hcd) pa_nil
  refine wpAny_Call_Name_kw (ld_glob I hg hm (PySem.W.callWith_K (h₀ := X.base) I.ok.mod.kin hk (thn (ha.run pos pins s σ H (fun vs H1 => vs = [.ref p.1] ∧ H1 = H) I ⟨_, hs, rfl, rfl⟩) fun us s1 hh => ?_) rfl rfl) hdb)
  obtain ⟨vs, H1, I1, r, e1, e2⟩ := hh
  subst e1 e2
  refine ⟨I1.kIn, ?_⟩
  match us, r with
  | [u], .cons ru .nil =>
    obtain rfl : u = Value.ref p.1 := ru
    obtain ⟨g1, g2, g3, g4, g5⟩ := I1.pin p (List.mem_append_left _ hp)
    have pin : PinOk X.stack H1 s1 p := ⟨g1, g2, fun m => (List.mem_cons.mp (I1.stkSub p.1 m)).elim g3 g4, g5⟩
    have b := bi s1 [.ref p.1] I1.kIn rfl
    refine wpAny_call (codeAny_mono (Fn.run X.A X.stack s1 F H1 Q hr pin I1.env0 b ef hq) fun r s' z => ?_)
    match r, z with
    | .error e, ⟨_, _, _, _, _, _, _, _, _, _, _, _, z⟩ => exact z.elim
    | .ok (.ret u), z => exact I1.after z
    | .ok .next, z => exact False.elim z
    | .ok .brk, z => exact False.elim z
    | .ok .cont, z => exact False.elim z
/-- try: body / except C as n: return look(n) -/
def mTryL (c0 i : Nat) (d : D) (g : M Fl) : M Fl := fun env => match g env with
  | .ex c x e => (match x with
    | none => if c = c0 ∧ i < e.length then .ok (.rt d) e else .bad
    | some _ => .bad)
  | r => r
theorem ds_tryL {S : Xs} {W : WX} {F0 H0 : Hp} {c0 i k : Nat} {C f : Addr} {fd : FuncData} {x y z n : Str} {d : D} {g : M Fl} {body : List Stmt} {np pos pos' q q1 p1 p2 : Pos} (hs : X.stack = X.env :: X.outer) (hf : X.env.frame = some X.env.locals) (hN : X.N.Nodup) (hi : X.N[i]? = some n) (hln : X.env.kindOf n = some .local)
    (T : ExF X.K X.mg z C) (hC : S.cls c0 = .ref C) (tk : L2N.Takes X W) (Fn : ∀ p : Addr × Obj, Zc (.ref C) none p.2 → (∃ vs, p.2.data = .fields vs) → FnP X.prog X.w X.K X.mg X.base S k f fd y p d) (hr : Room k X.A) (hm : X.mg x = some (.ref f)) (hk : PySem.W.keepIn X.K (.ref f) = true) (bi : Binds X.K fd [y] [])
    (hb : ∀ (W' : WX) (pn : List (Addr × Obj)) (xe : Value → Shared → Prop), L2N.Takes (X.tr pn xe) W' → PassesOwn (model X.prog X.w) X.A X.env xe → DSs (X.tr pn xe) S W' F0 H0 body g)
    (hv : Vis X.env.scope n) (hgx : Gl X x := by rfl) (hgz : Gl X z := by rfl) (hdz : (z == ("__debug__" : Str)) = false := by decide) (hd : (n == ("__debug__" : Str)) = false := by decide) (hcd : (n == ("__classdict__" : Str)) = false := by decide) (hdb : (x == ("__debug__" : Str)) = false := by decide) :
    DS X S W F0 H0 (.Try body [.ExceptHandler (some (.Name z np)) (some n) [.Return (some (.Call (.Name x q) [.Name n q1] [] p1)) p2] pos'] [] [] pos) (mTryL c0 i d g) := by
  refine PS.imp (L2N.ps_try_as (i := i) (c := .ref C) (tb := fun W' => rdS X.K S W' F0 H0 g) (ts := fun a cls dd D σ H => cls = .ref C ∧ dd = none ∧ σ[i]? = some (some (.ref a)) ∧ ∃ F, Ex F H ∧ ∀ v F' H', New F H F' H' → R X.K F' d v → D.rt v H') (Wout := W) hs hf hN hi hln ⟨hgz, hdz, .inl T.g⟩ tk hb (fun a oe cls dd pn hz hv' => ?_)) fun D σ H h => ?_
  · by_cases hcls : cls = .ref C ∧ dd = none
    · obtain ⟨rfl, rfl⟩ := hcls
      have P1 := pe_callP (X := X.suite a ((a, oe) :: pn)) (S := S) (i := i) (d := d) (q := q) (q1 := q1) (pos := p1) (Fn (a, oe) ⟨hz.1, hz.2.1⟩ hv') List.mem_cons_self ⟨hr.dp, hr.un⟩ hm hk bi hi hv hgx hd hcd hdb
      exact PSs.imp (pss_one (ps_ret P1)) fun D σ H h => ⟨h.2.2.1, h.2.2.2⟩
    · exact PSs.imp (pss_one ps_never) fun D σ H h => (hcls ⟨h.1, h.2.1⟩).elim
  · obtain ⟨F, env, b, rel, q⟩ := h
    refine ⟨F, env, b, rel, ?_⟩
    unfold mTryL at q
    cases hg : g env with
    | bad => rw [hg] at q; exact q.elim
    | ok r e =>
      rw [hg] at q
      cases r with
      | nx => exact q
      | rt d => exact q
      | bk => exact q
      | ct => exact q
    | ex c x e =>
      rw [hg] at q
      cases x with
      | some _ => exact q.elim
      | none =>
        dsimp only at q
        by_cases hc : c = c0 ∧ i < e.length
        · rw [if_pos hc] at q
          obtain ⟨rfl, hl⟩ := hc
          have q : ∀ v F H, New F0 H0 F H → R X.K F d v → D.rt v H := q
          intro a' σ' F' H' ex' b' rel' hx
          have hx : a' = none := hx
          subst hx
          rw [hC]
          refine ⟨true, T.x, fun _ a ha => ⟨rfl, rfl, List.getElem?_set_self (by rw [← rel'.len]; exact hl), F', rel'.ex, fun v F2 H2 n2 r => q v F2 H2 ⟨b'.f.trans n2.f, b'.h.trans n2.h, n2.fh, fun a h1 h2 => n2.keep a (Ex.some b'.h h1) (b'.keep a h1 h2)⟩ r⟩, fun z => Bool.noConfusion z⟩
        · rw [if_neg hc] at q
          exact q.elim
end
end Iv
namespace Iv
open PySem PySem.Spec PyProof.Rows L2 Evl L2H
/-- a def that tells d of every exception of the class at C -/
structure Lone (P : Program) (w : World) (K : PySem.W.Frag) (mg : Str → Option Value) (base : Heap) (S : Xs) (k : Nat) (C : Addr) (x y : Str) (d : D) : Prop where
  ex : ∃ f fd, mg x = some (.ref f) ∧ PySem.W.keepIn K (.ref f) = true ∧ Binds K fd [y] [] ∧ ∀ p : Addr × Obj, Zc (.ref C) none p.2 → (∃ vs, p.2.data = .fields vs) → FnP P w K mg base S k f fd y p d
theorem ds_try1 {X : Cx} {S : Xs} {W : WX} {F0 H0 : Hp} {c0 i k : Nat} {C : Addr} {x y z n : Str} {d : D} {g : M Fl} {body : List Stmt} {np pos pos' q q1 p1 p2 : Pos} (hs : X.stack = X.env :: X.outer) (hf : X.env.frame = some X.env.locals) (hN : X.N.Nodup) (hi : X.N[i]? = some n) (hln : X.env.kindOf n = some .local)
    (T : ExF X.K X.mg z C) (hC : S.cls c0 = .ref C) (tk : L2N.Takes X W) (L : Lone X.prog X.w X.K X.mg X.base S k C x y d) (hr : Room k X.A)
    (hb : ∀ (W' : WX) (pn : List (Addr × Obj)) (xe : Value → Shared → Prop), L2N.Takes (X.tr pn xe) W' → PassesOwn (model X.prog X.w) X.A X.env xe → DSs (X.tr pn xe) S W' F0 H0 body g)
    (hv : Vis X.env.scope n) (hgx : Gl X x := by rfl) (hgz : Gl X z := by rfl) (hdz : (z == ("__debug__" : Str)) = false := by decide) (hd : (n == ("__debug__" : Str)) = false := by decide) (hcd : (n == ("__classdict__" : Str)) = false := by decide) (hdb : (x == ("__debug__" : Str)) = false := by decide) :
    DS X S W F0 H0 (.Try body [.ExceptHandler (some (.Name z np)) (some n) [.Return (some (.Call (.Name x q) [.Name n q1] [] p1)) p2] pos'] [] [] pos) (mTryL c0 i d g) := by
  obtain ⟨f, fd, hm, hk, bi, Fn⟩ := L.ex
  exact ds_tryL hs hf hN hi hln T hC tk Fn hr hm hk bi hb hv hgx hgz hdz hd hcd hdb
@[simp] theorem mTryL_eq {c0 i : Nat} {d : D} {g : M Fl} {env : En} : mTryL c0 i d g env = (match g env with
  | .ex c x e => (match x with
    | none => if c = c0 ∧ i < e.length then .ok (.rt d) e else .bad
    | some _ => .bad)
  | r => r) := rfl
end Iv
namespace Iv
open PySem PySem.Spec PyProof.Rows L2 Evl L2H
theorem kit_ref {K : PySem.W.Frag} {C J : Addr} {b : Bool} (hs : PySem.W.subIn K (.ref C) (.ref C) = some true) (h1 : PySem.W.isClsIn K J = true) (h2 : PySem.W.typeIn K (.ref J) = some (.type "type")) (h3 : PySem.W.subIn K (.ref C) (.ref J) = some b) : PySem.W.kitOne K (.ref C) (.ref J) = some b := by
  unfold PySem.W.kitOne
  by_cases e : C = J
  · subst e
    rw [if_pos (beq_self_eq_true _), ← h3, hs]
  · have n : ¬ (Value.ref C == Value.ref J) = true := fun z => e (Value.ref.inj (beq_iff_eq.mp z))
    rw [if_neg n]
    show (if ((PySem.W.clsIn K J).isSome && PySem.W.typeIn K (.ref J) == some (.type "type")) = true then PySem.W.subIn K (.ref C) (.ref J) else none) = some b
    have h1 : (PySem.W.clsIn K J).isSome = true := h1
    rw [h1, h2, if_pos (by rfl)]
    exact h3
theorem kit_val {K : PySem.W.Frag} {C : Addr} {b : Bool} (h3 : PySem.W.subIn K (.ref C) (.type "ValueError") = some b) : PySem.W.kitOne K (.ref C) (.type "ValueError") = some b := by
  unfold PySem.W.kitOne
  have n : ¬ (Value.ref C == Value.type "ValueError") = true := fun z => nomatch beq_iff_eq.mp z
  rw [if_neg n]
  show (if PySem.W.kitMeta "ValueError" = true then PySem.W.subIn K (.ref C) (.type "ValueError") else none) = some b
  rw [if_pos (by decide +kernel)]
  exact h3
end Iv

set_option Elab.async false
set_option linter.all false
set_option maxRecDepth 100000
set_option maxHeartbeats 4000000
/-! Dicts of ints and texts. -/
namespace Iv
open PySem PySem.Spec PyProof.Rows L2 Evl
theorem Owned.atK {K : PySem.W.Frag} {F H F1 H1 : Hp} {σ : L2.St} {env env1 : En} {i : Nat} {ks : List Key} {l : List D} (rel1 : Rel K F1 H1 σ env1) (rel : Rel K F H σ env) (g : Gr σ env F H env1 F1 H1) (h : env1[i]? = some (.od ks l)) :
    ∃ p vs, σ[i]? = some (some (.ref p)) ∧ F1 p = none ∧ H p = some (.dK (ks.zip vs)) ∧ H1 p = some (.dK (ks.zip vs)) ∧ vs.length = ks.length ∧ Rs K F1 l vs := by
  obtain ⟨o, q1, p, vs, q2, n, q3, ql, r⟩ := rel1.at_ i _ h
  subst q2
  have ow := rel.owned (g.own p ⟨i, _, h, rfl, q1⟩)
  refine ⟨p, vs, q1, n, ?_, q3, ql, r⟩
  cases z : H p with
  | none => exact absurd z ow.2
  | some o =>
    have := g.h p o z
    rw [q3] at this
    cases this
    rfl
/-- an own list changes -/
theorem Rel.putK {K : PySem.W.Frag} {F H : Hp} {σ : L2.St} {env : En} {i : Nat} {ks ks' : List Key} {l l' : List D} {vs' : List V} {p : Addr} (rel : Rel K F H σ env) (h : env[i]? = some (.od ks l)) (hs : σ[i]? = some (some (.ref p))) (n : F p = none) (hl : vs'.length = ks'.length) (r : Rs K F l' vs') :
    Rel K F (upd H p (.dK (ks'.zip vs'))) σ (env.set i (.od ks' l')) ∧ ∀ a, Owned σ (env.set i (.od ks' l')) a → Owned σ env a := by
  have hi : i < env.length := (List.getElem?_eq_some_iff.mp h).1
  have back : ∀ {j : Nat} {t : Sl}, (env.set i (.od ks' l'))[j]? = some t → t.own = true → ∃ t', env[j]? = some t' ∧ t'.own = true ∧ (j ≠ i → t' = t) := fun {j t} e o => by
    by_cases hj : i = j
    · subst hj; exact ⟨_, h, rfl, fun z => absurd rfl z⟩
    · rw [List.getElem?_set_ne hj] at e; exact ⟨t, e, o, fun _ => rfl⟩
  refine ⟨⟨by rw [List.length_set]; exact rel.len, fun a u q => ?_, fun j t e => ?_, fun a b s t c e1 e2 o1 o2 v1 v2 => ?_⟩, fun a ⟨j, t, e, o, v⟩ => ?_⟩
  · rw [upd_ne (fun z => by rw [z, n] at q; cases q)]; exact rel.ex a u q
  · by_cases hj : i = j
    · subst hj
      rw [List.getElem?_set_self hi] at e
      cases e
      exact ⟨_, hs, p, vs', rfl, n, upd_same, hl, r⟩
    · rw [List.getElem?_set_ne hj] at e
      obtain ⟨o, q1, q2⟩ := rel.at_ j t e
      refine ⟨o, q1, ?_⟩
      have ne : ∀ a, t.own = true → o = some (.ref a) → a ≠ p := fun a ho hv z => by
        subst z
        exact hj (rel.dis i j _ t a h e rfl ho hs (by rw [q1, hv]))
      cases t with
      | un => trivial
      | xo a => exact q2
      | fr d => exact q2
      | ow l0 => obtain ⟨p', ws, z1, z2, z3, z4⟩ := q2; exact ⟨p', ws, z1, z2, by rw [upd_ne (ne p' rfl z1)]; exact z3, z4⟩
      | od ks ds => obtain ⟨p', ws, z1, z2, z3, z4⟩ := q2; exact ⟨p', ws, z1, z2, by rw [upd_ne (ne p' rfl z1)]; exact z3, z4⟩
  · obtain ⟨s', e1', o1', _⟩ := back e1 o1
    obtain ⟨t', e2', o2', _⟩ := back e2 o2
    exact rel.dis a b s' t' c e1' e2' o1' o2' v1 v2
  · obtain ⟨t', e', o', _⟩ := back e o
    exact ⟨j, t', e', o', v⟩
/-- a key -/
def keyD : D → Option Key
  | .int i => some (.inl i)
  | .str s => some (.inr s)
  | _ => none
def lookD : List Key → List D → Key → Option D
  | k' :: ks, d :: ds, k => if k' = k then some d else lookD ks ds k
  | _, _, _ => none
def setD (k : Key) (d : D) : List Key → List D → List D
  | k' :: ks, x :: ds => (if k' = k then d else x) :: setD k d ks ds
  | _, _ => []
def setV (k : Key) (v : V) : List Key → List V → List V
  | k' :: ks, x :: vs => (if k' = k then v else x) :: setV k v ks vs
  | _, _ => []
theorem key_v {K : PySem.W.Frag} {F H : Hp} {d : D} {k : Key} {y : V} (h : keyD d = some k) (r : RP K F H d y) : y = kV k := by
  cases d <;> first | (cases h; done) | skip
  · cases h; rw [r.int]; rfl
  · cases h; rw [r.str]; rfl
theorem look_rel {K : PySem.W.Frag} {F : Hp} {k : Key} : ∀ {ks : List Key} {ds : List D} {vs : List V}, vs.length = ks.length → Rs K F ds vs → (lookD ks ds k = none ∧ valV (ks.zip vs) k = none) ∨ ∃ d v, lookD ks ds k = some d ∧ valV (ks.zip vs) k = some v ∧ R K F d v
  | [], ds, vs, hl, r => by
    obtain rfl : vs = [] := List.length_eq_zero_iff.mp hl
    exact .inl ⟨by cases ds <;> rfl, rfl⟩
  | k' :: ks, [], vs, hl, r => by
    simp only [Rs] at r
    subst r
    cases hl
  | k' :: ks, d :: ds, vs, hl, r => by
    simp only [Rs] at r
    obtain ⟨v, vs', rfl, rv, r⟩ := r
    have ih := look_rel (k := k) (ks := ks) (by simpa using hl) r
    by_cases h : k' = k
    · refine .inr ⟨d, v, ?_, ?_, rv⟩
      · unfold lookD; rw [if_pos h]
      · show valV ((k', v) :: ks.zip vs') k = _
        exact valV_pos h
    · have e1 : lookD (k' :: ks) (d :: ds) k = lookD ks ds k := by
        conv => lhs; unfold lookD
        rw [if_neg h]
      have e2 : valV ((k' :: ks).zip (v :: vs')) k = valV (ks.zip vs') k := by
        show valV ((k', v) :: ks.zip vs') k = _
        simp [valV, List.find?_cons, h]
      rw [e1, e2]
      exact ih
theorem setV_zip {k : Key} {v : V} : ∀ {ks : List Key} {vs : List V}, vs.length = ks.length → (ks.zip vs).map (fun kv => if kv.1 = k then (kv.1, v) else kv) = ks.zip (setV k v ks vs) ∧ (setV k v ks vs).length = ks.length
  | [], vs, hl => by
    obtain rfl : vs = [] := List.length_eq_zero_iff.mp hl
    exact ⟨rfl, rfl⟩
  | k' :: ks, [], hl => by cases hl
  | k' :: ks, x :: vs, hl => by
    obtain ⟨h1, h2⟩ := setV_zip (k := k) (v := v) (ks := ks) (vs := vs) (by simpa using hl)
    refine ⟨?_, by unfold setV; rw [List.length_cons, List.length_cons, h2]⟩
    rw [List.zip_cons_cons, List.map_cons, h1]
    conv => rhs; unfold setV
    rw [List.zip_cons_cons]
    by_cases h : k' = k
    · rw [if_pos h, if_pos h]
    · rw [if_neg h, if_neg h]
theorem setD_rel {K : PySem.W.Frag} {F : Hp} {k : Key} {d : D} {v : V} (rv : R K F d v) : ∀ {ks : List Key} {ds : List D} {vs : List V}, vs.length = ks.length → Rs K F ds vs → Rs K F (setD k d ks ds) (setV k v ks vs)
  | [], ds, vs, hl, r => by
    obtain rfl : vs = [] := List.length_eq_zero_iff.mp hl
    cases ds <;> exact Rs.nil
  | k' :: ks, [], vs, hl, r => by
    simp only [Rs] at r
    subst r
    cases hl
  | k' :: ks, x :: ds, vs, hl, r => by
    simp only [Rs] at r
    obtain ⟨w, vs', rfl, rw', r⟩ := r
    have ih := setD_rel rv (k := k) (ks := ks) (by simpa using hl) r
    unfold setD setV
    by_cases h : k' = k
    · rw [if_pos h, if_pos h]; exact Rs.cons rv ih
    · rw [if_neg h, if_neg h]; exact Rs.cons rw' ih
/-- the dict that slot i owns -/
def odAt (env : En) (i : Nat) : Option (List Key × List D) := match env[i]? with
  | some (.od ks ds) => some (ks, ds)
  | _ => none
theorem odAt_eq {env : En} {i : Nat} {ks : List Key} {ds : List D} (h : odAt env i = some (ks, ds)) : env[i]? = some (.od ks ds) := by
  unfold odAt at h
  split at h
  · rename_i e
    cases h
    exact e
  · cases h
section
variable {X : Cx} {S : Xs} {W : WX} {F0 H0 : Hp} {o e e2 : Expr} {pos pos' apos : Pos} {f g h : M D}
/-- {} -/
def mDn : M Sv := fun env => .ok (.k [] []) env
theorem pd_dn : PD X S W (.Dict [] [] pos) mDn := PE.imp pe_dnewK fun σ H Q ⟨F, env, rel, q⟩ p hp => by
  have n := New.fresh (o := .dK []) rel.ex hp
  exact q _ _ _ (n.gr rel).1 (n.gr rel).2 ⟨p, [], rfl, hp, fresh_back rel.ex hp, upd_same, rfl, Rs.nil⟩
/-- d[k] = v -/
def mPutK (i : Nat) (ix f : M D) : M Fl := fun env => (f env).bind fun d env => match odAt env i with
  | some _ => (ix env).bind fun k env => match odAt env i, keyD k with
    | some (ks, ds), some k => if ks.length < 90000 then (if (ks.any fun k' => decide (k' = k)) = true then .ok .nx (env.set i (.od ks (setD k d ks ds))) else .ok .nx (env.set i (.od (ks ++ [k]) (ds ++ [d])))) else .bad
    | _, _ => .bad
  | none => .bad
theorem any_mem {k : Key} : ∀ {ks : List Key} {vs : List V}, vs.length = ks.length → ((ks.zip vs).any (fun kv => decide (kv.1 = k)) = true ↔ (ks.any fun k' => decide (k' = k)) = true)
  | [], vs, hl => by simp
  | k' :: ks, [], hl => by cases hl
  | k' :: ks, x :: vs, hl => by
    have ih := any_mem (k := k) (ks := ks) (vs := vs) (by simpa using hl)
    rw [List.zip_cons_cons, List.any_cons, List.any_cons, Bool.or_eq_true, Bool.or_eq_true, ih]
theorem ds_putK {i : Nat} {ix f : M D} {st : Stmt} (hp : PS X st (sDPut (tVar i) (rd X.K S W (TP X.K) ix) (rd X.K S W (TF X.K) f))) : DS X S W F0 H0 st (mPutK i ix f) :=
  PS.imp hp fun D σ H ⟨F, env, b, rel, q⟩ => by
  refine ⟨F, env, rel, okS.ex_bind b q fun d env1 v F1 H1 hr g1 b1 rel1 rv q => ?_⟩
  have rv : R X.K F1 d v := rv
  cases h0 : odAt env1 i with
  | none => rw [h0] at q; exact q.elim
  | some l0 =>
    obtain ⟨ks0, ds0⟩ := l0
    rw [h0] at q
    obtain ⟨p, vs, e1, n1, h1, h2, _, r1⟩ := Owned.atK rel1 rel1 Gr.refl (odAt_eq h0)
    refine ⟨.ref p, e1, F1, env1, rel1, okS.ex_bind b1 q fun k env2 u F2 H2 hr2 g2 b2 rel2 ru q => ?_⟩
    have ru : RP X.K F2 H2 k u := ru
    cases h3 : odAt env2 i with
    | none => rw [h3] at q; exact q.elim
    | some l =>
      obtain ⟨ks, ds⟩ := l
      rw [h3] at q
      obtain ⟨p', vs', k1, k2, k3, k4, kl, k5⟩ := Owned.atK rel2 rel1 g2 (odAt_eq h3)
      rw [e1] at k1
      cases k1
      cases hk : keyD k with
      | none => rw [hk] at q; exact q.elim
      | some key =>
        rw [hk] at q
        dsimp only at q
        have hu := key_v hk ru
        subst hu
        have hzl : (ks.zip vs').length = ks.length := by rw [List.length_zip, kl, Nat.min_self]
        by_cases hlen : ks.length < 90000
        · rw [if_pos hlen] at q
          have put := DPut.k (k := key) (v := v) k4 (sz_lt (by omega))
          have dir := any_mem (k := key) kl
          by_cases hm : (ks.any fun k' => decide (k' = key)) = true
          · rw [if_pos hm] at q
            obtain ⟨z1, z2⟩ := setV_zip (k := key) (v := v) kl
            have ep : putK (ks.zip vs') key v = ks.zip (setV key v ks vs') := by
              unfold putK
              rw [if_pos (dir.mpr hm)]
              exact z1
            rw [ep] at put
            have hp := rel2.putK (odAt_eq h3) e1 k2 z2 (setD_rel (rv.mono g2.f) kl k5)
            exact ⟨p, _, rfl, put, q σ F2 _ (Ex.refl _) (b2.put ⟨i, _, odAt_eq h3, rfl, e1⟩ hp.2) hp.1⟩
          · rw [if_neg hm] at q
            have ep : putK (ks.zip vs') key v = (ks ++ [key]).zip (vs' ++ [v]) := by
              unfold putK
              rw [if_neg (fun z => hm (dir.mp z)), List.zip_append kl.symm]
              rfl
            rw [ep] at put
            have hp := rel2.putK (ks' := ks ++ [key]) (odAt_eq h3) e1 k2 (by simp [kl]) (k5.append (Rs.cons (rv.mono g2.f) Rs.nil))
            exact ⟨p, _, rfl, put, q σ F2 _ (Ex.refl _) (b2.put ⟨i, _, odAt_eq h3, rfl, e1⟩ hp.2) hp.1⟩
        · rw [if_neg hlen] at q
          exact q.elim
end
end Iv
namespace Iv
open PySem PySem.Spec PyProof.Rows L2 Evl
section
variable {K : PySem.W.Frag} {F H : Hp} {x y : V}
/-- d[k] -/
def rGetK : R2 := fun x y H Q => ∃ a v, x = .ref a ∧ DGet H a y (some v) ∧ Q v H
def oGetK : D → D → Option Sv
  | .dct ks ds, k => match keyD k with
    | some k => (lookD ks ds k).map Sv.d
    | none => none
  | _, _ => none
theorem os_getK : OpS K rGetK oGetK := fun F H x y dx dy sv ef rx ry ho Q q => by
  cases dx <;> first | (cases ho; done) | skip
  rename_i ks ds
  obtain ⟨p, vs, e1, e2, e3, e4⟩ := RP.dct ef rx
  subst e1
  unfold oGetK at ho
  dsimp only at ho
  cases hk : keyD dy with
  | none => rw [hk] at ho; cases ho
  | some k =>
    rw [hk] at ho
    have hy := key_v hk ry
    subst hy
    rcases look_rel (k := k) e3 e4 with ⟨z, _⟩ | ⟨d, v, z1, z2, z3⟩
    · dsimp only at ho; rw [z] at ho; cases ho
    · dsimp only at ho
      rw [z1] at ho
      cases ho
      refine ⟨p, v, rfl, ?_, q v F H (New.refl ef) z3⟩
      rw [← z2]
      exact DGet.k e2
/-- k in d -/
def rInK (neg : Bool) : R2 := fun y x H Q => ∃ a o, x = .ref a ∧ DGet H a y o ∧ Q (.bl (if neg then !o.isSome else o.isSome)) H
def oInK (neg : Bool) : D → D → Option Sv
  | k, .dct ks ds => match keyD k with
    | some k => some (.d (.bl (if neg then !(lookD ks ds k).isSome else (lookD ks ds k).isSome)))
    | none => none
  | _, _ => none
theorem os_inK {neg : Bool} : OpS K (rInK neg) (oInK neg) := fun F H x y dx dy sv ef rx ry ho Q q => by
  cases dy with
  | dct ks ds =>
    obtain ⟨p, vs, e1, e2, e3, e4⟩ := RP.dct ef ry
    subst e1
    unfold oInK at ho
    dsimp only at ho
    cases hk : keyD dx with
    | none => rw [hk] at ho; cases ho
    | some k =>
      rw [hk] at ho
      have hy := key_v hk rx
      subst hy
      dsimp only at ho
      have e : (lookD ks ds k).isSome = (valV (ks.zip vs) k).isSome := by
        rcases look_rel (k := k) e3 e4 with ⟨z, z'⟩ | ⟨d, v, z1, z2, z3⟩
        · rw [z, z']
          rfl
        · rw [z1, z2]
          rfl
      cases ho
      refine ⟨p, _, rfl, DGet.k e2, ?_⟩
      rw [← e]
      exact q _ F H (New.refl ef) (RVd Rb)
  | _ => exact False.elim (by unfold oInK at ho; cases ho)
/-- data that may be compared -/
def pyD : D → Option PyData
  | .non => some .none
  | .bl b => some (.bool b)
  | .int i => some (.int i)
  | .str s => some (.str s)
  | .tup l => (pyDs l).map .tuple
  | .lst l => (pyDs l).map .list
  | _ => none
where pyDs : List D → Option (List PyData)
  | [] => some []
  | d :: l => match pyD d, pyDs l with
    | some p, some ps => some (p :: ps)
    | _, _ => none
mutual
theorem py_rel : ∀ {d : D} {v : V} {p : PyData}, Ex F H → R K F d v → pyD d = some p → Dp K H v p
  | .non, v, p, ef, r, h => by
    simp only [R] at r
    unfold pyD at h
    cases h
    subst r
    exact .non
  | .bl b, v, p, ef, r, h => by
    simp only [R] at r
    unfold pyD at h
    cases h
    subst r
    exact .bl b
  | .int b, v, p, ef, r, h => by
    simp only [R] at r
    unfold pyD at h
    cases h
    subst r
    exact .int b
  | .str b, v, p, ef, r, h => by
    simp only [R] at r
    unfold pyD at h
    cases h
    subst r
    exact .str b
  | .tup l, v, p, ef, r, h => by
    simp only [R] at r
    unfold pyD at h
    obtain ⟨ps, h1, rfl⟩ := Option.map_eq_some_iff.mp h
    obtain ⟨a, vs, rfl, e2, e3⟩ := r
    exact .tup (st_of (ef a _ e2)) (pys_rel ef e3 h1)
  | .lst l, v, p, ef, r, h => by
    simp only [R] at r
    unfold pyD at h
    obtain ⟨ps, h1, rfl⟩ := Option.map_eq_some_iff.mp h
    obtain ⟨a, vs, rfl, e2, e3⟩ := r
    exact .lst (sq_of (ef a _ e2)) (pys_rel ef e3 h1)
  | .ty _, _, _, _, _, h => by unfold pyD at h; cases h
  | .scr _, _, _, _, _, h => by unfold pyD at h; cases h
  | .dct _ _, _, _, _, _, h => by unfold pyD at h; cases h
theorem pys_rel : ∀ {l : List D} {vs : List V} {ps : List PyData}, Ex F H → Rs K F l vs → pyD.pyDs l = some ps → DpAll K H vs ps
  | [], vs, ps, ef, r, h => by
    simp only [Rs] at r
    unfold pyD.pyDs at h
    cases h
    subst r
    exact .nil
  | d :: l, vs, ps, ef, r, h => by
    simp only [Rs] at r
    obtain ⟨v, vs', rfl, r1, r2⟩ := r
    unfold pyD.pyDs at h
    cases h1 : pyD d with
    | none => rw [h1] at h; cases h
    | some p =>
      cases h2 : pyD.pyDs l with
      | none => rw [h1, h2] at h; cases h
      | some ps' =>
        rw [h1, h2] at h
        cases h
        exact .cons (py_rel ef r1 h1) (pys_rel ef r2 h2)
end
/-- a == b, a != b over data of any depth -/
def oEqP (neg : Bool) (a b : D) : Option Sv := match pyD a, pyD b with
  | some p, some q => if SeqAt.shaped p = true ∧ SeqAt.shaped q = true then some (.d (.bl (if neg then !PyData.eqv p q else PyData.eqv p q))) else none
  | _, _ => none
theorem py_peek {d : D} {v : V} {p : PyData} (ef : Ex F H) (r : RP K F H d v) (h : pyD d = some p) : Dp K H v p := by
  have r2 := r.at_ ef
  exact py_rel (Ex.refl H) r2 h
theorem os_eqP : OpS K (rEqD K) (oEqP false) := fun F H x y dx dy sv ef rx ry ho Q q => by
  unfold oEqP at ho
  cases h1 : pyD dx with
  | none => rw [h1] at ho; cases ho
  | some a =>
    cases h2 : pyD dy with
    | none => rw [h1, h2] at ho; cases ho
    | some b =>
      rw [h1, h2] at ho
      dsimp only at ho
      split at ho
      · rename_i s
        cases ho
        exact ⟨a, b, py_peek ef rx h1, py_peek ef ry h2, s.1, s.2, q _ F H (New.refl ef) (RVd Rb)⟩
      · cases ho
theorem os_neP : OpS K (rNeD K) (oEqP true) := fun F H x y dx dy sv ef rx ry ho Q q => by
  unfold oEqP at ho
  cases h1 : pyD dx with
  | none => rw [h1] at ho; cases ho
  | some a =>
    cases h2 : pyD dy with
    | none => rw [h1, h2] at ho; cases ho
    | some b =>
      rw [h1, h2] at ho
      dsimp only at ho
      split at ho
      · rename_i s
        cases ho
        exact ⟨a, b, py_peek ef rx h1, py_peek ef ry h2, s.1, s.2, q _ F H (New.refl ef) (RVd Rb)⟩
      · cases ho
/-- x in xs, flat items -/
def flD : D → Bool
  | .non => true
  | .bl _ => true
  | .int _ => true
  | .str _ => true
  | _ => false
def flV : D → Option V
  | .non => some .non
  | .bl b => some (.bl b)
  | .int i => some (.int i)
  | .str s => some (.str s)
  | _ => none
def flVs : List D → Option (List V)
  | [] => some []
  | d :: l => match flV d, flVs l with
    | some v, some vs => some (v :: vs)
    | _, _ => none
theorem fl_rel {d : D} {v w : V} (r : R K F d v) (h : flV d = some w) : v = w ∧ flatV v = true := by
  cases d <;> first
    | (cases h; done)
    | (cases h; simp only [R] at r; subst r; exact ⟨rfl, rfl⟩)
theorem fls_rel : ∀ {l : List D} {vs ws : List V}, Rs K F l vs → flVs l = some ws → vs = ws ∧ vs.all flatV = true
  | [], vs, ws, r, h => by
    simp only [Rs] at r
    cases h
    exact ⟨r, by rw [r]; rfl⟩
  | d :: l, vs, ws, r, h => by
    simp only [Rs] at r
    obtain ⟨v, vs', rfl, r1, r2⟩ := r
    unfold flVs at h
    cases h1 : flV d with
    | none => rw [h1] at h; cases h
    | some w =>
      cases h2 : flVs l with
      | none => rw [h1, h2] at h; cases h
      | some ws' =>
        rw [h1, h2] at h
        cases h
        obtain ⟨e1, f1⟩ := fl_rel r1 h1
        obtain ⟨e2, f2⟩ := fls_rel r2 h2
        subst e1 e2
        exact ⟨rfl, by rw [List.all_cons, f1, f2]; rfl⟩
def oInL (neg : Bool) : D → D → Option Sv
  | x, .lst l => match flV x, flVs l with
    | some v, some vs => some (.d (.bl (if neg then !inV v vs else inV v vs)))
    | _, _ => none
  | x, .tup l => match flV x, flVs l with
    | some v, some vs => some (.d (.bl (if neg then !inV v vs else inV v vs)))
    | _, _ => none
  | _, _ => none
theorem fl_peek {d : D} {v w : V} (r : RP K F H d v) (h : flV d = some w) : v = w ∧ flatV v = true := by
  rcases r with r | ⟨_, _, _, z, _⟩ | ⟨_, _, _, _, z, _⟩
  · exact fl_rel r h
  · subst z; cases h
  · subst z; cases h
theorem os_inL {neg : Bool} : OpS K (rIn K neg) (oInL neg) := fun F H x y dx dy sv ef rx ry ho Q q => by
  have go : ∀ {l : List D} {p : Addr} {vs : List V}, y = .ref p → (SqL K H p vs ∨ SqT K H p vs) → Rs K F l vs → (match flV dx, flVs l with
      | some v, some vs => some (Sv.d (.bl (if neg then !inV v vs else inV v vs)))
      | _, _ => none) = some sv → rIn K neg x y H Q := fun {l p vs} e1 e2 e3 ho => by
    subst e1
    cases h1 : flV dx with
    | none => rw [h1] at ho; cases ho
    | some v =>
      cases h2 : flVs l with
      | none => rw [h1, h2] at ho; cases ho
      | some ws =>
        rw [h1, h2] at ho
        cases ho
        obtain ⟨a1, a2⟩ := fl_peek rx h1
        obtain ⟨b1, b2⟩ := fls_rel e3 h2
        subst a1 b1
        exact ⟨p, vs, rfl, e2, a2, b2, q _ F H (New.refl ef) (RVd Rb)⟩
  cases dy with
  | lst l =>
    obtain ⟨p, vs, e1, e2, e3⟩ := ry.lst ef
    exact go e1 (.inl (sq_of e2)) e3 ho
  | tup l =>
    obtain ⟨p, vs, e1, e2, e3⟩ := ry.tup
    exact go e1 (.inr (st_of (ef p _ e2))) e3 ho
  | _ => exact False.elim (by unfold oInL at ho; cases ho)
end
section
variable {X : Cx} {S : Xs} {W : WX} {F0 H0 : Hp} {a b : Expr} {pos apos : Pos} {f g : M D} {k : Nat}
theorem room_u (hr : Room k X.A) : X.A.units + 1 < cLine := by have := hr.un; omega
theorem room_64 (hr : Room k X.A) : X.A.units + 64 < cLine := by have := hr.un; omega
theorem pd_getK (hr : Room k X.A) (ha : PP X S W a f) (hb : PP X S W b g) (hs : NoSl b := by intro _ _; rfl) : PD X S W (.Subscript a b pos) (mOp oGetK f g) := PE.imp (pe_dget (room_u hr) ha hb hs) fun _ _ _ q => rd_op os_getK q
theorem pd_inK (hr : Room k X.A) (ha : PP X S W a f) (hb : PP X S W b g) (hm : behindInMarks .In b = false := by rfl) : PD X S W (.Compare a [.In] [b] pos) (mOp (oInK false) f g) := PE.imp (pe_cmp (pc_din (room_u hr) ha hb) hm) fun _ _ _ q => rd_op (r := rInK false) os_inK q
theorem pd_niK (hr : Room k X.A) (ha : PP X S W a f) (hb : PP X S W b g) (hm : behindInMarks .NotIn b = false := by rfl) : PD X S W (.Compare a [.NotIn] [b] pos) (mOp (oInK true) f g) := PE.imp (pe_cmp (pc_dnotin (room_u hr) ha hb) hm) fun _ _ _ q => rd_op (r := rInK true) os_inK q
theorem pd_inL (ha : PP X S W a f) (hb : PP X S W b g) (hm : behindInMarks .In b = false := by rfl) : PD X S W (.Compare a [.In] [b] pos) (mOp (oInL false) f g) := pd_cmp op_in_seq os_inL hm ha hb
theorem pd_niL (ha : PP X S W a f) (hb : PP X S W b g) (hm : behindInMarks .NotIn b = false := by rfl) : PD X S W (.Compare a [.NotIn] [b] pos) (mOp (oInL true) f g) := pd_cmp op_notIn_seq os_inL hm ha hb
theorem pd_eqP (hr : Room k X.A) (ha : PP X S W a f) (hb : PP X S W b g) (hm : behindInMarks .Eq b = false := by rfl) : PD X S W (.Compare a [.Eq] [b] pos) (mOp (oEqP false) f g) := pd_cmp (op_eqD (room_64 hr)) os_eqP hm ha hb
theorem pd_neP (hr : Room k X.A) (ha : PP X S W a f) (hb : PP X S W b g) (hm : behindInMarks .NotEq b = false := by rfl) : PD X S W (.Compare a [.NotEq] [b] pos) (mOp (oEqP true) f g) := pd_cmp (op_neD (room_64 hr)) os_neP hm ha hb
end
end Iv
namespace Iv
open PySem PySem.Spec PyProof.Rows L2 Evl
/-- a key as data -/
def kD : Key → D
  | .inl i => .int i
  | .inr s => .str s
theorem kD_rel {K : PySem.W.Frag} {F : Hp} (k : Key) : R K F (kD k) (kV k) := by
  cases k <;> (simp only [kD, R]; rfl)
theorem keys_zip : ∀ {ks : List Key} {vs : List V}, vs.length = ks.length → (ks.zip vs).map (fun kv => kV kv.1) = ks.map kV
  | [], vs, h => rfl
  | k :: ks, [], h => by cases h
  | k :: ks, v :: vs, h => by
    rw [List.zip_cons_cons, List.map_cons, List.map_cons, keys_zip (by simpa using h)]
theorem vals_zip : ∀ {ks : List Key} {vs : List V}, vs.length = ks.length → (ks.zip vs).map (·.2) = vs
  | [], vs, h => by
    obtain rfl : vs = [] := List.length_eq_zero_iff.mp h
    rfl
  | k :: ks, [], h => by cases h
  | k :: ks, v :: vs, h => by
    rw [List.zip_cons_cons, List.map_cons, vals_zip (by simpa using h)]
theorem kv_vals : ∀ {kvs : List (Key × V)} {ws : List (Key × Value)}, KV kvs ws → Vals (kvs.map (·.2)) (ws.map (·.2))
  | _, _, .nil => .nil
  | _, _, .cons h t => .cons h.2 (kv_vals t)
/-- list(d) -/
def cKeys : List D → Option Sv
  | [.dct ks _] => some (.l (ks.map kD))
  | _ => none
/-- sorted(l), ints -/
def leI (a b : Int) : Bool := decide (a ≤ b)
def cSort : List D → Option Sv
  | [.lst l] => (intsOf l).map fun ns => .l ((ns.mergeSort leI).map D.int)
  | _ => none
section
variable {K : PySem.W.Frag}
theorem cs_keys : ClS K (fun xs H Q => ∃ (a : Addr) (kvs : List (Key × V)), xs = [.ref a] ∧ Rd H a (.dK kvs) ∧ ∀ p, H p = none → Q (.ref p) (upd H p (.lst (kvs.map fun kv => kV kv.1)))) cKeys := fun F H xs ds sv ef rx ho Q q => by
  unfold cKeys at ho
  split at ho
  · cases ho
    obtain ⟨v, e0, r⟩ := rx.one
    subst e0
    obtain ⟨p, vs, e1, e2, e3, e4⟩ := r.dct ef
    subst e1
    refine ⟨p, _, rfl, .inl e2, fun l hl => ?_⟩
    rw [keys_zip e3]
    exact q _ F _ (New.fresh ef hl) ⟨l, _, rfl, hl, fresh_back ef hl, upd_same, Rs.of_map kD_rel _⟩
  · cases ho
theorem leI_trans (a b c : Int) (h : leI a b = true) (k : leI b c = true) : leI a c = true := by
  unfold leI at *
  simp only [decide_eq_true_eq] at *
  omega
theorem leI_total (a b : Int) : (leI a b || leI b a) = true := by
  unfold leI
  simp only [Bool.or_eq_true, decide_eq_true_eq]
  omega
theorem sort_one {ns ns' : List Int} (h1 : ns'.Perm ns) (h2 : ns'.Pairwise (· ≤ ·)) : ns' = ns.mergeSort leI := by
  refine List.Perm.eq_of_pairwise (le := fun a b : Int => a ≤ b) (fun a b _ _ => Int.le_antisymm) h2 ?_ (h1.trans (List.mergeSort_perm ns leI).symm)
  exact (List.pairwise_mergeSort leI_trans leI_total ns).imp fun h => of_decide_eq_true h
theorem cs_sort : ClS K (rSortedI K) cSort := fun F H xs ds sv ef rx ho Q q => by
  unfold cSort at ho
  split at ho
  · rename_i l
    obtain ⟨v, e0, r⟩ := rx.one
    subst e0
    obtain ⟨p, vs, e1, e2, e3⟩ := r.lst ef
    subst e1
    cases hi : intsOf l with
    | none => rw [hi] at ho; cases ho
    | some ns =>
      rw [hi] at ho
      cases ho
      rw [ints_eq hi] at e3
      have ev := e3.ints
      subst ev
      refine ⟨p, ns, rfl, sq_of e2, fun ns' a hp hs ha => ?_⟩
      rw [sort_one hp hs]
      exact q _ F _ (New.fresh ef ha) ⟨a, _, rfl, ha, fresh_back ef ha, upd_same, Rs.of_map (fun i => by simp only [R]) _⟩
  · cases ho
end
section
variable {X : Cx} {S : Xs} {W : WX} {o e e2 : Expr} {es : List Expr} {pos apos cpos p : Pos} {f g h : M D} {ff : M (List D)} {k : Nat}
theorem b_keys (B : Bl X.mg) (ha : PPs X S W (e :: es) ff) (hc : X.calm = true) (hg : Gl X "list" := by rfl) (he : starEach (e :: es) X.env = (false, eval e X.env) :: starEach es X.env := by rfl) (hpl : (backTo pos (starEach es X.env)).any (·.1) = false := by rfl) :
    PD X S W (.Call (.Name "list" p) (e :: es) [] pos) (mCl cKeys ff) := pd_callTy (call_listD hc) cs_keys hg B.list PyProof.Rows.boot_list ha (by decide) (by decide) he hpl
theorem b_sort (B : Bl X.mg) (ha : PPs X S W (e :: es) ff) (hg : Gl X "sorted" := by rfl) (he : starEach (e :: es) X.env = (false, eval e X.env) :: starEach es X.env := by rfl) (hpl : (backTo pos (starEach es X.env)).any (·.1) = false := by rfl) :
    PD X S W (.Call (.Name "sorted" p) (e :: es) [] pos) (mCl cSort ff) := pd_callB cr_sortedI cs_sort hg B.sorted (by decide +kernel) ha (by decide) (by decide) he hpl
/-- d.get(k, x) -/
def mGet (f g h : M D) : M Sv := fun env => (f env).bind fun x env => match x with
  | .dct ks ds => (g env).bind fun k env => (h env).bind fun z env => (match keyD k with
    | some k => .ok (.d ((lookD ks ds k).getD z)) env
    | none => .bad)
  | _ => .bad
theorem pd_get (hr : Room k X.A) (ho : PP X S W o f) (he : PP X S W e g) (hf : PF X S W e2 h) (hbase : attributeBase o "get" X.env (eval o X.env) = eval o X.env := by rfl)
    (hfew : ((backTo cpos (starEach [e, e2] X.env)).all (fun x => !x.1) && (backToKw cpos (keywordEach [] X.env)).all (fun x => x.1.isSome)
      && decide (([e, e2] : List Expr).length + ([] : List Keyword).length + (if ([] : List Keyword).isEmpty then 0 else 1) < 30)) = true := by rfl)
    (hline : (apos.endLine == cpos.line) = true := by rfl) (hs : backTo cpos (starEach [e, e2] X.env) = [(false, eval e X.env), (false, eval e2 X.env)] := by rfl) :
    PD X S W (.Call (.Attribute o "get" apos) [e, e2] [] cpos) (mGet f g h) :=
  PE.imp (pe_dget2 (room_u hr) ho he hf ⟨hbase, hfew, hline, hs⟩) fun σ H Q q => by
  obtain ⟨F, ef, q⟩ := rd_bind (T := TP X.K) q
  refine rd_imp q fun x H1 ⟨F1, env1, dx, g1, g2, rel1, rx, q⟩ => ?_
  have rx : RP X.K F1 H1 dx x := rx
  cases dx with
  | dct ks ds =>
    obtain ⟨a, vs, e1, e2, e3, e4⟩ := rx.dct rel1.ex
    subst e1
    refine ⟨a, rfl, .inl ⟨_, .inl e2⟩, ?_⟩
    have q := okG.bind (T := TP X.K) q
    refine ⟨F1, env1, rel1, q.imp fun y H2 ⟨F2, env2, dy, k1, k2, rel2, ry, q⟩ => ?_⟩
    have ry : RP X.K F2 H2 dy y := ry
    have q := okG.bind (T := TF X.K) q
    refine ⟨F2, env2, rel2, q.imp fun z H3 ⟨F3, env3, dz, l1, l2, rel3, rz, q⟩ => ?_⟩
    have rz : R X.K F3 dz z := rz
    dsimp only at q
    cases hk : keyD dy with
    | none => rw [hk] at q; exact q.elim
    | some key =>
      rw [hk] at q
      have hy := key_v hk ry
      subst hy
      have h3 : H3 a = some (.dK (ks.zip vs)) := l2 a _ (k2 a _ e2)
      refine ⟨valV (ks.zip vs) key, DGet.k h3, q _ F3 H3 Gr.refl rel3 (RVd ?_)⟩
      rcases look_rel (k := key) e3 e4 with ⟨z1, z2⟩ | ⟨d, v, z1, z2, z3⟩
      · rw [z1, z2]; exact rz
      · rw [z1, z2]; exact z3.mono (k1.trans l1)
  | _ => exact q.elim
/-- d.values() -/
def tValsK (t : TE) : TE := fun σ H Q => t σ H fun x H1 => ∃ a kvs, x = .ref a ∧ Rd H1 a (.dK kvs) ∧ ∀ p, H1 p = none → Q (.ref p) (upd H1 p (viewO "dict_values" p a))
theorem pe_valsK {te : TE} (he : PE X e te) (hbase : attributeBase e "values" X.env (eval e X.env) = eval e X.env := by rfl) (hline : (apos.endLine == cpos.line) = true := by rfl) : PE X (.Call (.Attribute e "values" apos) [] [] cpos) (tValsK te) := by
  refine ⟨fun pins s σ H Q I hq => wpAny_Call_method (T := "dict") (id := "dict.values") hbase rfl hline F.plainAttrs_dict F.slot_dict_values F.type_dict_values (thn (he.run pins s σ H _ I hq) fun u s1 ⟨x, H1, I1, rx, a, kvs, ex, hd, q⟩ => ?_)⟩
  subst ex
  obtain rfl : u = Value.ref a := rx
  obtain ⟨lz, sm, ws, kv, dd⟩ := dk_rd I1.hok hd
  refine ⟨dd.typeIs, dd.mapOf.noDict, ?_⟩
  have done : EP X pins σ Q (.ref s1.heap.objs.size) { s1 with heap := s1.heap.push (DSub.viewOb "dict_values" a) } :=
    ⟨.ref s1.heap.objs.size, _, I1.laid (t' := s1.toks) (fun _ _ z => Heap.get?_push_of_some _ z) (Nat.le_refl _) (viewO_ok (Heap.get?_push_size _ rfl)), rfl, q _ (I1.hok.fresh (Nat.le_refl _))⟩
  show wpAny _ _ (callWith cpos (.builtin "dict.values") [.ref a] [] []) _ X.xe s1
  exact method_meetsIn F.slot_dict_values F.entry_dict_values rfl (PySem.evalArgs_none ⟨rfl, dd.typeIs, F.args_dict_values_1 _, _, meets_dict_values (mixKind X.prog X.w) a sm, ⟨ws, dd⟩, done⟩)
/-- list(a view of values) -/
def rListV : List V → Hp → VK → Prop := fun xs H Q => ∃ (p a : Addr) (kvs : List (Key × V)), xs = [.ref p] ∧ H p = some (viewO "dict_values" p a) ∧ Rd H a (.dK kvs) ∧ ∀ l, H l = none → Q (.ref l) (upd H l (.lst (kvs.map (·.2))))
theorem call_listV (hc : X.calm = true) : CallR X (.type "list") rListV := fun pins s σ H ys us Q I r ⟨p, a, kvs, e0, hv, hd, q⟩ => by
  subst e0
  match us, r with
  | [u], .cons ru .nil =>
    obtain rfl : u = Value.ref p := ru
    obtain ⟨lz, sm, ws, kv, dd⟩ := dk_rd I.hok hd
    obtain ⟨ep, hat⟩ := dd.dictAt
    have view : s.heap.get? p = some (DSub.viewOb "dict_values" a) := (I.hok p _ hv).1
    refine PySem.W.kdl_call (PySem.W.kdl_values (knd := mixKind X.prog X.w) (kvs := ws) (ep := ep)) (I.ok.hd hc) ⟨⟨_, view, rfl, rfl⟩, hat⟩ (by rw [← kv.length]; exact lz) fun h' tk acc c' hk hD hacc => ?_
    have ea : acc.toList = ws.map (·.2) := PySem.W.kdl_vals_eq acc.toList (by rw [Array.length_toList]; exact hacc.1) fun j v z => hacc.2 j v (by rw [← Array.getElem?_toList]; exact z)
    refine ⟨.ref s.heap.objs.size, upd H s.heap.objs.size (.lst (kvs.map (·.2))), I.laid (t' := tk) hk (Nat.le_refl _)
      (show ObjOk X.prog X.w _ _ _ (.lst (kvs.map (·.2))) from ⟨by rw [List.length_map]; exact lz, acc.toList, c', by rw [ea]; exact kv_vals kv, by rw [Array.toArray_toList]; exact hD⟩), rfl, q _ (I.hok.fresh (Nat.le_refl _))⟩
/-- list(d.values()) -/
def mVals (f : M D) : M Sv := fun env => (f env).bind fun x env => match x with
  | .dct _ ds => .ok (.l ds) env
  | _ => .bad
theorem pd_vals (B : Bl X.mg) (hc : X.calm = true) (he : PP X S W e f) (hbase : attributeBase e "values" X.env (eval e X.env) = eval e X.env := by rfl) (hline : (apos.endLine == cpos.line) = true := by rfl) (hg : Gl X "list" := by rfl)
    (hs : starEach [.Call (.Attribute e "values" apos) [] [] cpos] X.env = [(false, eval (.Call (.Attribute e "values" apos) [] [] cpos) X.env)] := by rfl) :
    PD X S W (.Call (.Name "list" p) [.Call (.Attribute e "values" apos) [] [] cpos] [] pos) (mVals f) :=
  PE.imp (pe_callTy (call_listV hc) hg B.list PyProof.Rows.boot_list (pa_cons (pe_valsK he hbase hline) pa_nil hs) (by decide) (by decide) hs rfl) fun σ H Q q => by
  obtain ⟨F, ef, q⟩ := rd_bind (T := TP X.K) q
  refine rd_imp q fun x H1 ⟨F1, env1, dx, g1, g2, rel1, rx, q⟩ => ?_
  have rx : RP X.K F1 H1 dx x := rx
  cases dx with
  | dct ks ds =>
    obtain ⟨a, vs, e1, e2, e3, e4⟩ := rx.dct rel1.ex
    subst e1
    refine ⟨a, _, rfl, .inl e2, fun p hp => ?_⟩
    have n1 := New.fresh (o := viewO "dict_values" p a) rel1.ex hp
    refine ⟨p, a, ks.zip vs, rfl, upd_same, .inl ((New.fresh (o := viewO "dict_values" p a) rel1.ex hp).h a _ e2), fun l hl => ?_⟩
    have n2 := New.fresh (o := .lst vs) n1.fh hl
    have n : New F1 H1 F1 (upd (upd H1 p (viewO "dict_values" p a)) l (.lst vs)) := ⟨Ex.refl _, n1.h.trans n2.h, n2.fh, fun _ _ z => z⟩
    rw [vals_zip e3]
    exact q _ _ _ (n.gr rel1).1 (n.gr rel1).2 ⟨l, vs, rfl, fresh_back n1.h hl, fresh_back n1.fh hl, upd_same, e4⟩
  | _ => exact q.elim
end
end Iv
namespace Iv
open PySem PySem.Spec PyProof.Rows L2 Evl
section
variable {X : Cx} {S : Xs} {W : WX} {a b : Expr} {pos : Pos} {f g : M D} {k : Nat}
theorem pb_inK (hr : Room k X.A) (ha : PP X S W a f) (hb : PP X S W b g) (hm : behindInMarks .In b = false := by rfl) : PB X S W (.Compare a [.In] [b] pos) (mB (mOp (oInK false) f g)) :=
  PT.imp (pt_cmp (pc_din (room_u hr) ha hb) hm) fun _ _ _ q => rd_op (r := rInK false) os_inK (rd_test q)
theorem pb_niK (hr : Room k X.A) (ha : PP X S W a f) (hb : PP X S W b g) (hm : behindInMarks .NotIn b = false := by rfl) : PB X S W (.Compare a [.NotIn] [b] pos) (mB (mOp (oInK true) f g)) :=
  PT.imp (pt_cmp (pc_dnotin (room_u hr) ha hb) hm) fun _ _ _ q => rd_op (r := rInK true) os_inK (rd_test q)
theorem pb_inL (ha : PP X S W a f) (hb : PP X S W b g) (hm : behindInMarks .In b = false := by rfl) : PB X S W (.Compare a [.In] [b] pos) (mB (mOp (oInL false) f g)) := pb_cmp op_in_seq os_inL hm ha hb
theorem pb_niL (ha : PP X S W a f) (hb : PP X S W b g) (hm : behindInMarks .NotIn b = false := by rfl) : PB X S W (.Compare a [.NotIn] [b] pos) (mB (mOp (oInL true) f g)) := pb_cmp op_notIn_seq os_inL hm ha hb
theorem pb_eqP (hr : Room k X.A) (ha : PP X S W a f) (hb : PP X S W b g) (hm : behindInMarks .Eq b = false := by rfl) : PB X S W (.Compare a [.Eq] [b] pos) (mB (mOp (oEqP false) f g)) := pb_cmp (op_eqD (room_64 hr)) os_eqP hm ha hb
theorem pb_neP (hr : Room k X.A) (ha : PP X S W a f) (hb : PP X S W b g) (hm : behindInMarks .NotEq b = false := by rfl) : PB X S W (.Compare a [.NotEq] [b] pos) (mB (mOp (oEqP true) f g)) := pb_cmp (op_neD (room_64 hr)) os_neP hm ha hb
end
end Iv

set_option Elab.async false
set_option linter.all false
set_option maxRecDepth 100000
set_option maxHeartbeats 4000000
/-! Games as the program makes them. -/
namespace Law
open PySem PySem.Spec PyProof.Rows L2 Evl Iv
noncomputable def g_total : M Fl :=
    mSeq (mSet 1 (mTup (mCons (mD (mC (.int 0))) (mCons (mD (mC (.int 1))) (mNil)))))
    (mSeq (mFor (γN 2) (mIt (mD (mVar 0))) (mSet 1 (mCall 2 f_add (mCons (mD (mVar 1)) (mCons (mD (mVar 2)) (mNil))))))
    (mRet (mD (mVar 1))))
noncomputable def f_total : List D → FR := runF 3 g_total
noncomputable def g_made_row : M Fl :=
    mSeq (mSet 3 (mDn))
    (mSeq (mFor (γT 2 (γCons (γN 4) (γCons (γN 5) (γNil)))) (mIt (mD (mVar 0))) (mSeq (mIfS (mOrB (mB (mOp oLt (mPk 4) (mD (mC (.int 0))))) (mB (mOp oGe (mPk 4) (mPk 2)))) ((fun _ => .bad : M Fl)) (mNx))
    (mSeq (mIfS (mB (mOp oLt (mD (mCall 2 f_compare (mCons (mD (mVar 5)) (mCons (mD (mTup (mCons (mD (mC (.int 0))) (mCons (mD (mC (.int 1))) (mNil))))) (mNil))))) (mD (mC (.int 0))))) ((fun _ => .bad : M Fl)) (mNx))
    (mPutK 3 (mPk 4) (mD (mCall 2 f_add (mCons (mD (mGet (mPk 3) (mPk 4) (mD (mTup (mCons (mD (mC (.int 0))) (mCons (mD (mC (.int 1))) (mNil))))))) (mCons (mD (mVar 5)) (mNil)))))))))
    (mSeq (mIfS (mB (mOp (oEqP true) (mD (mCall 1 f_total (mCons (mD (mVals (mPk 3))) (mNil)))) (mD (mTup (mCons (mD (mC (.int 1))) (mCons (mD (mC (.int 1))) (mNil))))))) ((fun _ => .bad : M Fl)) (mNx))
    (mRet (mD (mCl cTuple (mCons (mD (mLc [4] (γN 4) (mIt (mD (mCl cSort (mCons (mD (mCl cKeys (mCons (mPk 3) (mNil)))) (mNil))))) (mB (mOp (oEqP true) (mD (mOp oGetK (mPk 3) (mPk 4))) (mD (mTup (mCons (mD (mC (.int 0))) (mCons (mD (mC (.int 1))) (mNil))))))) (mD (mTup (mCons (mD (mVar 4)) (mCons (mD (mOp oGetK (mPk 3) (mPk 4))) (mNil))))))) (mNil)))))))
noncomputable def f_made_row : List D → FR := runF 6 g_made_row
noncomputable def g_make_game : M Fl :=
    mSeq (mSet 2 (mCl cLen (mCons (mPk 0) (mNil))))
    (mSeq (mIfS (mB (mOp oEq (mPk 2) (mD (mC (.int 0))))) ((fun _ => .bad : M Fl)) (mNx))
    (mSeq (mIfS (mB (mOp oNe (mD (mCl cLen (mCons (mPk 1) (mNil)))) (mPk 2))) ((fun _ => .bad : M Fl)) (mNx))
    (mSeq (mSet 3 (mLc [4] (γN 4) (mRng1 (mCons (mPk 2) (mNil))) (mYes) (mD (mCall 3 f_made_row (mCons (mD (mOp oIx (mPk 1) (mPk 4))) (mCons (mD (mVar 4)) (mCons (mD (mVar 2)) (mNil))))))))
    (mRet (mD (mTup (mCons (mD (mCl cTuple (mCons (mPk 0) (mNil)))) (mCons (mD (mCl cTuple (mCons (mPk 3) (mNil)))) (mNil)))))))))
noncomputable def f_make_game : List D → FR := runF 5 g_make_game
noncomputable def g_u_law_fraction : M Fl :=
    mRet (mD (mCall 2 f_u_law_low (mCons (mD (mOp oSub (mD (mOp oMod (mD (mCl cInt (mCons (mPk 0) (mNil)))) (mD (mC (.int 13))))) (mD (mC (.int 6))))) (mCons (mD (mOp oAdd (mD (mC (.int 1))) (mD (mOp oMod (mD (mOp oDiv (mD (mCl cInt (mCons (mPk 0) (mNil)))) (mD (mC (.int 13))))) (mD (mC (.int 4))))))) (mNil)))))
noncomputable def f_u_law_fraction : List D → FR := runF 1 g_u_law_fraction
/-! ### sums -/
noncomputable def sumQ (qs : List Rat) : Rat := qs.foldl (· + ·) 0
theorem sum_sz {B : Nat} : ∀ (qs : List Rat) (s : Rat) (n : Nat), Sz ((B + 1) * n + 1) s → (∀ q ∈ qs, Sz B q) → Sz ((B + 1) * (n + qs.length) + 1) (qs.foldl (· + ·) s)
  | [], s, n, h, _ => h
  | q :: qs, s, n, h, hq => by
    have h1 := h.add (hq q List.mem_cons_self)
    have h2 : Sz ((B + 1) * (n + 1) + 1) (s + q) := h1.mono (by rw [Nat.mul_add]; omega)
    have h3 := sum_sz qs (s + q) (n + 1) h2 fun y hy => hq y (List.mem_cons_of_mem _ hy)
    rw [List.length_cons, show n + (qs.length + 1) = n + 1 + qs.length by omega]
    exact h3
theorem fold_shift : ∀ (qs : List Rat) (s : Rat), qs.foldl (· + ·) s = qs.foldl (· + ·) 0 + s
  | [], s => (Rat.zero_add s).symm
  | q :: qs, s => by
    rw [List.foldl_cons, List.foldl_cons, fold_shift qs (s + q), fold_shift qs (0 + q)]
    grind
theorem total_go {B : Nat} {f : List D → FR} (hf : ∀ p q a b, Sz a p → Sz b q → a + b ≤ 130000000 → f [enc p, enc q] = .ok (enc (p + q))) {c : D} {qs : List Rat} (hB : (B + 1) * (qs.length + 1) ≤ 120000000) (h : ∀ x ∈ qs, Sz B x) :
    ∃ s, forL (γN 2) (mSet 1 (mCall 2 f (mCons (mD (mVar 1)) (mCons (mD (mVar 2)) (mNil))))) (qs.map enc) [.fr c, .fr (enc 0), .un] = .ok .nx [.fr c, .fr (enc (sumQ qs)), s] := by
  have key := for_inv (γ := γN 2) (g := mSet 1 (mCall 2 f (mCons (mD (mVar 1)) (mCons (mD (mVar 2)) (mNil))))) (all := qs.map enc) (env := [.fr c, .fr (enc 0), .un])
    (fun i env => ∃ s, env = [.fr c, .fr (enc ((qs.take i).foldl (· + ·) 0)), s]) ⟨.un, rfl⟩ (by
      rintro i x env hx ⟨s, rfl⟩
      rw [List.getElem?_map] at hx
      obtain ⟨y, h1, rfl⟩ := Option.map_eq_some_iff.mp hx
      have hy : Sz B y := h y (List.mem_of_getElem? h1)
      have hi : i < qs.length := (List.getElem?_eq_some_iff.mp h1).1
      have hz := sum_sz (B := B) (qs.take i) 0 0 sz_zero fun q hq => h q (List.mem_of_mem_take hq)
      rw [List.length_take, Nat.min_eq_left (by omega), Nat.zero_add] at hz
      have hm : (B + 1) * i + (B + 1) ≤ (B + 1) * (qs.length + 1) := by
        rw [← Nat.mul_succ]
        exact Nat.mul_le_mul_left _ (by omega)
      have e := hf _ _ _ _ hz hy (by omega)
      have ht : qs.take (i + 1) = qs.take i ++ [y] := by rw [List.take_add_one, h1]; rfl
      refine ⟨[.fr c, .fr (enc ((qs.take i).foldl (· + ·) 0)), .fr (enc y)], [.fr c, .fr (enc ((qs.take (i + 1)).foldl (· + ·) 0)), .fr (enc y)], rfl, ?_, .fr (enc y), rfl⟩
      rw [ht, List.foldl_append]
      simp [e])
  obtain ⟨env', k1, s, rfl⟩ := key
  rw [List.length_map, List.take_length] at k1
  exact ⟨s, k1⟩
theorem total_eq {B : Nat} {qs : List Rat} {c : List D → D} (hc : c = D.lst ∨ c = D.tup) (hB : (B + 1) * (qs.length + 1) ≤ 120000000) (h : ∀ x ∈ qs, Sz B x) : f_total [c (qs.map enc)] = .ok (enc (sumQ qs)) := by
  obtain ⟨s, e⟩ := total_go (f := f_add) (c := c (qs.map enc)) (fun p q a b hp hq h => add_eq hp hq h) hB h
  generalize hl : qs.map enc = l at *
  rcases hc with rfl | rfl <;> simp [f_total, g_total, enc_zero, e]
/-! ### rows of moves -/
theorem intsOf_map : ∀ ns : List Int, intsOf (ns.map D.int) = some ns
  | [] => rfl
  | n :: ns => by
    show (intsOf (ns.map D.int)).map _ = _
    rw [intsOf_map ns]
    rfl
def pE (p : Int × Rat) : D := .tup [.int p.1, enc p.2]
theorem eqP_enc {neg : Bool} {p q : Rat} : oEqP neg (enc p) (enc q) = some (.d (.bl (if neg then !decide (p = q) else decide (p = q)))) := by
  have e1 : ∀ q : Rat, pyD (enc q) = some (.tuple [.int q.num, .int (q.den : Int)]) := fun q => rfl
  have e2 : ∀ a b : Int, SeqAt.shaped (.tuple [.int a, .int b]) = true := fun a b => rfl
  have e3 : PyData.eqv (.tuple [.int p.num, .int (p.den : Int)]) (.tuple [.int q.num, .int (q.den : Int)]) = decide (p = q) := by
    show ((p.num == q.num) && (((p.den : Int) == (q.den : Int)) && true)) = _
    by_cases h : p = q
    · subst h
      simp
    · rw [decide_eq_false h]
      by_cases h1 : p.num = q.num
      · by_cases h2 : p.den = q.den
        · exact absurd (Rat.ext h1 h2) h
        · have : ((p.den : Int) == (q.den : Int)) = false := beq_eq_false_iff_ne.mpr (by omega)
          rw [this]
          simp
      · rw [beq_eq_false_iff_ne.mpr h1]
        rfl
  unfold oEqP
  rw [e1, e1]
  dsimp only
  rw [if_pos ⟨e2 _ _, e2 _ _⟩, e3]
theorem look_none {k : Key} : ∀ {ks : List Key} {ds : List D}, (∀ k' ∈ ks, k' ≠ k) → lookD ks ds k = none
  | [], ds, _ => by cases ds <;> rfl
  | k' :: ks, [], _ => rfl
  | k' :: ks, d :: ds, h => by
    unfold lookD
    rw [if_neg (h k' List.mem_cons_self)]
    exact look_none fun x hx => h x (List.mem_cons_of_mem _ hx)
theorem any_none {k : Key} {ks : List Key} (h : ∀ k' ∈ ks, k' ≠ k) : (ks.any fun k' => decide (k' = k)) = false := by
  rw [List.any_eq_false]
  exact fun x hx => by simpa using h x hx
theorem look_asc : ∀ {ps : List (Int × Rat)} {p : Int × Rat}, ps.Pairwise (fun a b => a.1 < b.1) → p ∈ ps → lookD (ps.map fun p => .inl p.1) (ps.map fun p => enc p.2) (.inl p.1) = some (enc p.2)
  | [], p, _, h => nomatch h
  | q :: ps, p, hp, h => by
    rw [List.map_cons, List.map_cons]
    unfold lookD
    obtain ⟨h1, h2⟩ := List.pairwise_cons.mp hp
    rcases List.mem_cons.mp h with e | e
    · subst e
      rw [if_pos rfl]
    · have := h1 p e
      rw [if_neg (fun z => by have := Sum.inl.inj z; omega)]
      exact look_asc h2 e
/-- a row of a game of so many states -/
structure RowOk (B : Nat) (size : Int) (ps : List (Int × Rat)) : Prop where
  tgt : ∀ p ∈ ps, 0 ≤ p.1 ∧ p.1 < size
  pos : ∀ p ∈ ps, 0 < p.2
  sz : ∀ p ∈ ps, Sz B p.2
  asc : ps.Pairwise (fun a b => a.1 < b.1)
  sum : sumQ (ps.map (·.2)) = 1
  len : ps.length ≤ 1000
  big : (B + 1) * (ps.length + 1) ≤ 120000000
theorem row_eq {B : Nat} {size s : Int} {ps : List (Int × Rat)} {c : List D → D} (hc : c = D.lst ∨ c = D.tup) (h : RowOk B size ps) : f_made_row [c (ps.map pE), .int s, .int size] = .ok (.tup (ps.map pE)) := by
  have hB : B + 1 ≤ 120000000 := Nat.le_trans (Nat.le_mul_of_pos_right _ (by omega)) h.big
  have key := for_inv (γ := γT 2 (γCons (γN 4) (γCons (γN 5) (γNil)))) (g := (mSeq (mIfS (mOrB (mB (mOp oLt (mPk 4) (mD (mC (.int 0))))) (mB (mOp oGe (mPk 4) (mPk 2)))) ((fun _ => .bad : M Fl)) (mNx))
    (mSeq (mIfS (mB (mOp oLt (mD (mCall 2 f_compare (mCons (mD (mVar 5)) (mCons (mD (mTup (mCons (mD (mC (.int 0))) (mCons (mD (mC (.int 1))) (mNil))))) (mNil))))) (mD (mC (.int 0))))) ((fun _ => .bad : M Fl)) (mNx))
    (mPutK 3 (mPk 4) (mD (mCall 2 f_add (mCons (mD (mGet (mPk 3) (mPk 4) (mD (mTup (mCons (mD (mC (.int 0))) (mCons (mD (mC (.int 1))) (mNil))))))) (mCons (mD (mVar 5)) (mNil)))))))))
    (all := ps.map pE) (env := [.fr (c (ps.map pE)), .fr (.int s), .fr (.int size), .od [] [], .un, .un])
    (fun i env => ∃ s4 s5, env = [.fr (c (ps.map pE)), .fr (.int s), .fr (.int size), .od ((ps.take i).map fun p => .inl p.1) ((ps.take i).map fun p => enc p.2), s4, s5]) ⟨.un, .un, rfl⟩ (by
      rintro i x env hx ⟨s4, s5, rfl⟩
      rw [List.getElem?_map] at hx
      obtain ⟨p, h1, rfl⟩ := Option.map_eq_some_iff.mp hx
      have hm : p ∈ ps := List.mem_of_getElem? h1
      obtain ⟨t0, t1⟩ := h.tgt p hm
      have hq := h.pos p hm
      have hz := h.sz p hm
      have ht : ps.take (i + 1) = ps.take i ++ [p] := by rw [List.take_add_one, h1]; rfl
      have hi : i < ps.length := (List.getElem?_eq_some_iff.mp h1).1
      have hlen := h.len
      have fresh : ∀ k' ∈ (ps.take i).map (fun p => (Sum.inl p.1 : Key)), k' ≠ Sum.inl p.1 := fun k' hk z => by
        obtain ⟨r, hr, rfl⟩ := List.mem_map.mp hk
        have e : ps = ps.take i ++ p :: ps.drop (i + 1) := by
          conv => lhs; rw [← List.take_append_drop i ps, List.drop_eq_getElem_cons hi]
          rw [(List.getElem?_eq_some_iff.mp h1).2]
        have as := h.asc
        rw [e, List.pairwise_append] at as
        have := as.2.2 r hr p List.mem_cons_self
        have := Sum.inl.inj z
        omega
      have l0 := look_none (ds := (ps.take i).map fun p => enc p.2) fresh
      have a0 := any_none fresh
      have cq : cmpQ p.2 0 = 1 := by
        unfold cmpQ
        rw [if_neg (by grind), if_pos hq]
      have cm := compare_eq hz sz_zero (by omega)
      rw [cq] at cm
      have ad := add_eq (sz_zero) hz (by omega)
      rw [Rat.zero_add] at ad
      have hlt : ((ps.take i).map fun p => (Sum.inl p.1 : Key)).length < 90000 := by rw [List.length_map, List.length_take]; omega
      refine ⟨[.fr (c (ps.map pE)), .fr (.int s), .fr (.int size), .od ((ps.take i).map fun p => .inl p.1) ((ps.take i).map fun p => enc p.2), .fr (.int p.1), .fr (enc p.2)], [.fr (c (ps.map pE)), .fr (.int s), .fr (.int size), .od ((ps.take (i + 1)).map fun p => .inl p.1) ((ps.take (i + 1)).map fun p => enc p.2), .fr (.int p.1), .fr (enc p.2)], rfl, ?_, _, _, rfl⟩
      rw [ht, List.map_append, List.map_append]
      generalize (ps.take i).map (fun p => (Sum.inl p.1 : Key)) = ks at *
      generalize (ps.take i).map (fun p => enc p.2) = ds at *
      have n0 : ¬ p.1 < 0 := by omega
      have n1 : ¬ size ≤ p.1 := by omega
      simp [n0, n1, enc_zero, cm, ad, mPutK, odAt, mGet, keyD, l0, a0, hlt])
  obtain ⟨env', k1, s4, s5, rfl⟩ := key
  rw [List.length_map, List.take_length] at k1
  have tot := total_eq (c := .lst) (.inl rfl) (by rw [List.length_map]; exact h.big) (qs := ps.map (·.2)) fun q hq => by
    obtain ⟨p, hp, rfl⟩ := List.mem_map.mp hq
    exact h.sz p hp
  rw [h.sum, List.map_map] at tot
  have tot : f_total [.lst (ps.map fun p => enc p.2)] = .ok (enc 1) := tot
  have e1 : oEqP true (enc 1) (enc 1) = _ := eqP_enc
  have srt : cSort [.lst (ps.map fun p => D.int p.1)] = some (.l (ps.map fun p => D.int p.1)) := by
    have e : ps.map (fun p => D.int p.1) = (ps.map (·.1)).map D.int := by rw [List.map_map]; rfl
    show (intsOf _).map _ = _
    rw [e, intsOf_map]
    have : (ps.map (·.1)).mergeSort leI = ps.map (·.1) := (sort_one (List.Perm.refl _) (List.pairwise_map.mpr (h.asc.imp fun z => Int.le_of_lt z))).symm
    show some (Sv.l (((ps.map (·.1)).mergeSort leI).map D.int)) = _
    rw [this]
  have ks : cKeys [.dct (ps.map fun p => .inl p.1) (ps.map fun p => enc p.2)] = some (.l (ps.map fun p => D.int p.1)) := by
    show some (Sv.l ((ps.map fun p => (Sum.inl p.1 : Key)).map kD)) = _
    rw [List.map_map]
    rfl
  have comp : compL [4] (γN 4) (mB (mOp (oEqP true) (mD (mOp oGetK (mPk 3) (mPk 4))) (mD (mTup (mCons (mD (mC (.int 0))) (mCons (mD (mC (.int 1))) (mNil))))))) (mD (mTup (mCons (mD (mVar 4)) (mCons (mD (mOp oGetK (mPk 3) (mPk 4))) (mNil))))) (ps.map fun p => D.int p.1) [] [.fr (c (ps.map pE)), .fr (.int s), .fr (.int size), .od (ps.map fun p => .inl p.1) (ps.map fun p => enc p.2), .un, s5] =
      .ok (ps.map pE) [.fr (c (ps.map pE)), .fr (.int s), .fr (.int size), .od (ps.map fun p => .inl p.1) (ps.map fun p => enc p.2), .un, s5] := by
    rw [compL_map (enc := fun p : Int × Rat => D.int p.1) (h := pE)]
    · rfl
    · intro p hp
      have lk := look_asc h.asc hp
      have ne : p.2 ≠ 0 := fun z => by have := h.pos p hp; rw [z] at this; exact absurd this (by decide)
      have eq0 : oEqP true (enc p.2) (enc 0) = _ := eqP_enc
      rw [decide_eq_false ne] at eq0
      have gk : oGetK (.dct (ps.map fun p => .inl p.1) (ps.map fun p => enc p.2)) (.int p.1) = some (.d (enc p.2)) := by
        show (lookD _ _ (.inl p.1)).map Sv.d = _
        rw [lk]
        rfl
      generalize (ps.map fun p => (Sum.inl p.1 : Key)) = kq at *
      generalize (ps.map fun p => enc p.2) = dq at *
      refine ⟨[.fr (c (ps.map pE)), .fr (.int s), .fr (.int size), .od kq dq, .fr (.int p.1), s5], [.fr (c (ps.map pE)), .fr (.int s), .fr (.int size), .od kq dq, .fr (.int p.1), s5], [.fr (c (ps.map pE)), .fr (.int s), .fr (.int size), .od kq dq, .fr (.int p.1), s5], rfl, ?_, ?_, rfl⟩
      · simp [gk, enc_zero, eq0]
      · simp [gk, pE]
  have hl := h.len
  generalize hks : (ps.map fun p => (Sum.inl p.1 : Key)) = kk at *
  generalize hds : (ps.map fun p => enc p.2) = dd at *
  have hii : (ps.map fun p => D.int p.1).length ≤ 90000 := by rw [List.length_map]; omega
  generalize hts : (ps.map fun p => D.int p.1) = ii at *
  generalize hpp : ps.map pE = pp at *
  rcases hc with rfl | rfl <;> simp [f_made_row, g_made_row, mDn, k1, mVals, tot, enc_one, e1, ks, srt, hii, comp]
/-- a game that make_game takes and gives back -/
structure GameOk (B : Nat) (rs : List Rat) (rows : List (List (Int × Rat))) : Prop where
  ne : rs ≠ []
  len : rows.length = rs.length
  small : rs.length ≤ 1000
  row : ∀ r ∈ rows, RowOk B rs.length r
def gameD (rs : List Rat) (rows : List (List (Int × Rat))) : D := .tup [.tup (rs.map enc), .tup (rows.map fun r => .tup (r.map pE))]
theorem game_eq {B : Nat} {rs : List Rat} {rows : List (List (Int × Rat))} (h : GameOk B rs rows) : f_make_game [.tup (rs.map enc), .tup (rows.map fun r => .tup (r.map pE))] = .ok (gameD rs rows) := by
  have hs := h.small
  have hsm : small (rs.length : Int) = true := small_nat (by omega)
  have n0 : ((rs.length : Int) == 0) = false := beq_eq_false_iff_ne.mpr (by have := List.length_pos_iff.mpr h.ne; omega)
  have n0' : ¬ rs = [] := h.ne
  have up : Iv.upTo 0 rs.length = (List.range rs.length).map fun k : Nat => D.int (k : Int) := by
    unfold Iv.upTo
    exact List.map_congr_left fun k _ => by rw [Int.zero_add]
  have comp : compL [4] (γN 4) mYes (mD (mCall 3 f_made_row (mCons (mD (mOp oIx (mPk 1) (mPk 4))) (mCons (mD (mVar 4)) (mCons (mD (mVar 2)) (mNil)))))) (Iv.upTo 0 rs.length) [] [.fr (.tup (rs.map enc)), .fr (.tup (rows.map fun r => .tup (r.map pE))), .fr (.int (rs.length : Int)), .un, .un] =
      .ok (rows.map fun r => .tup (r.map pE)) [.fr (.tup (rs.map enc)), .fr (.tup (rows.map fun r => .tup (r.map pE))), .fr (.int (rs.length : Int)), .un, .un] := by
    rw [up, compL_map (enc := fun k : Nat => D.int (k : Int)) (h := fun k : Nat => D.tup ((rows[k]?.getD []).map pE))]
    · rw [List.nil_append]
      congr 1
      refine List.ext_getElem (by simp [h.len]) fun i h1 h2 => ?_
      have hi : i < rows.length := by simpa using h2
      simp [List.getElem?_eq_getElem hi]
    · intro k hk
      have hk := List.mem_range.mp hk
      have hi : k < rows.length := by rw [h.len]; exact hk
      have e := row_eq (s := (k : Int)) (c := .tup) (.inr rfl) (h.row rows[k] (List.getElem_mem hi))
      have g : (rows.map fun r => D.tup (r.map pE))[k]? = some (.tup (rows[k].map pE)) := by rw [List.getElem?_map, List.getElem?_eq_getElem hi]; rfl
      have ix : oIx (.tup (rows.map fun r => .tup (r.map pE))) (.int (k : Int)) = some (.d (.tup (rows[k].map pE))) := by
        show (atI _ _).map Sv.d = _
        rw [atI_nat', g]
        rfl
      rw [List.getElem?_eq_getElem hi]
      generalize (rows.map fun r => D.tup (r.map pE)) = rr at *
      generalize rs.map enc = ee at *
      refine ⟨[.fr (.tup ee), .fr (.tup rr), .fr (.int (rs.length : Int)), .un, .fr (.int (k : Int))], _, [.fr (.tup ee), .fr (.tup rr), .fr (.int (rs.length : Int)), .un, .fr (.int (k : Int))], rfl, rfl, ?_, rfl⟩
      simp [ix, e]
  have h90 : rs.length ≤ 90000 := by omega
  have hl := h.len
  unfold gameD
  have lr : (rows.map fun r => D.tup (r.map pE)).length = rs.length := by rw [List.length_map]; exact hl
  have le : (rs.map enc).length = rs.length := List.length_map ..
  generalize (rows.map fun r => D.tup (r.map pE)) = rr at *
  generalize rs.map enc = ee at *
  simp [f_make_game, g_make_game, lr, le, n0, n0', hsm, upTo_len, h90, comp]
theorem game_pl {n : Nat} {rs : List Rat} {rows : List (List (Int × Rat))} (h1 : rs.length ≤ 1000) (h2 : rows.length ≤ 1000) (h3 : ∀ r ∈ rows, r.length ≤ 1000) : Pl (n + 6) (gameD rs rows) := by
  refine ⟨by simp, fun x hx => ?_⟩
  simp only [List.mem_cons, List.not_mem_nil, or_false] at hx
  rcases hx with rfl | rfl
  · exact ⟨by rw [List.length_map]; omega, fun x hx => by
      obtain ⟨q, _, rfl⟩ := List.mem_map.mp hx
      exact Pl.enc⟩
  · refine ⟨by rw [List.length_map]; omega, fun x hx => ?_⟩
    obtain ⟨r, hr, rfl⟩ := List.mem_map.mp hx
    refine ⟨by rw [List.length_map]; have := h3 r hr; omega, fun x hx => ?_⟩
    obtain ⟨p, _, rfl⟩ := List.mem_map.mp hx
    refine ⟨by simp, fun x hx => ?_⟩
    simp only [List.mem_cons, List.not_mem_nil, or_false] at hx
    rcases hx with rfl | rfl
    · exact True.intro
    · exact Pl.enc
end Law

set_option Elab.async false
set_option linter.all false
set_option maxRecDepth 100000
set_option maxHeartbeats 4000000
/-! Rows whose targets stand several times: what make_game makes of them. -/
namespace Law
open PySem PySem.Spec PyProof.Rows L2 Evl Iv
def hasA (ds : List (Int × Rat)) (t : Int) : Bool := ds.any fun p => decide (p.1 = t)
def lookA : List (Int × Rat) → Int → Option Rat
  | [], _ => none
  | p :: ds, t => if p.1 = t then some p.2 else lookA ds t
def putA (ds : List (Int × Rat)) (t : Int) (v : Rat) : List (Int × Rat) := ds.map fun p => if p.1 = t then (p.1, v) else p
/-- the dict takes one more pair -/
def mrg (ds : List (Int × Rat)) (p : Int × Rat) : List (Int × Rat) := if hasA ds p.1 = true then putA ds p.1 ((lookA ds p.1).getD 0 + p.2) else ds ++ [(p.1, 0 + p.2)]
/-- the sum at a target -/
def atS (ps : List (Int × Rat)) (t : Int) : Rat := ps.foldl (fun s p => if p.1 = t then s + p.2 else s) 0
abbrev kyA (ds : List (Int × Rat)) : List Key := ds.map fun p => .inl p.1
abbrev vaA (ds : List (Int × Rat)) : List D := ds.map fun p => enc p.2
theorem look_A {t : Int} : ∀ {ds : List (Int × Rat)}, lookD (kyA ds) (vaA ds) (.inl t) = (lookA ds t).map enc
  | [] => rfl
  | p :: ds => by
    show (if (Sum.inl p.1 : Key) = .inl t then some (enc p.2) else lookD (kyA ds) (vaA ds) (.inl t)) = _
    unfold lookA
    by_cases h : p.1 = t
    · rw [if_pos h, if_pos (by rw [h])]
      rfl
    · rw [if_neg h, if_neg (fun z => h (Sum.inl.inj z)), look_A]
theorem any_A {t : Int} {ds : List (Int × Rat)} : ((kyA ds).any fun k' => decide (k' = (.inl t : Key))) = hasA ds t := by
  unfold hasA
  rw [List.any_map]
  congr 1
  funext p
  by_cases h : p.1 = t
  · simp [h]
  · simp [h]
theorem set_A {t : Int} {v : Rat} : ∀ {ds : List (Int × Rat)}, setD (.inl t) (enc v) (kyA ds) (vaA ds) = vaA (putA ds t v) ∧ kyA (putA ds t v) = kyA ds
  | [] => ⟨rfl, rfl⟩
  | p :: ds => by
    obtain ⟨h1, h2⟩ := set_A (t := t) (v := v) (ds := ds)
    have e1 : setD (.inl t) (enc v) (kyA (p :: ds)) (vaA (p :: ds)) = (if (Sum.inl p.1 : Key) = .inl t then enc v else enc p.2) :: setD (.inl t) (enc v) (kyA ds) (vaA ds) := rfl
    have e2 : putA (p :: ds) t v = (if p.1 = t then (p.1, v) else p) :: putA ds t v := rfl
    rw [e1, e2, h1]
    by_cases h : p.1 = t
    · rw [if_pos h, if_pos (by rw [h])]
      exact ⟨rfl, congrArg (List.cons (Sum.inl p.1 : Key)) h2⟩
    · rw [if_neg h, if_neg (fun z => h (Sum.inl.inj z))]
      exact ⟨rfl, congrArg (List.cons (Sum.inl p.1 : Key)) h2⟩
theorem look_has {t : Int} : ∀ {ds : List (Int × Rat)}, hasA ds t = false → lookA ds t = none
  | [], _ => rfl
  | p :: ds, h => by
    unfold hasA at h
    rw [List.any_cons, Bool.or_eq_false_iff] at h
    unfold lookA
    rw [if_neg (of_decide_eq_false h.1)]
    exact look_has h.2
theorem look_put {t u : Int} {v : Rat} : ∀ {ds : List (Int × Rat)}, lookA (putA ds t v) u = if t = u then (if hasA ds t = true then some v else none) else lookA ds u
  | [] => by
    show none = _
    split <;> rfl
  | p :: ds => by
    have ih := look_put (t := t) (u := u) (v := v) (ds := ds)
    have e2 : putA (p :: ds) t v = (if p.1 = t then (p.1, v) else p) :: putA ds t v := rfl
    have e3 : hasA (p :: ds) t = (decide (p.1 = t) || hasA ds t) := rfl
    rw [e2, e3]
    by_cases h : p.1 = t
    · rw [if_pos h]
      by_cases k : t = u
      · subst k
        simp [lookA, h]
      · rw [if_neg k] at ih ⊢
        have : ¬ p.1 = u := fun z => k (h.symm.trans z)
        simp [lookA, this, ih]
    · rw [if_neg h]
      by_cases k : t = u
      · subst k
        rw [if_pos rfl] at ih ⊢
        simp [lookA, h, ih]
      · rw [if_neg k] at ih ⊢
        simp only [lookA, ih]
theorem look_app {u : Int} {q : Int × Rat} : ∀ {ds : List (Int × Rat)}, lookA (ds ++ [q]) u = (lookA ds u).or (if q.1 = u then some q.2 else none)
  | [] => by simp [lookA]
  | p :: ds => by
    have ih := look_app (u := u) (q := q) (ds := ds)
    rw [List.cons_append]
    by_cases h : p.1 = u
    · simp [lookA, h]
    · simp only [lookA, if_neg h]
      exact ih
/-- the dict after a row: its sums -/
theorem mrg_sum {ds : List (Int × Rat)} {p : Int × Rat} (u : Int) : (lookA (mrg ds p) u).getD 0 = if p.1 = u then (lookA ds u).getD 0 + p.2 else (lookA ds u).getD 0 := by
  unfold mrg
  by_cases h : hasA ds p.1 = true
  · rw [if_pos h, look_put]
    by_cases k : p.1 = u
    · subst k
      simp [h]
    · simp [k]
  · rw [if_neg h, look_app]
    have hn := look_has (Bool.eq_false_iff.mpr h)
    by_cases k : p.1 = u
    · subst k
      simp [hn]
    · simp [k]
theorem mrg_keys {ds : List (Int × Rat)} {p : Int × Rat} : (mrg ds p).map (·.1) = if hasA ds p.1 = true then ds.map (·.1) else ds.map (·.1) ++ [p.1] := by
  unfold mrg
  by_cases h : hasA ds p.1 = true
  · rw [if_pos h, if_pos h]
    unfold putA
    rw [List.map_map]
    refine List.map_congr_left fun q _ => ?_
    show (if q.1 = p.1 then (q.1, _) else q).1 = q.1
    split <;> rfl
  · rw [if_neg h, if_neg h, List.map_append]
    rfl
theorem has_iff {ds : List (Int × Rat)} {t : Int} : hasA ds t = true ↔ t ∈ ds.map (·.1) := by
  unfold hasA
  rw [List.any_eq_true, List.mem_map]
  exact ⟨fun ⟨p, h1, h2⟩ => ⟨p, h1, of_decide_eq_true h2⟩, fun ⟨p, h1, h2⟩ => ⟨p, h1, decide_eq_true h2⟩⟩
def foldM (ps : List (Int × Rat)) : List (Int × Rat) := ps.foldl mrg []
theorem foldM_snoc {ps : List (Int × Rat)} {p : Int × Rat} : foldM (ps ++ [p]) = mrg (foldM ps) p := by
  unfold foldM
  rw [List.foldl_append]
  rfl
theorem atS_snoc {ps : List (Int × Rat)} {p : Int × Rat} {t : Int} : atS (ps ++ [p]) t = if p.1 = t then atS ps t + p.2 else atS ps t := by
  unfold atS
  rw [List.foldl_append]
  rfl
/-- by the row's end, from the left -/
theorem snoc_ind {α : Type} {P : List α → Prop} (h0 : P []) (h1 : ∀ l a, P l → P (l ++ [a])) : ∀ l, P l := fun l => by
  have : ∀ r : List α, P r.reverse := fun r => by
    induction r with
    | nil => exact h0
    | cons a r ih => rw [List.reverse_cons]; exact h1 _ _ ih
  rw [← List.reverse_reverse l]
  exact this _
theorem foldM_sum (t : Int) : ∀ ps : List (Int × Rat), (lookA (foldM ps) t).getD 0 = atS ps t :=
  snoc_ind rfl fun l a ih => by
    rw [foldM_snoc, mrg_sum, atS_snoc, ih]
theorem foldM_keys : ∀ ps : List (Int × Rat), ((foldM ps).map (·.1)).Nodup ∧ ∀ t, t ∈ (foldM ps).map (·.1) ↔ t ∈ ps.map (·.1) :=
  snoc_ind ⟨List.nodup_nil, fun t => Iff.rfl⟩ fun l a ⟨h1, h2⟩ => by
    rw [foldM_snoc, mrg_keys]
    by_cases h : hasA (foldM l) a.1 = true
    · rw [if_pos h]
      refine ⟨h1, fun t => ?_⟩
      rw [h2, List.map_append, List.mem_append]
      refine ⟨.inl, fun z => z.elim id fun z => ?_⟩
      rw [List.mem_singleton.mp z, ← h2]
      exact has_iff.mp h
    · rw [if_neg h]
      refine ⟨List.nodup_append.mpr ⟨h1, by simp, fun x hx y hy z => ?_⟩, fun t => ?_⟩
      · rw [List.mem_singleton.mp hy] at z
        rw [z] at hx
        exact h (has_iff.mpr hx)
      · rw [List.mem_append, h2, List.map_append, List.mem_append]
        rfl
end Law
namespace Law
open PySem PySem.Spec PyProof.Rows L2 Evl Iv
/-! ### sums of a dict's values -/
theorem sumQ_nil : sumQ [] = 0 := rfl
theorem sumQ_cons {q : Rat} {l : List Rat} : sumQ (q :: l) = sumQ l + q := by
  unfold sumQ
  rw [List.foldl_cons, Rat.zero_add, fold_shift]
theorem sumQ_app {l : List Rat} {q : Rat} : sumQ (l ++ [q]) = sumQ l + q := by
  unfold sumQ
  rw [List.foldl_append]
  rfl
theorem sumQ_perm {l k : List Rat} (h : l.Perm k) : sumQ l = sumQ k := by
  induction h with
  | nil => rfl
  | cons x _ ih => rw [sumQ_cons, sumQ_cons, ih]
  | swap x y l => simp only [sumQ_cons]; grind
  | trans _ _ a b => exact a.trans b
theorem put_same {t : Int} {v : Rat} : ∀ {ds : List (Int × Rat)}, (∀ p ∈ ds, p.1 ≠ t) → putA ds t v = ds
  | [], _ => rfl
  | p :: ds, h => by
    have e2 : putA (p :: ds) t v = (if p.1 = t then (p.1, v) else p) :: putA ds t v := rfl
    rw [e2, if_neg (h p List.mem_cons_self), put_same fun q hq => h q (List.mem_cons_of_mem _ hq)]
theorem put_sum {t : Int} {v : Rat} : ∀ {ds : List (Int × Rat)}, (ds.map (·.1)).Nodup → hasA ds t = true → sumQ ((putA ds t v).map (·.2)) + (lookA ds t).getD 0 = sumQ (ds.map (·.2)) + v
  | [], _, h => by cases h
  | p :: ds, hn, h => by
    have e2 : putA (p :: ds) t v = (if p.1 = t then (p.1, v) else p) :: putA ds t v := rfl
    rw [List.map_cons, List.nodup_cons] at hn
    rw [e2]
    by_cases k : p.1 = t
    · have hne : ∀ q ∈ ds, q.1 ≠ t := fun q hq z => hn.1 (by rw [k, ← z]; exact List.mem_map_of_mem hq)
      rw [if_pos k, put_same hne]
      simp only [List.map_cons, sumQ_cons, lookA, if_pos k, Option.getD_some]
      grind
    · have h' : hasA ds t = true := by
        unfold hasA at h ⊢
        rw [List.any_cons, Bool.or_eq_true] at h
        exact h.resolve_left fun z => k (of_decide_eq_true z)
      have ih := put_sum (v := v) hn.2 h'
      rw [if_neg k]
      simp only [List.map_cons, sumQ_cons, lookA, if_neg k]
      grind
theorem mrg_tot {ds : List (Int × Rat)} {p : Int × Rat} (hn : (ds.map (·.1)).Nodup) : sumQ ((mrg ds p).map (·.2)) = sumQ (ds.map (·.2)) + p.2 := by
  unfold mrg
  by_cases h : hasA ds p.1 = true
  · rw [if_pos h]
    have := put_sum (v := (lookA ds p.1).getD 0 + p.2) hn h
    grind
  · rw [if_neg h, List.map_append]
    show sumQ (_ ++ [0 + p.2]) = _
    rw [sumQ_app, Rat.zero_add]
theorem foldM_tot : ∀ ps : List (Int × Rat), sumQ ((foldM ps).map (·.2)) = sumQ (ps.map (·.2)) :=
  snoc_ind rfl fun l a ih => by
    rw [foldM_snoc, mrg_tot (foldM_keys l).1, ih, List.map_append]
    exact sumQ_app.symm
theorem look_mem : ∀ {ds : List (Int × Rat)} {p : Int × Rat}, (ds.map (·.1)).Nodup → p ∈ ds → lookA ds p.1 = some p.2
  | [], _, _, h => nomatch h
  | q :: ds, p, hn, h => by
    rw [List.map_cons, List.nodup_cons] at hn
    unfold lookA
    rcases List.mem_cons.mp h with e | e
    · subst e
      rw [if_pos rfl]
    · rw [if_neg (fun z => hn.1 (by rw [z]; exact List.mem_map_of_mem e)), look_mem hn.2 e]
theorem foldM_val {ps : List (Int × Rat)} {p : Int × Rat} (h : p ∈ foldM ps) : p.2 = atS ps p.1 := by
  rw [← foldM_sum, look_mem (foldM_keys ps).1 h]
  rfl
theorem atS_sz {B : Nat} {t : Int} : ∀ ps : List (Int × Rat), (∀ p ∈ ps, Sz B p.2) → Sz ((B + 1) * ps.length + 1) (atS ps t) :=
  snoc_ind (fun _ => sz_zero) fun l a ih h => by
    have h1 := ih fun p hp => h p (List.mem_append_left _ hp)
    have h2 := h a (List.mem_append_right _ (List.mem_singleton.mpr rfl))
    rw [atS_snoc, List.length_append]
    have e : (B + 1) * (l.length + [a].length) + 1 = (B + 1) * l.length + 1 + B + 1 := by
      show (B + 1) * (l.length + 1) + 1 = _
      rw [Nat.mul_add]
      omega
    rw [e]
    split
    · exact h1.add h2
    · exact h1.mono (by omega)
theorem atS_nonneg {t : Int} : ∀ ps : List (Int × Rat), (∀ p ∈ ps, 0 ≤ p.2) → 0 ≤ atS ps t :=
  snoc_ind (fun _ => by show (0 : Rat) ≤ 0; exact Rat.le_refl) fun l a ih h => by
    have h1 := ih fun p hp => h p (List.mem_append_left _ hp)
    have h2 := h a (List.mem_append_right _ (List.mem_singleton.mpr rfl))
    rw [atS_snoc]
    split
    · grind
    · exact h1
theorem atS_no {t : Int} : ∀ ps : List (Int × Rat), t ∉ ps.map (·.1) → atS ps t = 0 :=
  snoc_ind (fun _ => rfl) fun l a ih h => by
    rw [List.map_append, List.mem_append, not_or] at h
    rw [atS_snoc, if_neg (fun z => h.2 (by rw [← z]; exact List.mem_singleton.mpr rfl)), ih h.1]
/-- the row that comes of it -/
def rowOf (ps : List (Int × Rat)) (size : Nat) : List (Int × Rat) := (((List.range size).map fun k : Nat => (k : Int)).filter fun t => decide (atS ps t ≠ 0)).map fun t => (t, atS ps t)
/-- the keys, sorted, without those of sum zero, are the states in their order without them -/
theorem keys_row {ps : List (Int × Rat)} {size : Nat} (h : ∀ p ∈ ps, 0 ≤ p.1 ∧ p.1 < (size : Int)) : (((foldM ps).map (·.1)).mergeSort leI).filter (fun t => decide (atS ps t ≠ 0)) = ((List.range size).map fun k : Nat => (k : Int)).filter fun t => decide (atS ps t ≠ 0) := by
  obtain ⟨h1, h2⟩ := foldM_keys ps
  have a1 : ((List.range size).map fun k : Nat => (k : Int)).Pairwise (· < ·) := by
    rw [List.pairwise_map]
    exact List.pairwise_lt_range.imp fun h => by omega
  have n1 : (((foldM ps).map (·.1)).mergeSort leI).Nodup := (List.mergeSort_perm _ leI).nodup_iff.mpr h1
  have n2 : ((List.range size).map fun k : Nat => (k : Int)).Nodup := a1.imp fun h => by omega
  refine List.Perm.eq_of_pairwise (le := fun a b : Int => a ≤ b) (fun a b _ _ => Int.le_antisymm) ?_ ?_ ?_
  · exact ((List.pairwise_mergeSort leI_trans leI_total _).imp fun h => of_decide_eq_true h).filter _
  · exact (a1.imp fun h => Int.le_of_lt h).filter _
  · refine (List.perm_ext_iff_of_nodup (n1.filter _) (n2.filter _)).mpr fun t => ?_
    rw [List.mem_filter, List.mem_filter, (List.mergeSort_perm _ leI).mem_iff, h2]
    refine ⟨fun ⟨k1, k2⟩ => ⟨?_, k2⟩, fun ⟨k1, k2⟩ => ⟨?_, k2⟩⟩
    · obtain ⟨p, hp, rfl⟩ := List.mem_map.mp k1
      obtain ⟨b1, b2⟩ := h p hp
      exact List.mem_map.mpr ⟨p.1.toNat, List.mem_range.mpr (by omega), by omega⟩
    · by_cases z : t ∈ ps.map (·.1)
      · exact z
      · rw [atS_no ps z] at k2
        simp at k2
end Law
namespace Law
open PySem PySem.Spec PyProof.Rows L2 Evl Iv
/-- a row as it is given: targets may stand several times, probabilities may be zero -/
structure RowG (B : Nat) (size : Nat) (ps : List (Int × Rat)) : Prop where
  tgt : ∀ p ∈ ps, 0 ≤ p.1 ∧ p.1 < (size : Int)
  nn : ∀ p ∈ ps, 0 ≤ p.2
  sz : ∀ p ∈ ps, Sz B p.2
  sum : sumQ (ps.map (·.2)) = 1
  len : ps.length ≤ 1000
  big : ((B + 1) * ps.length + 2) * (ps.length + 1) ≤ 60000000
theorem getD_enc {o : Option Rat} : (o.map enc).getD (enc 0) = enc (o.getD 0) := by cases o <;> rfl
theorem take_sz {B : Nat} {size i : Nat} {ps : List (Int × Rat)} {t : Int} (h : RowG B size ps) : Sz ((B + 1) * ps.length + 1) (atS (ps.take i) t) :=
  (atS_sz (ps.take i) fun p hp => h.sz p (List.mem_of_mem_take hp)).mono (by
    have : (B + 1) * (ps.take i).length ≤ (B + 1) * ps.length := Nat.mul_le_mul_left _ (by rw [List.length_take]; omega)
    omega)
theorem keys_len : ∀ ps : List (Int × Rat), (foldM ps).length ≤ ps.length :=
  snoc_ind (Nat.le_refl _) fun l a ih => by
    have e : ((foldM (l ++ [a])).map (·.1)).length = _ := congrArg List.length (foldM_snoc (ps := l) (p := a) ▸ mrg_keys)
    rw [List.length_map] at e
    rw [e, List.length_append]
    split
    · rw [List.length_map]; omega
    · rw [List.length_append, List.length_map]
      show _ + 1 ≤ _ + 1
      omega
theorem rowG_eq {B : Nat} {size : Nat} {s : Int} {ps : List (Int × Rat)} {c : List D → D} (hc : c = D.lst ∨ c = D.tup) (h : RowG B size ps) : f_made_row [c (ps.map pE), .int s, .int (size : Int)] = .ok (.tup ((rowOf ps size).map pE)) := by
  have hlen := h.len
  have hbig := h.big
  obtain ⟨B2, hB2⟩ : ∃ B2, B2 = (B + 1) * ps.length + 1 := ⟨_, rfl⟩
  have hB2' : B2 + 1 ≤ 60000000 := Nat.le_trans (Nat.le_mul_of_pos_right _ (Nat.succ_pos ps.length)) (by rw [hB2]; exact hbig)
  have hBl : B + 1 ≤ 60000001 := by
    cases hps : ps with
    | nil =>
      have := h.sum
      rw [hps] at this
      exact absurd this (by decide)
    | cons p r =>
      have : (B + 1) * 1 ≤ (B + 1) * ps.length := Nat.mul_le_mul_left _ (by rw [hps]; exact Nat.succ_le_succ (Nat.zero_le _))
      omega
  have key := for_inv (γ := γT 2 (γCons (γN 4) (γCons (γN 5) (γNil)))) (g := (mSeq (mIfS (mOrB (mB (mOp oLt (mPk 4) (mD (mC (.int 0))))) (mB (mOp oGe (mPk 4) (mPk 2)))) ((fun _ => .bad : M Fl)) (mNx))
    (mSeq (mIfS (mB (mOp oLt (mD (mCall 2 f_compare (mCons (mD (mVar 5)) (mCons (mD (mTup (mCons (mD (mC (.int 0))) (mCons (mD (mC (.int 1))) (mNil))))) (mNil))))) (mD (mC (.int 0))))) ((fun _ => .bad : M Fl)) (mNx))
    (mPutK 3 (mPk 4) (mD (mCall 2 f_add (mCons (mD (mGet (mPk 3) (mPk 4) (mD (mTup (mCons (mD (mC (.int 0))) (mCons (mD (mC (.int 1))) (mNil))))))) (mCons (mD (mVar 5)) (mNil)))))))))
    (all := ps.map pE) (env := [.fr (c (ps.map pE)), .fr (.int s), .fr (.int (size : Int)), .od [] [], .un, .un])
    (fun i env => ∃ s4 s5, env = [.fr (c (ps.map pE)), .fr (.int s), .fr (.int (size : Int)), .od (kyA (foldM (ps.take i))) (vaA (foldM (ps.take i))), s4, s5]) ⟨.un, .un, rfl⟩ (by
      rintro i x env hx ⟨s4, s5, rfl⟩
      rw [List.getElem?_map] at hx
      obtain ⟨p, h1, rfl⟩ := Option.map_eq_some_iff.mp hx
      have hm : p ∈ ps := List.mem_of_getElem? h1
      obtain ⟨t0, t1⟩ := h.tgt p hm
      have hq := h.nn p hm
      have hz := h.sz p hm
      have ht : ps.take (i + 1) = ps.take i ++ [p] := by rw [List.take_add_one, h1]; rfl
      have hs := take_sz (i := i) (t := p.1) h
      rw [← hB2] at hs
      have hsum := foldM_sum p.1 (ps.take i)
      have hkl := keys_len (ps.take i)
      rw [List.length_take] at hkl
      have cq : ¬ cmpQ p.2 0 < 0 := by
        unfold cmpQ
        rw [if_neg (by grind)]
        split <;> decide
      have cm := compare_eq hz sz_zero (by omega)
      have ad := add_eq hs hz (by omega)
      rw [← hsum] at ad
      have lk := look_A (t := p.1) (ds := foldM (ps.take i))
      have an := any_A (t := p.1) (ds := foldM (ps.take i))
      have st := set_A (t := p.1) (v := (lookA (foldM (ps.take i)) p.1).getD 0 + p.2) (ds := foldM (ps.take i))
      have hlt : (kyA (foldM (ps.take i))).length < 90000 := by rw [List.length_map]; omega
      rw [ht, foldM_snoc]
      have gd := getD_enc (o := lookA (foldM (ps.take i)) p.1)
      have n0 : ¬ p.1 < 0 := by omega
      have n1 : ¬ (size : Int) ≤ p.1 := by omega
      refine ⟨[.fr (c (ps.map pE)), .fr (.int s), .fr (.int (size : Int)), .od (kyA (foldM (ps.take i))) (vaA (foldM (ps.take i))), .fr (.int p.1), .fr (enc p.2)], [.fr (c (ps.map pE)), .fr (.int s), .fr (.int (size : Int)), .od (kyA (mrg (foldM (ps.take i)) p)) (vaA (mrg (foldM (ps.take i)) p)), .fr (.int p.1), .fr (enc p.2)], rfl, ?_, _, _, rfl⟩
      by_cases hh : hasA (foldM (ps.take i)) p.1 = true
      · have em : mrg (foldM (ps.take i)) p = putA (foldM (ps.take i)) p.1 ((lookA (foldM (ps.take i)) p.1).getD 0 + p.2) := by unfold mrg; rw [if_pos hh]
        rw [em, st.2, ← st.1]
        rw [hh] at an
        generalize kyA (foldM (ps.take i)) = ks at *
        generalize vaA (foldM (ps.take i)) = ds at *
        generalize lookA (foldM (ps.take i)) p.1 = lo at *
        generalize cmpQ p.2 0 = cc at *
        simp [n0, n1, enc_zero, cm, cq, ad, mPutK, odAt, mGet, keyD, lk, gd, an, hlt]
      · have em : mrg (foldM (ps.take i)) p = foldM (ps.take i) ++ [(p.1, 0 + p.2)] := by unfold mrg; rw [if_neg hh]
        have hf := Bool.eq_false_iff.mpr hh
        rw [look_has hf] at ad lk gd
        rw [em, show kyA (foldM (ps.take i) ++ [(p.1, 0 + p.2)]) = kyA (foldM (ps.take i)) ++ [.inl p.1] by show List.map _ _ = _; rw [List.map_append]; rfl, show vaA (foldM (ps.take i) ++ [(p.1, 0 + p.2)]) = vaA (foldM (ps.take i)) ++ [enc (0 + p.2)] by show List.map _ _ = _; rw [List.map_append]; rfl]
        rw [hf] at an
        have ad : f_add [enc 0, enc p.2] = .ok (enc (0 + p.2)) := ad
        have lk : lookD (kyA (foldM (ps.take i))) (vaA (foldM (ps.take i))) (.inl p.1) = none := lk
        generalize kyA (foldM (ps.take i)) = ks at *
        generalize vaA (foldM (ps.take i)) = ds at *
        generalize cmpQ p.2 0 = cc at *
        generalize hv : (0 : Rat) + p.2 = v0 at *
        simp [n0, n1, enc_zero, cm, cq, ad, mPutK, odAt, mGet, keyD, lk, an, hlt])
  obtain ⟨env', k1, s4, s5, rfl⟩ := key
  rw [List.length_map, List.take_length] at k1
  have vsz : ∀ q ∈ (foldM ps).map (·.2), Sz B2 q := fun q hq => by
    obtain ⟨p, hp, rfl⟩ := List.mem_map.mp hq
    rw [foldM_val hp, ← List.take_length (l := ps), hB2]
    exact take_sz h
  have tot := total_eq (c := .lst) (.inl rfl) (qs := (foldM ps).map (·.2)) (B := B2) (by
    rw [List.length_map]
    have := keys_len ps
    refine Nat.le_trans (Nat.mul_le_mul_left _ (by omega : (foldM ps).length + 1 ≤ ps.length + 1)) ?_
    rw [show B2 + 1 = (B + 1) * ps.length + 2 by omega]
    omega) vsz
  rw [foldM_tot, h.sum, List.map_map] at tot
  have tot : f_total [.lst (vaA (foldM ps))] = .ok (enc 1) := tot
  have e1 : oEqP true (enc 1) (enc 1) = _ := eqP_enc
  have ks : cKeys [.dct (kyA (foldM ps)) (vaA (foldM ps))] = some (.l (((foldM ps).map (·.1)).map D.int)) := by
    show some (Sv.l ((kyA (foldM ps)).map kD)) = _
    rw [List.map_map, List.map_map]
    rfl
  have srt : cSort [.lst (((foldM ps).map (·.1)).map D.int)] = some (.l ((((foldM ps).map (·.1)).mergeSort leI).map D.int)) := by
    show (intsOf _).map _ = _
    rw [intsOf_map]
    rfl
  obtain ⟨so, hso⟩ : ∃ so, so = ((foldM ps).map (·.1)).mergeSort leI := ⟨_, rfl⟩
  have hmem : ∀ t ∈ so, t ∈ (foldM ps).map (·.1) := fun t ht => by rw [hso, (List.mergeSort_perm _ leI).mem_iff] at ht; exact ht
  have comp : compL [4] (γN 4) (mB (mOp (oEqP true) (mD (mOp oGetK (mPk 3) (mPk 4))) (mD (mTup (mCons (mD (mC (.int 0))) (mCons (mD (mC (.int 1))) (mNil))))))) (mD (mTup (mCons (mD (mVar 4)) (mCons (mD (mOp oGetK (mPk 3) (mPk 4))) (mNil))))) (so.map D.int) [] [.fr (c (ps.map pE)), .fr (.int s), .fr (.int (size : Int)), .od (kyA (foldM ps)) (vaA (foldM ps)), .un, s5] =
      .ok ((rowOf ps size).map pE) [.fr (c (ps.map pE)), .fr (.int s), .fr (.int (size : Int)), .od (kyA (foldM ps)) (vaA (foldM ps)), .un, s5] := by
    rw [compL_filter (h := fun d => match d with | .int t => pE (t, atS ps t) | d => d) (p := fun d => match d with | .int t => decide (atS ps t ≠ 0) | _ => false)]
    · congr 1
      rw [List.nil_append, List.filter_map, List.map_map]
      unfold rowOf
      rw [← keys_row h.tgt, ← hso, List.map_map]
      rfl
    · intro x hx
      obtain ⟨t, ht, rfl⟩ := List.mem_map.mp hx
      have hk := hmem t ht
      obtain ⟨p, hp, rfl⟩ := List.mem_map.mp hk
      have lv : lookA (foldM ps) p.1 = some (atS ps p.1) := by rw [look_mem (foldM_keys ps).1 hp, foldM_val hp]
      have gk : oGetK (.dct (kyA (foldM ps)) (vaA (foldM ps))) (.int p.1) = some (.d (enc (atS ps p.1))) := by
        show (lookD _ _ (.inl p.1)).map Sv.d = _
        rw [look_A, lv]
        rfl
      have eq0 : oEqP true (enc (atS ps p.1)) (enc 0) = _ := eqP_enc
      generalize kyA (foldM ps) = kq at *
      generalize vaA (foldM ps) = dq at *
      refine ⟨[.fr (c (ps.map pE)), .fr (.int s), .fr (.int (size : Int)), .od kq dq, .fr (.int p.1), s5], [.fr (c (ps.map pE)), .fr (.int s), .fr (.int (size : Int)), .od kq dq, .fr (.int p.1), s5], rfl, ?_, fun _ => ⟨[.fr (c (ps.map pE)), .fr (.int s), .fr (.int (size : Int)), .od kq dq, .fr (.int p.1), s5], ?_, rfl⟩, fun _ => rfl⟩
      · simp [gk, enc_zero, eq0]
      · simp [gk, pE]
  have hii : (so.map D.int).length ≤ 90000 := by
    rw [List.length_map, hso, List.length_mergeSort, List.length_map]
    have := keys_len ps
    omega
  rw [← hso] at srt
  generalize hkk : kyA (foldM ps) = kk at *
  generalize hdd : vaA (foldM ps) = dd at *
  generalize so.map D.int = ii at *
  generalize ((foldM ps).map (·.1)).map D.int = i2 at *
  generalize (rowOf ps size).map pE = ro at *
  generalize hpp : ps.map pE = pp at *
  rcases hc with rfl | rfl <;> simp [f_made_row, g_made_row, mDn, k1, mVals, tot, enc_one, e1, ks, srt, hii, comp]
/-- what comes of it is a row that make_game gives back -/
theorem rowOf_ok {B size : Nat} {ps : List (Int × Rat)} (h : RowG B size ps) (hs : size ≤ 1000) (hb : ((B + 1) * ps.length + 2) * (size + 1) ≤ 120000000) : RowOk ((B + 1) * ps.length + 1) (size : Int) (rowOf ps size) where
  tgt := fun p hp => by
    obtain ⟨t, ht, rfl⟩ := List.mem_map.mp hp
    obtain ⟨k, hk, rfl⟩ := List.mem_map.mp (List.mem_filter.mp ht).1
    have := List.mem_range.mp hk
    exact ⟨by show (0 : Int) ≤ (k : Int); omega, by show (k : Int) < _; omega⟩
  pos := fun p hp => by
    obtain ⟨t, ht, rfl⟩ := List.mem_map.mp hp
    have h1 := of_decide_eq_true (List.mem_filter.mp ht).2
    have h2 := atS_nonneg (t := t) ps h.nn
    show (0 : Rat) < atS ps t
    grind
  sz := fun p hp => by
    obtain ⟨t, ht, rfl⟩ := List.mem_map.mp hp
    exact atS_sz ps h.sz
  asc := by
    unfold rowOf
    rw [List.pairwise_map]
    refine List.Pairwise.filter _ ?_
    rw [List.pairwise_map]
    exact List.pairwise_lt_range.imp fun h => by show (_ : Int) < _; omega
  sum := by
    have e : (rowOf ps size).map (·.2) = (((List.range size).map fun k : Nat => (k : Int)).filter fun t => decide (atS ps t ≠ 0)).map (atS ps) := by
      unfold rowOf
      rw [List.map_map]
      rfl
    rw [e, ← keys_row h.tgt]
    have drop : ∀ l : List Int, sumQ ((l.filter fun t => decide (atS ps t ≠ 0)).map (atS ps)) = sumQ (l.map (atS ps)) := fun l => by
      induction l with
      | nil => rfl
      | cons t l ih =>
        rw [List.filter_cons, List.map_cons, sumQ_cons]
        by_cases z : atS ps t = 0
        · rw [if_neg (by simp [z]), ih, z, Rat.add_zero]
        · rw [if_pos (by simp [z]), List.map_cons, sumQ_cons, ih]
    rw [drop, sumQ_perm ((List.mergeSort_perm _ leI).map _), List.map_map, ← h.sum, ← foldM_tot ps]
    congr 1
    exact List.map_congr_left fun p hp => (foldM_val hp).symm
  len := by
    unfold rowOf
    rw [List.length_map]
    exact Nat.le_trans (List.length_filter_le _ _) (by simp; omega)
  big := by
    have : (rowOf ps size).length ≤ size := by
      unfold rowOf
      rw [List.length_map]
      exact Nat.le_trans (List.length_filter_le _ _) (by simp)
    refine Nat.le_trans (Nat.mul_le_mul_left _ (by omega : (rowOf ps size).length + 1 ≤ size + 1)) ?_
    exact hb
end Law

set_option Elab.async false
set_option linter.all false
set_option maxRecDepth 100000
set_option maxHeartbeats 4000000
/-! More of lists: x = l.pop(). -/
namespace Iv
open PySem PySem.Spec PyProof.Rows L2 Evl
section
variable {X : Cx} {S : Xs} {W : WX} {F0 H0 : Hp}
/-- x = l.pop(), l in slot i, x in slot j -/
def mPop (i j : Nat) : M Fl := fun env => match owAt env i with
  | some l => (match l[l.length - 1]? with
    | some d => .ok .nx ((env.set i (.ow l.dropLast)).set j (.fr d))
    | none => .bad)
  | none => .bad
theorem ds_pop {i j : Nat} {st : Stmt} (hp : PS X st (tAsg (tBM0 X.K "list" rPop (tVar i)) (gName j))) : DS X S W F0 H0 st (mPop i j) := PS.imp hp fun D σ H ⟨F, env, b, rel, q⟩ => by
  unfold mPop at q
  cases h0 : owAt env i with
  | none => rw [h0] at q; exact q.elim
  | some l =>
    rw [h0] at q
    obtain ⟨p, vs, e1, n1, h1, _, r1⟩ := Owned.at_ rel rel Gr.refl (owAt_eq h0)
    dsimp only at q
    cases hd : l[l.length - 1]? with
    | none => rw [hd] at q; exact q.elim
    | some d =>
      rw [hd] at q
      obtain ⟨y, hy, ry⟩ := r1.get' hd
      rw [← r1.length] at hy
      refine ⟨.ref p, e1, .inl ⟨rfl, vs, sq_of h1⟩, p, vs, y, rfl, rfl, h1, hy, ?_⟩
      have rd : Rs X.K F l.dropLast vs.dropLast := by
        rw [List.dropLast_eq_take, List.dropLast_eq_take, r1.length]
        exact r1.take _
      obtain ⟨rel2, own2⟩ := rel.put (owAt_eq h0) e1 n1 rd
      have b2 : Bd F0 H0 F (upd H p (.lst vs.dropLast)) σ (env.set i (.ow l.dropLast)) := b.put ⟨i, _, owAt_eq h0, rfl, e1⟩ own2
      have rel3 : Rel X.K F (upd H p (.lst vs.dropLast)) (σ.set j (some y)) ((env.set i (.ow l.dropLast)).set j (.fr d)) := rel2.set (o := some y) ⟨y, rfl, ry⟩ fun _ z => nomatch z
      exact q _ F _ (Ex.refl _) ⟨b2.f, b2.h, b2.keep, fun a z => b2.own a (owned_set rfl z)⟩ rel3
end
end Iv
namespace Iv
open PySem PySem.Spec PyProof.Rows L2 Evl
/-- an object that no slot owns changes -/
theorem Rel.other {K : PySem.W.Frag} {F H : Hp} {σ : L2.St} {env : En} {p : Addr} {o : HO} (rel : Rel K F H σ env) (n : F p = none) (no : ¬ Owned σ env p) : Rel K F (upd H p o) σ env := by
  refine ⟨rel.len, fun a u q => ?_, fun i s e => ?_, rel.dis⟩
  · rw [upd_ne (fun z => by rw [z, n] at q; cases q)]
    exact rel.ex a u q
  · obtain ⟨v, h1, h2⟩ := rel.at_ i s e
    refine ⟨v, h1, ?_⟩
    have ne : ∀ a, s.own = true → v = some (.ref a) → a ≠ p := fun a ho hv z => no ⟨i, s, e, ho, by rw [h1, hv, z]⟩
    cases s with
    | un => trivial
    | xo a => exact h2
    | fr d => exact h2
    | ow l => obtain ⟨a, ws, z1, z2, z3, z4⟩ := h2; exact ⟨a, ws, z1, z2, by rw [upd_ne (ne a rfl z1)]; exact z3, z4⟩
    | od ks l => obtain ⟨a, ws, z1, z2, z3, z4⟩ := h2; exact ⟨a, ws, z1, z2, by rw [upd_ne (ne a rfl z1)]; exact z3, z4⟩
section
variable {X : Cx} {S : Xs} {W : WX} {a b : Expr} {pos : Pos} {f g : M D}
/-- {a: b} -/
def mDisp1 (f g : M D) : M Sv := fun env => (f env).bind fun k env => (g env).bind fun d env => match keyD k with
  | some k => .ok (.k [k] [d]) env
  | none => .bad
theorem pd_disp1 (ha : PP X S W a f) (hb : PF X S W b g) : PD X S W (.Dict [some a] [b] pos) (mDisp1 f g) :=
  PE.imp (pe_disp (L2.pps_cons ha hb L2.pps_nil) rfl rfl (fun z => nomatch z) (by show 1 ≤ 15; decide)) fun σ H Q ⟨F, env, rel, q⟩ p hp => by
  have n := New.fresh (o := .dK []) rel.ex hp
  obtain ⟨g0, rel0⟩ := n.gr rel
  have noP : ¬ Owned σ env p := fun z => (rel.owned z).2 hp
  have fP : F p = none := fresh_back rel.ex hp
  unfold mDisp1 at q
  refine ⟨F, env, rel0, ?_⟩
  cases hf : f env with
  | bad => rw [hf] at q; exact q
  | ex c x e1 => rw [hf] at q; exact fun d F1 H1 g1 => q d F1 H1 (g0.trans g1)
  | ok dk env1 =>
    rw [hf] at q
    intro x F1 H1 g1 rel1 rx
    have rx : RP X.K F1 H1 dk x := rx
    dsimp only [Res.bind_ok] at q
    refine ⟨F1, env1, rel1, ?_⟩
    cases hg : g env1 with
    | bad => rw [hg] at q; exact q
    | ex c y e2 => rw [hg] at q; exact fun d F2 H2 g2 => q d F2 H2 (g0.trans (g1.trans g2))
    | ok dv env2 =>
      rw [hg] at q
      intro y F2 H2 g2 rel2 ry
      have ry : R X.K F2 dv y := ry
      dsimp only [Res.bind_ok] at q
      cases hk : keyD dk with
      | none => rw [hk] at q; exact q.elim
      | some k =>
        rw [hk] at q
        have hx := key_v hk rx
        subst hx
        have p1 : (upd H p (.dK [])) p = some (.dK []) := upd_same
        have p2 := g1.h p _ p1
        have p3 := g2.h p _ p2
        have noP1 : ¬ Owned σ env1 p := fun z => noP (g1.own p z)
        have noP2 : ¬ Owned σ env2 p := fun z => noP1 (g2.own p z)
        have f1 : F1 p = none := g1.keep p (by rw [p1]; exact fun z => nomatch z) fP noP
        have f2 : F2 p = none := g2.keep p (by rw [p2]; exact fun z => nomatch z) f1 noP1
        refine ⟨p3, [(k, y)], rfl, by show 1 ≤ 15; decide, ?_⟩
        have gr : Gr σ env F H env2 F2 (upd H2 p (.dK (mergeK [] [(k, y)]))) := ⟨g1.f.trans g2.f, Ex.mut (n.h.trans (g1.h.trans g2.h)) hp, fun a z => g1.own a (g2.own a z), fun a z1 z2 z3 => g2.keep a (Ex.some g1.h (Ex.some n.h z1)) (g1.keep a (Ex.some n.h z1) z2 z3) fun z => z3 (g1.own a z)⟩
        exact q (.ref p) F2 _ gr (rel2.other f2 noP2) ⟨p, [y], rfl, hp, f2, upd_same, rfl, Rs.cons ry Rs.nil⟩
end
end Iv

set_option Elab.async false
set_option linter.all false
set_option maxRecDepth 100000
set_option maxHeartbeats 4000000
/-! Dict comprehensions. -/
namespace Iv
open PySem PySem.Spec PyProof.Rows L2 Evl
def putD (k : Key) (d : D) (ks : List Key) (ds : List D) : List Key × List D := if (ks.any fun k' => decide (k' = k)) = true then (ks, setD k d ks ds) else (ks ++ [k], ds ++ [d])
theorem putD_len {k : Key} {d : D} {ks : List Key} {ds : List D} : (putD k d ks ds).1.length ≤ ks.length + 1 := by
  unfold putD
  split
  · exact Nat.le_succ _
  · rw [List.length_append]; exact Nat.le_refl _
theorem putD_rel {K : PySem.W.Frag} {F : Hp} {k : Key} {d : D} {v : V} {ks : List Key} {ds : List D} {vs : List V} (rv : R K F d v) (hl : vs.length = ks.length) (r : Rs K F ds vs) :
    ∃ vs', putK (ks.zip vs) k v = (putD k d ks ds).1.zip vs' ∧ vs'.length = (putD k d ks ds).1.length ∧ Rs K F (putD k d ks ds).2 vs' := by
  unfold putD putK
  by_cases h : (ks.any fun k' => decide (k' = k)) = true
  · rw [if_pos h, if_pos ((any_mem hl).mpr h)]
    obtain ⟨e1, e2⟩ := setV_zip (k := k) (v := v) hl
    exact ⟨setV k v ks vs, e1, e2, setD_rel rv hl r⟩
  · rw [if_neg h, if_neg (fun z => h ((any_mem hl).mp z))]
    refine ⟨vs ++ [v], ?_, by rw [List.length_append, List.length_append, hl]; rfl, r.append (Rs.cons rv Rs.nil)⟩
    rw [List.zip_append hl.symm]
    rfl
def compD (vs : List Nat) (γ : D → En → Option En) (cond : M Bool) (fk fv : M D) : List D → List Key → List D → En → Res (List Key × List D)
  | [], ks, ds, env => .ok (ks, ds) env
  | x :: xs, ks, ds, env => match γ x env with
    | none => .bad
    | some env1 => match cond env1 with
      | .ok true env2 => match fk env2 with
        | .ok dk env3 => match fv env3 with
          | .ok d env4 => match keyD dk with
            | some k => compD vs γ cond fk fv xs (putD k d ks ds).1 (putD k d ks ds).2 (wipeE env4 vs)
            | none => .bad
          | _ => .bad
        | _ => .bad
      | .ok false env2 => compD vs γ cond fk fv xs ks ds (wipeE env2 vs)
      | _ => .bad
def mDc (vs : List Nat) (γ : D → En → Option En) (src : M (List D)) (cond : M Bool) (fk fv : M D) : M Sv := fun env => (src env).bind fun items env1 => if items.length ≤ 90000 then
    (match compD vs γ cond fk fv items [] [] (wipeE env1 vs) with
    | .ok acc env2 => .ok (.k acc.1 acc.2) env2
    | _ => .bad) else .bad
section
variable {X : Cx} {S : Xs} {W : WX} {e a b c : Expr} {es rest : List Expr} {pos : Pos} {σ : L2.St} {H : Hp}
theorem rd_dc {wi : TI} {g : TG} {tt : TT} {tk tv : TE} {vs js : List Nat} {γ : D → En → Option En} {src : M (List D)} {cond : M Bool} {fk fv : M D} {K : PySem.W.Frag} {Q : VK} (hj : ∀ i ∈ js, i ∈ vs)
    (hw : ∀ σ H R, rd K S W (TY K) src σ H R → wi σ H R)
    (hg : ∀ v σ H Q, rG K js γ v σ H Q → g v σ H Q)
    (ht : ∀ σ H Q, rd K S W0 TB cond σ H Q → tt σ H Q) (hk : ∀ σ H Q, rd K S W0 (TF K) fk σ H Q → tk σ H Q) (he : ∀ σ H Q, rd K S W0 (TF K) fv σ H Q → tv σ H Q)
    (q : rd K S W (TV K) (mDc vs γ src cond fk fv) σ H Q) : tDc wi g tt tk tv vs σ H Q := by
  obtain ⟨F, ef, q⟩ := rd_bind (T := TY K) q
  refine hw σ H _ (rd_imp q fun J H1 ⟨F1, env1, items, g1, g2, rel1, yl, q⟩ => ?_)
  have yl : Yl K F1 items J := yl
  dsimp only at q
  by_cases hlen : items.length ≤ 90000
  case neg => rw [if_neg hlen] at q; exact q.elim
  rw [if_pos hlen] at q
  cases hr : compD vs γ cond fk fv items [] [] (wipeE env1 vs) with
  | bad => rw [hr] at q; exact q.elim
  | ex c x e2 => rw [hr] at q; exact q.elim
  | ok accF env2 =>
    rw [hr] at q
    have q : ∀ b F' H', Gr σ env1 F1 H1 env2 F' H' → Rel K F' H' σ env2 → RV K H1 F' H' (.k accF.1 accF.2) b → Q b H' := q
    intro Dl hD
    have hDF : F1 Dl = none := fresh_back rel1.ex hD
    have nD0 : ∀ a, Owned σ env1 a → a ≠ Dl := fun a h z => (rel1.owned h).2 (by rw [z]; exact hD)
    refine ⟨fun i m H' => m = items.length - i ∧ i ≤ items.length ∧ ∃ F' env ks ds va, Ex F1 F' ∧ Ex H1 H' ∧ Rel K F' H' (wipe σ vs) env ∧ H' Dl = some (.dK (ks.zip va)) ∧ va.length = ks.length ∧ Rs K F' ds va ∧ F' Dl = none ∧ ks.length ≤ i ∧
        (∀ a, Owned (wipe σ vs) env a → Owned σ env1 a) ∧ (∀ a, H1 a ≠ none → F1 a = none → ¬ Owned σ env1 a → F' a = none) ∧ compD vs γ cond fk fv (items.drop i) ks ds env = .ok accF env2 ∧ wipeE env vs = env,
      ⟨items.length, by simp, Nat.zero_le _, F1, wipeE env1 vs, [], [], [], Ex.refl _, Ex.new hD, ?_, upd_same, rfl, Rs.nil, hDF, Nat.le_refl _, fun a h => owned_wipe h, fun _ _ h _ => h, hr, ?_⟩, ?_⟩
    · exact (rel1.wipe vs).grow (Ex.refl _) (Ex.new hD) (fun a u e => by rw [upd_ne (ne_of_none (rel1.ex a u e) hD)]; exact rel1.ex a u e) fun a h => (rel1.owned (owned_wipe h)).1
    · exact wipeE_idem
    · rintro i m H' ⟨rfl, hi, F', env, ks, ds, va, x1, x2, rel, hDl, hva, ra, fD, hacc, own, keep, hc, hwe⟩
      have nD : ∀ a, Owned (wipe σ vs) env a → a ≠ Dl := fun a h => nD0 a (own a h)
      by_cases hlt : i < items.length
      · refine .inr ?_
        have hget : items[i]? = some items[i] := List.getElem?_eq_getElem hlt
        obtain ⟨hgo, hy⟩ := (yl i F' H' x1 rel.ex).1 _ hget
        have hdrop : items.drop i = items[i] :: items.drop (i + 1) := List.drop_eq_getElem_cons hlt
        rw [hdrop] at hc
        unfold compD at hc
        refine ⟨hgo, fun H2 => ∃ m', m' < items.length - i ∧ m' = items.length - (i + 1) ∧ i + 1 ≤ items.length ∧ ∃ F' env ks ds va, Ex F1 F' ∧ Ex H1 H2 ∧ Rel K F' H2 (wipe σ vs) env ∧ H2 Dl = some (.dK (ks.zip va)) ∧ va.length = ks.length ∧ Rs K F' ds va ∧ F' Dl = none ∧ ks.length ≤ i + 1 ∧
          (∀ a, Owned (wipe σ vs) env a → Owned σ env1 a) ∧ (∀ a, H1 a ≠ none → F1 a = none → ¬ Owned σ env1 a → F' a = none) ∧ compD vs γ cond fk fv (items.drop (i + 1)) ks ds env = .ok accF env2 ∧ wipeE env vs = env, fun H2 h => ?_, fun x H2 y => ?_⟩
        · obtain ⟨m', h1, h2, h3⟩ := h
          exact ⟨m', h1, h2, h3⟩
        obtain ⟨F'', nw, rx⟩ := hy x H2 y
        obtain ⟨gw, rel⟩ := nw.gr rel
        have x1 := x1.trans nw.f
        have x2_ := x2
        have x2 := x2.trans nw.h
        have hDl0 := hDl
        have hDl := nw.h Dl _ hDl
        have ra := ra.mono nw.f
        have fD := nw.keep Dl (by rw [hDl0]; exact fun z => nomatch z) fD
        have keep : ∀ a, H1 a ≠ none → F1 a = none → ¬ Owned σ env1 a → F'' a = none := fun a h1 h2 h3 => nw.keep a (Ex.some x2_ h1) (keep a h1 h2 h3)
        cases hγ : γ items[i] env with
        | none => rw [hγ] at hc; cases hc
        | some envx =>
          rw [hγ] at hc
          dsimp only at hc
          refine hg x _ H2 _ ⟨F'', env, items[i], rel, rx, envx, hγ, fun σ2 rel2 o2 l2 k2 => ?_⟩
          have hws : wipe σ2 vs = wipe σ vs := (wipe_same l2 fun i hi => k2 i fun z => hi (hj i z)).trans wipe_wipe
          refine ⟨hws, ht σ2 H2 _ ⟨F'', envx, rel2, ?_⟩⟩
          cases hcd : cond envx with
          | bad => rw [hcd] at hc; cases hc
          | ex c x e => rw [hcd] at hc; cases hc
          | ok b envy =>
            rw [hcd] at hc
            intro b' F3 H3 gr3 rel3 eb
            have eb : b = b' := eb
            subst eb
            have fD3 : F3 Dl = none := gr3.keep Dl (by rw [hDl]; exact fun z => nomatch z) fD fun z => nD Dl (o2 Dl z) rfl
            have keep3 : ∀ a, H1 a ≠ none → F1 a = none → ¬ Owned σ env1 a → F3 a = none := fun a h1 h2 h3 => gr3.keep a (Ex.some x2 h1) (keep a h1 h2 h3) fun z => h3 (own a (o2 a z))
            cases b with
            | false =>
              have hc : compD vs γ cond fk fv (items.drop (i + 1)) ks ds (wipeE envy vs) = .ok accF env2 := hc
              show ∃ m', _
              refine ⟨_, by omega, rfl, hlt, F3, wipeE envy vs, ks, ds, va, x1.trans gr3.f, x2.trans gr3.h, ?_, gr3.h Dl _ hDl, hva, ra.mono gr3.f, fD3, by omega, fun a h => ?_, keep3, hc, ?_⟩
              · rw [← hws]; exact rel3.wipe vs
              · rw [← hws] at h
                exact own a (o2 a (gr3.own a (owned_wipe h)))
              · exact wipeE_idem
            | true =>
              dsimp only at hc
              refine hk σ2 H3 _ ⟨F3, envy, rel3, ?_⟩
              cases hel : fk envy with
              | bad => rw [hel] at hc; cases hc
              | ex c x e => rw [hel] at hc; cases hc
              | ok dk envw =>
              rw [hel] at hc
              dsimp only at hc
              intro yk F4 H4 gr4 rel4 ryk
              have ryk : R K F4 dk yk := ryk
              refine he σ2 H4 _ ⟨F4, envw, rel4, ?_⟩
              cases hev : fv envw with
              | bad => rw [hev] at hc; cases hc
              | ex c x e => rw [hev] at hc; cases hc
              | ok d envz =>
              rw [hev] at hc
              dsimp only at hc
              cases hkd : keyD dk with
              | none => rw [hkd] at hc; cases hc
              | some k =>
                rw [hkd] at hc
                have hc : compD vs γ cond fk fv (items.drop (i + 1)) (putD k d ks ds).1 (putD k d ks ds).2 (wipeE envz vs) = .ok accF env2 := hc
                have hyk := key_v hkd (RP.mono (F' := F4) (H' := H4) (.inl ryk) (Ex.refl _) (Ex.refl _))
                intro y F5 H5 gr5 rel5 ry
                have ry : R K F5 d y := ry
                have fD4 : F4 Dl = none := gr4.keep Dl (Ex.some gr3.h (by rw [hDl]; exact fun z => nomatch z)) fD3 fun z => nD Dl (o2 Dl (gr3.own Dl z)) rfl
                have fD5 : F5 Dl = none := gr5.keep Dl (Ex.some gr4.h (Ex.some gr3.h (by rw [hDl]; exact fun z => nomatch z))) fD4 fun z => nD Dl (o2 Dl (gr3.own Dl (gr4.own Dl z))) rfl
                have hD5 : H5 Dl = some (.dK (ks.zip va)) := gr5.h Dl _ (gr4.h Dl _ (gr3.h Dl _ hDl))
                obtain ⟨va', z1, z2, z3⟩ := putD_rel (k := k) ry hva (ra.mono (gr3.f.trans (gr4.f.trans gr5.f)))
                have hpl := putD_len (k := k) (d := d) (ks := ks) (ds := ds)
                refine ⟨ks.zip va, k, hyk, hD5, sz_lt (by rw [List.length_zip]; omega), ?_⟩
                rw [z1]
                refine ⟨_, by omega, rfl, hlt, F5, wipeE envz vs, (putD k d ks ds).1, (putD k d ks ds).2, va', (x1.trans gr3.f).trans (gr4.f.trans gr5.f), Ex.mut ((x2.trans gr3.h).trans (gr4.h.trans gr5.h)) hD, ?_, upd_same, z2, z3, fD5, by omega, fun a h => ?_, fun a h1 h2 h3 => ?_, hc, ?_⟩
                · have r5 : Rel K F5 H5 (wipe σ vs) (wipeE envz vs) := by rw [← hws]; exact rel5.wipe vs
                  refine ⟨r5.len, Ex.mut r5.ex fD5, fun j s e => ?_, r5.dis⟩
                  obtain ⟨o, p1, p2⟩ := r5.at_ j s e
                  refine ⟨o, p1, ?_⟩
                  have ne : ∀ a, s.own = true → o = some (.ref a) → a ≠ Dl := fun a hs ho => by
                    have hO : Owned (wipe σ vs) (wipeE envz vs) a := ⟨j, s, e, hs, by rw [p1, ho]⟩
                    rw [← hws] at hO
                    exact nD a (o2 a (gr3.own a (gr4.own a (gr5.own a (owned_wipe hO)))))
                  cases s with
                  | un => trivial
                  | xo a => exact p2
                  | fr d => exact p2
                  | ow l => obtain ⟨p, ws, z1, z2, z3, z4⟩ := p2; exact ⟨p, ws, z1, z2, by rw [upd_ne (ne p rfl z1)]; exact z3, z4⟩
                  | od ks ds => obtain ⟨p, ws, z1, z2, z3, z4⟩ := p2; exact ⟨p, ws, z1, z2, by rw [upd_ne (ne p rfl z1)]; exact z3, z4⟩
                · rw [← hws] at h
                  exact own a (o2 a (gr3.own a (gr4.own a (gr5.own a (owned_wipe h)))))
                · exact gr5.keep a (Ex.some gr4.h (Ex.some gr3.h (Ex.some x2 h1))) (gr4.keep a (Ex.some gr3.h (Ex.some x2 h1)) (keep3 a h1 h2 h3) fun z => h3 (own a (o2 a (gr3.own a z)))) fun z => h3 (own a (o2 a (gr3.own a (gr4.own a z))))
                · exact wipeE_idem
      · have e : i = items.length := by omega
        subst e
        rw [List.drop_length] at hc
        have hc : (Res.ok (ks, ds) env : Res (List Key × List D)) = .ok accF env2 := hc
        cases hc
        refine .inl ⟨(yl _ F' H' x1 rel.ex).2 rfl, q _ F' H' ⟨x1, x2, fun a h => ?_, keep⟩ ?_ ⟨Dl, va, rfl, hD, fD, hDl, hva, ra⟩⟩
        · obtain ⟨j, s, z1, z2, z3⟩ := h
          have hj : j ∉ vs := fun z => by
            rw [wipeE_un hwe z z1] at z2
            cases z2
          exact own a ⟨j, s, z1, z2, by rw [wipe_out hj]; exact z3⟩
        · refine ⟨by rw [rel.len, wipe_len], rel.ex, fun j s z => ?_, fun a b s t c p1 p2 o1 o2 v1 v2 => ?_⟩
          · by_cases hj : j ∈ vs
            · rw [wipeE_un hwe hj z]
              have hl := (List.getElem?_eq_some_iff.mp z).1
              rw [rel.len, wipe_len] at hl
              exact ⟨_, List.getElem?_eq_getElem hl, True.intro⟩
            · obtain ⟨o, y1, y2⟩ := rel.at_ j s z
              rw [wipe_out hj] at y1
              exact ⟨o, y1, y2⟩
          · have ha : a ∉ vs := fun z => by
              rw [wipeE_un hwe z p1] at o1
              cases o1
            have hb : b ∉ vs := fun z => by
              rw [wipeE_un hwe z p2] at o2
              cases o2
            exact rel.dis a b s t c p1 p2 o1 o2 (by rw [wipe_out ha]; exact v1) (by rw [wipe_out hb]; exact v2)
/-- {key: val for tg in src if cond} -/
theorem pd_dc {kx vx tg iter : Expr} {ifs : List Expr} {scope : Scope} {own : List (Str × Nat)} {js : List Nat} {γ : D → En → Option En} {src : M (List D)} {cond : M Bool} {fk fv : M D} (hc : X.calm = true) (hN : X.N.Nodup) (hi : PY X S W tg iter src) (ok : BlkOk X.N X.env.scope scope own) (hj : ∀ i ∈ js, i ∈ own.map (·.2))
    (hg : ∀ (s : Shared) (H : Hp) (C : Addr) (cl : List (Str × Addr)) (fp : List Addr), PGd (X.blk s H scope (compEnvC scope cl C X.env) fp) tg js γ)
    (ht : ∀ (s : Shared) (H : Hp) (C : Addr) (cl : List (Str × Addr)) (fp : List Addr), PTs (X.blk s H scope (compEnvC scope cl C X.env) fp) ifs (rd X.K S W0 TB cond))
    (hk : ∀ (s : Shared) (H : Hp) (C : Addr) (cl : List (Str × Addr)) (fp : List Addr), PF (X.blk s H scope (compEnvC scope cl C X.env) fp) S W0 kx fk)
    (he : ∀ (s : Shared) (H : Hp) (C : Addr) (cl : List (Str × Addr)) (fp : List Addr), PF (X.blk s H scope (compEnvC scope cl C X.env) fp) S W0 vx fv) (hs : ∀ x, foldedSetIterable iter X.env x = pure x := by intro _; rfl) :
    PD X S W (.DictComp kx vx [⟨tg, iter, ifs, 0⟩] scope pos) (mDc (own.map (·.2)) γ src cond fk fv) :=
  PE.imp (pe_dc (g := rG X.K js γ) (tt := rd X.K S W0 TB cond) (tk := rd X.K S W0 (TF X.K) fk) (tv := rd X.K S W0 (TF X.K) fv) hc hN hi ok hg ht hk he hs) fun σ H Q q => rd_dc hj (fun _ _ _ h => h) (fun _ _ _ _ h => h) (fun _ _ _ h => h) (fun _ _ _ h => h) (fun _ _ _ h => h) q
end
@[simp] theorem mDc_eq {vs : List Nat} {γ : D → En → Option En} {src : M (List D)} {cond : M Bool} {fk fv : M D} {env : En} : mDc vs γ src cond fk fv env = (src env).bind fun items env1 => if items.length ≤ 90000 then
    (match compD vs γ cond fk fv items [] [] (wipeE env1 vs) with
    | .ok acc env2 => .ok (.k acc.1 acc.2) env2
    | _ => .bad) else .bad := rfl
end Iv

set_option Elab.async false
set_option linter.all false
set_option maxHeartbeats 4000000
set_option maxRecDepth 100000
/-! What a state leads to: reachable, the law's own walk, the law's games. -/
namespace Law
open PySem PySem.Spec PyProof.Rows L2 Evl Iv
noncomputable def g_u_law_size : M Fl :=
    mSeq (mSet 1 (mCall 2 f_u_law_draws (mCons (mD (mVar 0)) (mCons (mD (mC (.int 3))) (mNil)))))
    (mSeq (mIfS (mB (mOp oEq (mD (mOp oMod (mD (mCl cInt (mCons (mD (mOp oIx (mPk 1) (mD (mC (.int 0))))) (mNil)))) (mD (mC (.int 4))))) (mD (mC (.int 1))))) (mRet (mD (mOp oAdd (mD (mC (.int 1))) (mD (mOp oMod (mD (mCl cInt (mCons (mD (mOp oIx (mPk 1) (mD (mC (.int 1))))) (mNil)))) (mD (mC (.int 24)))))))) (mNx))
    (mRet (mD (mOp oAdd (mD (mC (.int 1))) (mD (mOp oMod (mD (mCl cInt (mCons (mD (mOp oIx (mPk 1) (mD (mC (.int 1))))) (mNil)))) (mD (mC (.int 6)))))))))
noncomputable def f_u_law_size : List D → FR := runF 2 g_u_law_size
noncomputable def g_u_law_sparse : M Fl :=
    mSeq (mSet 2 (mLst (mNil)))
    (mSeq (mSet 3 (mLst (mNil)))
    (mSeq (mFor (γN 4) (mRng1 (mCons (mPk 1) (mNil))) (mSeq (mSet 5 (mCall 2 f_u_law_draws (mCons (mD (mCall 2 f_u_law_cell (mCons (mD (mVar 0)) (mCons (mD (mOp oAdd (mD (mC (.int 1))) (mPk 4))) (mNil))))) (mCons (mD (mC (.int 16))) (mNil)))))
    (mSeq (mSet 6 (mLst (mCons (mD (mOp oMod (mD (mCl cInt (mCons (mD (mOp oIx (mPk 5) (mD (mC (.int 1))))) (mNil)))) (mPk 1))) (mNil))))
    (mSeq (mIfS (mB (mOp oEq (mD (mOp oMod (mD (mCl cInt (mCons (mD (mOp oIx (mPk 5) (mD (mC (.int 0))))) (mNil)))) (mD (mC (.int 2))))) (mD (mC (.int 1))))) (mApp 6 (mD (mOp oMod (mD (mCl cInt (mCons (mD (mOp oAdd (mPk 4) (mD (mOp oMod (mD (mCl cInt (mCons (mD (mOp oIx (mPk 5) (mD (mC (.int 2))))) (mNil)))) (mD (mC (.int 5))))))) (mNil)))) (mPk 1)))) (mNx))
    (mSeq (mIfS (mB (mOp oEq (mD (mOp oMod (mD (mOp oDiv (mD (mCl cInt (mCons (mD (mOp oIx (mPk 5) (mD (mC (.int 0))))) (mNil)))) (mD (mC (.int 2))))) (mD (mC (.int 4))))) (mD (mC (.int 1))))) (mSet 6 (mOp oAdd (mPk 6) (mD (mLc [11] (γN 11) (mRng1 (mCons (mD (mC (.int 4))) (mNil))) (mYes) (mD (mOp oMod (mD (mCl cInt (mCons (mD (mOp oIx (mPk 5) (mD (mOp oAdd (mD (mC (.int 6))) (mPk 11))))) (mNil)))) (mPk 1))))))) (mNx))
    (mSeq (mSet 7 (mLc [10] (γN 10) (mRng1 (mCons (mPk 1) (mNil))) (mB (mOp (oInL false) (mPk 10) (mPk 6))) (mD (mVar 10))))
    (mSeq (mSet 8 (mLc [11] (γN 11) (mRng1 (mCons (mD (mCl cLen (mCons (mPk 7) (mNil)))) (mNil))) (mYes) (mD (mOp oAdd (mD (mC (.int 1))) (mD (mOp oMod (mD (mCl cInt (mCons (mD (mOp oIx (mPk 5) (mD (mOp oAdd (mD (mC (.int 10))) (mPk 11))))) (mNil)))) (mD (mC (.int 3)))))))))
    (mSeq (mSet 9 (mCl cSum (mCons (mPk 8) (mNil))))
    (mSeq (mApp 3 (mD (mCl cTuple (mCons (mD (mLc [11] (γN 11) (mRng1 (mCons (mD (mCl cLen (mCons (mPk 7) (mNil)))) (mNil))) (mYes) (mD (mTup (mCons (mD (mOp oIx (mPk 7) (mPk 11))) (mCons (mD (mCall 2 f_u_law_low (mCons (mD (mOp oIx (mPk 8) (mPk 11))) (mCons (mD (mVar 9)) (mNil))))) (mNil))))))) (mNil)))))
    (mApp 2 (mD (mCall 1 f_u_law_fraction (mCons (mD (mOp oIx (mPk 5) (mD (mC (.int 3))))) (mNil))))))))))))))
    (mRet (mD (mTup (mCons (mD (mCl cTuple (mCons (mPk 2) (mNil)))) (mCons (mD (mCl cTuple (mCons (mPk 3) (mNil)))) (mNil))))))))
noncomputable def f_u_law_sparse : List D → FR := runF 12 g_u_law_sparse
noncomputable def g_u_law_reached : M Fl :=
    mSeq (mSet 2 (mLst (mCons (mD (mVar 1)) (mNil))))
    (mSeq (mFor (γN 3) (mRng1 (mCons (mD (mCl cLen (mCons (mD (mOp oIx (mPk 0) (mD (mC (.int 0))))) (mNil)))) (mNil))) (mSeq (mSet 4 (mCl cLen (mCons (mPk 2) (mNil))))
    (mSeq (mFor (γN 5) (mIt (mD (mCl cList (mCons (mPk 2) (mNil))))) (mFor (γN 6) (mIt (mD (mOp oIx (mD (mOp oIx (mPk 0) (mD (mC (.int 1))))) (mPk 5)))) (mIfS (mB (mOp (oInL true) (mD (mOp oIx (mPk 6) (mD (mC (.int 0))))) (mPk 2))) (mApp 2 (mD (mOp oIx (mPk 6) (mD (mC (.int 0)))))) (mNx))))
    (mIfS (mB (mOp oEq (mD (mCl cLen (mCons (mPk 2) (mNil)))) (mPk 4))) ((fun env => .ok .bk env : M Fl)) (mNx)))))
    (mRet (mD (mLc [5] (γN 5) (mRng1 (mCons (mD (mCl cLen (mCons (mD (mOp oIx (mPk 0) (mD (mC (.int 0))))) (mNil)))) (mNil))) (mB (mOp (oInL false) (mPk 5) (mPk 2))) (mD (mVar 5))))))
noncomputable def f_u_law_reached : List D → FR := runF 7 g_u_law_reached
noncomputable def g_reachable : M Fl :=
    mSeq (mAsg (γT 2 (γCons (γN 4) (γCons (γN 5) (γNil)))) (mD (mVar 0)))
    (mSeq (mSet 2 (mDisp1 (mPk 1) (mD (mC (.bl true)))))
    (mSeq (mSet 3 (mLst (mCons (mD (mVar 1)) (mNil))))
    (mSeq (mWh (mB (mOp oGt (mD (mCl cLen (mCons (mPk 3) (mNil)))) (mD (mC (.int 0))))) (mSeq (mPop 3 6)
    (mFor (γT 2 (γCons (γN 7) (γCons (γN 4) (γNil)))) (mIt (mD (mOp oIx (mPk 5) (mPk 6)))) (mIfS (mB (mOp (oInK true) (mPk 7) (mPk 2))) (mSeq (mPutK 2 (mPk 7) (mD (mC (.bl true))))
    (mApp 3 (mD (mVar 7)))) (mNx)))))
    (mRet (mD (mCl cTuple (mCons (mD (mCl cSort (mCons (mD (mCl cKeys (mCons (mPk 2) (mNil)))) (mNil)))) (mNil))))))))
noncomputable def f_reachable : List D → FR := runF 8 g_reachable
end Law
/-! ### reach -/
namespace Law
/-- what the start leads to -/
def Rch (T : Nat → List Nat) (s : Nat) (x : Nat) : Prop := ∀ S : Nat → Prop, S s → (∀ y, S y → ∀ t ∈ T y, S t) → S x
theorem Rch.start {T : Nat → List Nat} {s : Nat} : Rch T s s := fun _ h _ => h
theorem Rch.step {T : Nat → List Nat} {s x t : Nat} (h : Rch T s x) (ht : t ∈ T x) : Rch T s t := fun S h0 hs => hs x (h S h0 hs) t ht
/-- what has not been found is put behind both -/
def push (p : List Nat × List Nat) (t : Nat) : List Nat × List Nat := if t ∈ p.1 then p else (p.1 ++ [t], p.2 ++ [t])
structure Inv (T : Nat → List Nat) (n s : Nat) (f : List Nat) : Prop where
  nd : f.Nodup
  st : s ∈ f
  lt : ∀ x ∈ f, x < n
  rc : ∀ x ∈ f, Rch T s x
theorem Inv.len {T : Nat → List Nat} {n s : Nat} {f : List Nat} (h : Inv T n s f) : f.length ≤ n := by
  have := h.nd.length_le_of_subset (l₂ := List.range n) fun x hx => List.mem_range.mpr (h.lt x hx)
  rwa [List.length_range] at this
theorem Inv.push {T : Nat → List Nat} {n s t : Nat} {f w : List Nat} (h : Inv T n s f) (ht : t < n) (hr : Rch T s t) : Inv T n s (push (f, w) t).1 := by
  unfold Law.push
  by_cases hm : t ∈ f
  · rw [if_pos hm]; exact h
  · rw [if_neg hm]
    refine ⟨?_, List.mem_append_left _ h.st, fun x hx => ?_, fun x hx => ?_⟩
    · refine List.nodup_append.mpr ⟨h.nd, List.nodup_cons.mpr ⟨List.not_mem_nil, List.nodup_nil⟩, fun a ha b hb => ?_⟩
      rw [List.mem_singleton.mp hb]
      exact fun z => hm (z ▸ ha)
    · rcases List.mem_append.mp hx with z | z
      · exact h.lt x z
      · rw [List.mem_singleton.mp z]; exact ht
    · rcases List.mem_append.mp hx with z | z
      · exact h.rc x z
      · rw [List.mem_singleton.mp z]; exact hr
theorem push_sub {p : List Nat × List Nat} {t x : Nat} (h : x ∈ p.1) : x ∈ (push p t).1 := by
  unfold push
  by_cases hm : t ∈ p.1
  · rw [if_pos hm]; exact h
  · rw [if_neg hm]; exact List.mem_append_left _ h
theorem push_self {p : List Nat × List Nat} {t : Nat} : t ∈ (push p t).1 := by
  unfold push
  by_cases hm : t ∈ p.1
  · rw [if_pos hm]; exact hm
  · rw [if_neg hm]; exact List.mem_append_right _ List.mem_cons_self
theorem push_w {p : List Nat × List Nat} {t x : Nat} (h : x ∈ p.2) : x ∈ (push p t).2 := by
  unfold push
  by_cases hm : t ∈ p.1
  · rw [if_pos hm]; exact h
  · rw [if_neg hm]; exact List.mem_append_left _ h
/-- what is new waits -/
theorem push_new {p : List Nat × List Nat} {t x : Nat} (h : x ∈ (push p t).1) : x ∈ p.1 ∨ x ∈ (push p t).2 := by
  unfold push at *
  by_cases hm : t ∈ p.1
  · rw [if_pos hm] at h; exact .inl h
  · rw [if_neg hm] at h ⊢
    rcases List.mem_append.mp h with z | z
    · exact .inl z
    · exact .inr (List.mem_append_right _ z)
theorem push_len {p : List Nat × List Nat} {t : Nat} : (push p t).2.length + p.1.length = p.2.length + (push p t).1.length := by
  unfold push
  by_cases hm : t ∈ p.1
  · rw [if_pos hm]
  · rw [if_neg hm]; simp only [List.length_append, List.length_cons, List.length_nil]; omega
theorem pushes {T : Nat → List Nat} {n s : Nat} : ∀ {ts : List Nat} {p : List Nat × List Nat}, Inv T n s p.1 → (∀ t ∈ ts, t < n ∧ Rch T s t) →
    Inv T n s (ts.foldl push p).1 ∧ (∀ x ∈ p.1, x ∈ (ts.foldl push p).1) ∧ (∀ x ∈ p.2, x ∈ (ts.foldl push p).2) ∧ (∀ t ∈ ts, t ∈ (ts.foldl push p).1) ∧ (∀ x ∈ (ts.foldl push p).1, x ∈ p.1 ∨ x ∈ (ts.foldl push p).2) ∧ (ts.foldl push p).2.length + p.1.length = p.2.length + (ts.foldl push p).1.length
  | [], p, h, _ => ⟨h, fun _ z => z, fun _ z => z, (fun _ z => nomatch z), (fun _ z => Or.inl z), rfl⟩
  | t :: ts, p, h, ht => by
    obtain ⟨h1, h2⟩ := ht t List.mem_cons_self
    obtain ⟨a, b, c, d, e, g⟩ := pushes (ts := ts) (p := push p t) (h.push h1 h2) fun u hu => ht u (List.mem_cons_of_mem _ hu)
    rw [List.foldl_cons]
    refine ⟨a, fun x hx => b x (push_sub hx), fun x hx => c x (push_w hx), fun u hu => ?_, fun x hx => ?_, ?_⟩
    · rcases List.mem_cons.mp hu with z | z
      · rw [z]; exact b t push_self
      · exact d u z
    · rcases e x hx with z | z
      · rcases push_new z with y | y
        · exact .inl y
        · exact .inr (c x y)
      · exact .inr z
    · have := push_len (p := p) (t := t)
      omega
/-- what is known at the end -/
theorem push_in {p : List Nat × List Nat} {t : Nat} (h : ∀ x ∈ p.2, x ∈ p.1) : ∀ x ∈ (push p t).2, x ∈ (push p t).1 := by
  unfold push
  by_cases hm : t ∈ p.1
  · rw [if_pos hm]; exact h
  · rw [if_neg hm]
    intro x hx
    rcases List.mem_append.mp hx with z | z
    · exact List.mem_append_left _ (h x z)
    · exact List.mem_append_right _ z
theorem pushes_in : ∀ {ts : List Nat} {p : List Nat × List Nat}, (∀ x ∈ p.2, x ∈ p.1) → ∀ x ∈ (ts.foldl push p).2, x ∈ (ts.foldl push p).1
  | [], _, h => h
  | t :: ts, p, h => pushes_in (ts := ts) (push_in h)
/-- what is known at the end -/
structure All (T : Nat → List Nat) (n s : Nat) (f : List Nat) : Prop extends Inv T n s f where
  cl : ∀ x ∈ f, ∀ t ∈ T x, t ∈ f
theorem All.iff {T : Nat → List Nat} {n s x : Nat} {f : List Nat} (h : All T n s f) : x ∈ f ↔ Rch T s x :=
  ⟨h.rc x, fun r => r (· ∈ f) h.st h.cl⟩
open Classical in
/-- the states that are reached, ascending -/
noncomputable def reachL (T : Nat → List Nat) (n s : Nat) : List Nat := (List.range n).filter fun x => decide (Rch T s x)
theorem All.perm {T : Nat → List Nat} {n s : Nat} {f : List Nat} (h : All T n s f) : (reachL T n s).Perm f := by
  classical
  refine (List.perm_ext_iff_of_nodup ?_ h.nd).mpr fun x => ?_
  · exact List.nodup_range.sublist List.filter_sublist
  · unfold reachL
    rw [List.mem_filter, h.iff, List.mem_range, decide_eq_true_eq]
    exact ⟨fun z => z.2, fun z => ⟨h.lt x (h.iff.mpr z), z⟩⟩
theorem reachL_asc {T : Nat → List Nat} {n s : Nat} : (reachL T n s).Pairwise (· < ·) := List.pairwise_lt_range.filter _
theorem All.filter {T : Nat → List Nat} {n s : Nat} {f : List Nat} (h : All T n s f) : (List.range n).filter (fun x => decide (x ∈ f)) = reachL T n s := by
  classical
  unfold reachL
  refine List.filter_congr fun x _ => ?_
  rw [Bool.eq_iff_iff, decide_eq_true_eq, decide_eq_true_eq, h.iff]
end Law
namespace Law
open PySem PySem.Spec PyProof.Rows L2 Evl Iv

def nI (x : Nat) : D := .int (x : Int)
def kI (x : Nat) : Key := .inl (x : Int)
def pD (p : Nat × D) : D := .tup [nI p.1, p.2]
def rowD (r : List (Nat × D)) : D := .tup (r.map pD)
theorem look_kI {x : Nat} : ∀ f : List Nat, (lookD (f.map kI) (f.map fun _ => D.bl true) (kI x)).isSome = decide (x ∈ f)
  | [] => rfl
  | y :: f => by
    show (if kI y = kI x then some (D.bl true) else lookD (f.map kI) (f.map fun _ => D.bl true) (kI x)).isSome = _
    by_cases h : y = x
    · subst h; simp
    · have : ¬ kI y = kI x := fun z => by
        have := Sum.inl.inj z
        omega
      rw [if_neg this, look_kI f]
      simp [Ne.symm h, show ¬ x = y from fun z => h z.symm]
theorem any_kI {x : Nat} {f : List Nat} (h : x ∉ f) : ((f.map kI).any fun k' => decide (k' = kI x)) = false := by
  rw [List.any_eq_false]
  intro k hk
  obtain ⟨y, hy, rfl⟩ := List.mem_map.mp hk
  rw [decide_eq_true_eq]
  intro z
  have := Sum.inl.inj z
  exact h (by rwa [show x = y by omega])
def rEnv (gm mv : D) (s : Nat) (f w : List Nat) (s4 s6 s7 : Sl) : En := [.fr gm, .fr (nI s), .od (f.map kI) (f.map fun _ => D.bl true), .ow (w.map nI), s4, .fr mv, s6, s7]
noncomputable def rIn : M Fl := (mIfS (mB (mOp (oInK true) (mPk 7) (mPk 2))) (mSeq (mPutK 2 (mPk 7) (mD (mC (.bl true)))) (mApp 3 (mD (mVar 7)))) (mNx))
noncomputable def rFor : M Fl := (mFor (γT 2 (γCons (γN 7) (γCons (γN 4) (γNil)))) (mIt (mD (mOp oIx (mPk 5) (mPk 6)))) rIn)
theorem rIn_eq {gm mv : D} {s t : Nat} {f w : List Nat} {s4 s6 : Sl} (hf : f.length < 90000) (hw : w.length < 90000) :
    rIn (rEnv gm mv s f w s4 s6 (.fr (nI t))) = .ok .nx (rEnv gm mv s (push (f, w) t).1 (push (f, w) t).2 s4 s6 (.fr (nI t))) := by
  have lk : oInK true (nI t) (.dct (f.map kI) (f.map fun _ => D.bl true)) = some (.d (.bl (!decide (t ∈ f)))) := by
    show some (Sv.d (.bl (!(lookD (f.map kI) (f.map fun _ => D.bl true) (kI t)).isSome))) = _
    rw [look_kI]
  unfold push rEnv
  by_cases h : t ∈ f
  · simp [rIn, lk, h]
  · have an := any_kI h
    have kd : keyD (nI t) = some (kI t) := rfl
    have l1 : (f.map kI).length < 90000 := by simpa using hf
    have l2 : (w.map nI).length < 90000 := by simpa using hw
    simp only [if_neg h, List.map_append, List.map_cons, List.map_nil]
    generalize f.map kI = ks at *
    generalize w.map nI = ws at *
    generalize (f.map fun _ => D.bl true) = ds at *
    simp [rIn, lk, h, mPutK, odAt, kd, an, l1, l2]
theorem rFor_go {gm mv : D} {s : Nat} {s6 : Sl} : ∀ (r : List (Nat × D)) (f w : List Nat) (s4 s7 : Sl), f.length + r.length < 90000 → w.length + r.length < 90000 →
    ∃ s4' s7', forL (γT 2 (γCons (γN 7) (γCons (γN 4) (γNil)))) rIn (r.map pD) (rEnv gm mv s f w s4 s6 s7) = .ok .nx (rEnv gm mv s ((r.map (·.1)).foldl push (f, w)).1 ((r.map (·.1)).foldl push (f, w)).2 s4' s6 s7')
  | [], f, w, s4, s7, _, _ => ⟨s4, s7, rfl⟩
  | p :: r, f, w, s4, s7, h1, h2 => by
    rw [List.length_cons] at h1 h2
    have st := rIn_eq (gm := gm) (mv := mv) (s := s) (t := p.1) (f := f) (w := w) (s4 := .fr p.2) (s6 := s6) (by omega) (by omega)
    have lp : (push (f, w) p.1).1.length ≤ f.length + 1 ∧ (push (f, w) p.1).2.length ≤ w.length + 1 := by
      unfold push
      by_cases hm : p.1 ∈ f <;> simp [hm]
    obtain ⟨s4', s7', ih⟩ := rFor_go r (push (f, w) p.1).1 (push (f, w) p.1).2 (.fr p.2) (.fr (nI p.1)) (by omega) (by omega)
    refine ⟨s4', s7', ?_⟩
    rw [List.map_cons, List.map_cons, List.foldl_cons, forL_cons]
    have g : γT 2 (γCons (γN 7) (γCons (γN 4) (γNil))) (pD p) (rEnv gm mv s f w s4 s6 s7) = some (rEnv gm mv s f w (.fr p.2) s6 (.fr (nI p.1))) := rfl
    rw [g]
    dsimp only
    rw [st]
    exact ih
noncomputable def rCond : M Bool := (mB (mOp oGt (mD (mCl cLen (mCons (mPk 3) (mNil)))) (mD (mC (.int 0)))))
noncomputable def rBody : M Fl := (mSeq (mPop 3 6) rFor)
theorem rWh_go {gm rs : D} {rows : List (List (Nat × D))} {s n : Nat} {T : Nat → List Nat} (hT : T = fun x => (rows.getD x []).map (·.1)) (hn : rows.length = n) (hn9 : n ≤ 1000) (hr : ∀ r ∈ rows, r.length ≤ 1000 ∧ ∀ p ∈ r, p.1 < n) :
    ∀ (m : Nat) (f w : List Nat) (s4 s6 s7 : Sl), Inv T n s f → (∀ x ∈ w, x ∈ f) → (∀ x ∈ f, x ∉ w → ∀ t ∈ T x, t ∈ f) → 2 * (n - f.length) + w.length ≤ m → w.length ≤ f.length →
    ∃ k f' s4' s6' s7', whN rCond rBody k (rEnv gm (.tup (rows.map rowD)) s f w s4 s6 s7) = .ok .nx (rEnv gm (.tup (rows.map rowD)) s f' [] s4' s6' s7') ∧ All T n s f' := fun m => by
  induction m with
  | zero =>
    intro f w s4 s6 s7 hi hw hc hm hl
    obtain rfl : w = [] := List.length_eq_zero_iff.mp (by omega)
    exact ⟨1, f, s4, s6, s7, by simp [whN, rCond, rEnv], hi, fun x hx => hc x hx List.not_mem_nil⟩
  | succ m ih =>
    intro f w s4 s6 s7 hi hw hc hm hl
    rcases List.eq_nil_or_concat w with rfl | ⟨w, h, rfl⟩
    · exact ⟨1, f, s4, s6, s7, by simp [whN, rCond, rEnv], hi, fun x hx => hc x hx List.not_mem_nil⟩
    · rw [List.concat_eq_append] at *
      have hh := hw h (List.mem_append_right _ List.mem_cons_self)
      have hlt := hi.lt h hh
      have hg : rows[h]? = some rows[h] := List.getElem?_eq_getElem (by omega)
      have hrow := hr rows[h] (List.mem_of_getElem? hg)
      have Th : T h = rows[h].map (·.1) := by
        rw [hT]
        dsimp only
        rw [List.getD_eq_getElem?_getD, hg]
        rfl
      have tl : (rows[h].map (·.1)).length = rows[h].length := List.length_map ..
      obtain ⟨a, b, c, d, e, g⟩ := pushes (p := (f, w)) (ts := T h) hi fun t ht => by
        refine ⟨?_, (hi.rc h hh).step ht⟩
        rw [Th] at ht
        obtain ⟨p, hp, rfl⟩ := List.mem_map.mp ht
        exact hrow.2 p hp
      have fl := a.len
      have f0 := hi.len
      have f1 : f.length ≤ ((T h).foldl push (f, w)).1.length := hi.nd.length_le_of_subset fun x hx => b x hx
      simp only [List.length_append, List.length_cons, List.length_nil] at hm hl
      dsimp only at b c e g
      obtain ⟨s4', s7', fg⟩ := rFor_go (gm := gm) (mv := .tup (rows.map rowD)) (s := s) (s6 := .fr (nI h)) rows[h] f w s4 s7 (by omega) (by omega)
      rw [← Th] at fg
      have c1 : ∀ x ∈ ((T h).foldl push (f, w)).2, x ∈ ((T h).foldl push (f, w)).1 := pushes_in (p := (f, w)) (ts := T h) (fun y hy => hw y (List.mem_append_left _ hy))
      have c2 : ∀ x ∈ ((T h).foldl push (f, w)).1, x ∉ ((T h).foldl push (f, w)).2 → ∀ t ∈ T x, t ∈ ((T h).foldl push (f, w)).1 := fun x hx nx t ht => by
        rcases e x hx with z | z
        · by_cases hxh : x = h
          · subst hxh
            exact d t ht
          · refine b t (hc x z (fun y => ?_) t ht)
            rcases List.mem_append.mp y with y | y
            · exact nx (c x y)
            · exact hxh (List.mem_singleton.mp y)
        · exact absurd z nx
      obtain ⟨k, f', t4, t6, t7, q1, q2⟩ := ih ((T h).foldl push (f, w)).1 ((T h).foldl push (f, w)).2 s4' (.fr (nI h)) s7' a c1 c2 (by omega) (by omega)
      · refine ⟨k + 1, f', t4, t6, t7, ?_, q2⟩
        have cnd : rCond (rEnv gm (.tup (rows.map rowD)) s f (w ++ [h]) s4 s6 s7) = .ok true (rEnv gm (.tup (rows.map rowD)) s f (w ++ [h]) s4 s6 s7) := by
          simp [rCond, rEnv]
        have pop : mPop 3 6 (rEnv gm (.tup (rows.map rowD)) s f (w ++ [h]) s4 s6 s7) = .ok .nx (rEnv gm (.tup (rows.map rowD)) s f w s4 (.fr (nI h)) s7) := by
          simp [mPop, rEnv]
        have src : mIt (mD (mOp oIx (mPk 5) (mPk 6))) (rEnv gm (.tup (rows.map rowD)) s f w s4 (.fr (nI h)) s7) = .ok (rows[h].map pD) (rEnv gm (.tup (rows.map rowD)) s f w s4 (.fr (nI h)) s7) := by
          have at_ : atI (rows.map rowD) (h : Int) = some (rowD rows[h]) := by
            rw [atI_nat', List.getElem?_map, hg]
            rfl
          have ix : oIx (.tup (rows.map rowD)) (nI h) = some (.d (rowD rows[h])) := by
            show (atI _ _).map Sv.d = _
            rw [at_]
            rfl
          have it : itemsOf (rowD rows[h]) = some (rows[h].map pD) := rfl
          generalize rowD rows[h] = rd at *
          generalize rows.map rowD = rr at *
          simp [rEnv, ix, it]
        have body : rBody (rEnv gm (.tup (rows.map rowD)) s f (w ++ [h]) s4 s6 s7) = .ok .nx (rEnv gm (.tup (rows.map rowD)) s ((T h).foldl push (f, w)).1 ((T h).foldl push (f, w)).2 s4' (.fr (nI h)) s7') := by
          unfold rBody
          rw [mSeq_eq, pop]
          dsimp only
          unfold rFor
          rw [mFor_eq, src, Res.bind_ok, fg]
        rw [whN, cnd]
        dsimp only
        rw [body]
        exact q1
end Law
namespace Law
open PySem PySem.Spec PyProof.Rows L2 Evl Iv
/-- what a game's rows lead to -/
def tgs (rows : List (List (Nat × D))) (x : Nat) : List Nat := (rows.getD x []).map (·.1)
theorem sorted_eq {T : Nat → List Nat} {n s : Nat} {f : List Nat} (h : All T n s f) : cSort [.lst (f.map nI)] = some (.l ((reachL T n s).map nI)) := by
  have e : f.map nI = (f.map fun x : Nat => (x : Int)).map D.int := by rw [List.map_map]; rfl
  show (intsOf (f.map nI)).map _ = _
  rw [e, intsOf_map]
  have hs := sort_one (ns := f.map fun x : Nat => (x : Int)) (ns' := (reachL T n s).map fun x : Nat => (x : Int)) (h.perm.map _) (by
    rw [List.pairwise_map]
    exact reachL_asc.imp fun z => by omega)
  show some (Sv.l (((f.map fun x : Nat => (x : Int)).mergeSort leI).map D.int)) = _
  rw [← hs, List.map_map]
  rfl
theorem reachable_eq {rs : D} {rows : List (List (Nat × D))} {s n : Nat} (hn : rows.length = n) (hn9 : n ≤ 1000) (hr : ∀ r ∈ rows, r.length ≤ 1000 ∧ ∀ p ∈ r, p.1 < n) (hs : s < n) :
    f_reachable [.tup [rs, .tup (rows.map rowD)], nI s] = .ok (.tup ((reachL (tgs rows) n s).map nI)) := by
  have i0 : Inv (tgs rows) n s [s] := ⟨List.nodup_cons.mpr ⟨List.not_mem_nil, List.nodup_nil⟩, List.mem_cons_self, fun x hx => by rw [List.mem_singleton.mp hx]; exact hs, fun x hx => by rw [List.mem_singleton.mp hx]; exact Rch.start⟩
  obtain ⟨k, f, s4, s6, s7, e, hf⟩ := rWh_go (gm := .tup [rs, .tup (rows.map rowD)]) (rs := rs) (rows := rows) (s := s) (n := n) (T := tgs rows) rfl hn hn9 hr (2 * n) [s] [s] (.fr rs) .un .un i0 (fun x hx => hx) (fun x hx nx => absurd hx nx) (by simp; omega) (by simp)
  have w := mWh_eq e (fun z => nomatch z)
  have ck : cKeys [.dct (f.map kI) (f.map fun _ => D.bl true)] = some (.l (f.map nI)) := by
    show some (Sv.l ((f.map kI).map kD)) = _
    rw [List.map_map]
    rfl
  have so := sorted_eq hf
  unfold f_reachable g_reachable
  have kd : keyD (nI s) = some (kI s) := rfl
  unfold rEnv rCond rBody rFor rIn at w
  simp only [List.map_cons, List.map_nil] at w
  generalize (.tup (rows.map rowD) : D) = mv at *
  generalize (reachL (tgs rows) n s).map nI = rl at *
  generalize f.map kI = ks at *
  generalize (f.map fun _ => D.bl true) = ds at *
  generalize f.map nI = fl at *
  generalize nI s = ss at *
  generalize kI s = sk at *
  simp [mDisp1, kd, w, ck, so]
/-! ### the law's own walk -/
def adds (f : List Nat) (t : Nat) : List Nat := if t ∈ f then f else f ++ [t]
theorem adds_push {f : List Nat} {t : Nat} : (push (f, []) t).1 = adds f t := by
  unfold adds push
  by_cases h : t ∈ f
  · rw [if_pos h, if_pos h]
  · rw [if_neg h, if_neg h]
theorem inV_nI {x : Nat} : ∀ l : List Nat, inV (.int (x : Int)) (l.map fun y : Nat => V.int (y : Int)) = decide (x ∈ l)
  | [] => rfl
  | y :: l => by
    show ((y : Int) == (x : Int) || inV (.int (x : Int)) (l.map fun y : Nat => V.int (y : Int))) = _
    rw [inV_nI l]
    by_cases h : y = x
    · subst h; simp
    · have e1 : ((y : Int) == (x : Int)) = false := beq_eq_false_iff_ne.mpr (by omega)
      have e2 : ¬ x = y := fun z => h z.symm
      rw [e1]
      simp [e2]
theorem flVs_nI : ∀ l : List Nat, flVs (l.map nI) = some (l.map fun y : Nat => V.int (y : Int))
  | [] => rfl
  | y :: l => by
    rw [List.map_cons]
    unfold flVs
    rw [flVs_nI l]
    rfl
theorem inL_nI {neg : Bool} {x : Nat} {l : List Nat} : oInL neg (nI x) (.lst (l.map nI)) = some (.d (.bl (if neg then !decide (x ∈ l) else decide (x ∈ l)))) := by
  unfold oInL
  have e : flV (nI x) = some (.int (x : Int)) := rfl
  dsimp only
  rw [flVs_nI, e]
  dsimp only
  rw [inV_nI]
def lEnv (gm : D) (s : Nat) (f : List Nat) (s3 s4 s5 s6 : Sl) : En := [.fr gm, .fr (nI s), .ow (f.map nI), s3, s4, s5, s6]
noncomputable def lIn : M Fl := (mIfS (mB (mOp (oInL true) (mD (mOp oIx (mPk 6) (mD (mC (.int 0))))) (mPk 2))) (mApp 2 (mD (mOp oIx (mPk 6) (mD (mC (.int 0)))))) (mNx))
noncomputable def lFor : M Fl := (mFor (γN 6) (mIt (mD (mOp oIx (mD (mOp oIx (mPk 0) (mD (mC (.int 1))))) (mPk 5)))) lIn)
theorem lIn_eq {gm : D} {s : Nat} {f : List Nat} {s3 s4 s5 : Sl} {p : Nat × D} (hf : f.length < 90000) : lIn (lEnv gm s f s3 s4 s5 (.fr (pD p))) = .ok .nx (lEnv gm s (adds f p.1) s3 s4 s5 (.fr (pD p))) := by
  have ii := inL_nI (neg := true) (x := p.1) (l := f)
  have i0 : oIx (pD p) (.int 0) = some (.d (nI p.1)) := rfl
  have l1 : (f.map nI).length < 90000 := by simpa using hf
  unfold adds lEnv
  by_cases h : p.1 ∈ f
  · simp [lIn, i0, ii, h]
  · simp only [if_neg h, List.map_append, List.map_cons, List.map_nil]
    generalize f.map nI = fl at *
    generalize pD p = pp at *
    generalize nI p.1 = p1 at *
    simp [lIn, i0, ii, h, l1]
theorem lFor_go {gm : D} {s : Nat} {s3 s4 s5 : Sl} : ∀ (r : List (Nat × D)) (f : List Nat) (s6 : Sl), f.length + r.length < 90000 →
    ∃ s6', forL (γN 6) lIn (r.map pD) (lEnv gm s f s3 s4 s5 s6) = .ok .nx (lEnv gm s ((r.map (·.1)).foldl adds f) s3 s4 s5 s6')
  | [], f, s6, _ => ⟨s6, rfl⟩
  | p :: r, f, s6, h1 => by
    rw [List.length_cons] at h1
    have la : (adds f p.1).length ≤ f.length + 1 := by
      unfold adds
      by_cases hm : p.1 ∈ f <;> simp [hm]
    obtain ⟨s6', ih⟩ := lFor_go r (adds f p.1) (.fr (pD p)) (by omega)
    refine ⟨s6', ?_⟩
    rw [List.map_cons, List.map_cons, List.foldl_cons, forL_cons]
    have g : γN 6 (pD p) (lEnv gm s f s3 s4 s5 s6) = some (lEnv gm s f s3 s4 s5 (.fr (pD p))) := rfl
    rw [g]
    dsimp only
    rw [lIn_eq (by omega)]
    exact ih
/-- one round: all that is known is looked at -/
def roundL (T : Nat → List Nat) (l f : List Nat) : List Nat := l.foldl (fun a x => (T x).foldl adds a) f
theorem Inv.adds {T : Nat → List Nat} {n s : Nat} : ∀ {ts f : List Nat}, Inv T n s f → (∀ t ∈ ts, t < n ∧ Rch T s t) → Inv T n s (ts.foldl adds f) ∧ (∀ t ∈ ts, t ∈ ts.foldl adds f) ∧ ∃ e, ts.foldl adds f = f ++ e
  | [], f, h, _ => ⟨h, (fun _ z => nomatch z), [], (List.append_nil f).symm⟩
  | t :: ts, f, h, ht => by
    obtain ⟨h1, h2⟩ := ht t List.mem_cons_self
    obtain ⟨a, b, e, c⟩ := Inv.adds (ts := ts) (f := Law.adds f t) (by rw [← adds_push]; exact h.push (w := []) h1 h2) fun u hu => ht u (List.mem_cons_of_mem _ hu)
    rw [List.foldl_cons]
    have pre : ∃ e0, Law.adds f t = f ++ e0 := by
      unfold Law.adds
      by_cases hm : t ∈ f
      · exact ⟨[], by rw [if_pos hm, List.append_nil]⟩
      · exact ⟨[t], by rw [if_neg hm]⟩
    obtain ⟨e0, he0⟩ := pre
    refine ⟨a, fun u hu => ?_, e0 ++ e, by rw [c, he0, List.append_assoc]⟩
    rcases List.mem_cons.mp hu with z | z
    · rw [z, c]
      rw [← adds_push]
      exact List.mem_append_left _ (push_self (p := (f, [])) (t := t))
    · exact b u z
theorem round_inv {T : Nat → List Nat} {n s : Nat} (hT : ∀ x < n, ∀ t ∈ T x, t < n) : ∀ {l f : List Nat}, Inv T n s f → (∀ x ∈ l, x < n ∧ Rch T s x) → Inv T n s (roundL T l f) ∧ (∀ x ∈ l, ∀ t ∈ T x, t ∈ roundL T l f) ∧ ∃ e, roundL T l f = f ++ e
  | [], f, h, _ => ⟨h, (fun _ z => nomatch z), [], (List.append_nil f).symm⟩
  | x :: l, f, h, hx => by
    obtain ⟨h1, h2⟩ := hx x List.mem_cons_self
    obtain ⟨a, b, e, c⟩ := Inv.adds (ts := T x) h fun t ht => ⟨hT x h1 t ht, h2.step ht⟩
    obtain ⟨a', b', e', c'⟩ := round_inv hT (l := l) (f := (T x).foldl Law.adds f) a fun u hu => hx u (List.mem_cons_of_mem _ hu)
    have er : roundL T (x :: l) f = roundL T l ((T x).foldl Law.adds f) := rfl
    rw [er]
    refine ⟨a', fun u hu t ht => ?_, e ++ e', by rw [c', c, List.append_assoc]⟩
    rcases List.mem_cons.mp hu with z | z
    · subst z
      rw [c']
      exact List.mem_append_left _ (b t ht)
    · exact b' u z t ht
/-- all rounds -/
theorem lRound_go {gm rs : D} {rows : List (List (Nat × D))} {s n : Nat} (hg : gm = .tup [rs, .tup (rows.map rowD)]) (hn : rows.length = n) (hn9 : n ≤ 1000) (hr : ∀ r ∈ rows, r.length ≤ 1000 ∧ ∀ p ∈ r, p.1 < n) {s3 s4 : Sl} :
    ∀ (l f : List Nat) (s5 s6 : Sl), Inv (tgs rows) n s f → (∀ x ∈ l, x < n ∧ Rch (tgs rows) s x) →
    ∃ s5' s6', forL (γN 5) lFor (l.map nI) (lEnv gm s f s3 s4 s5 s6) = .ok .nx (lEnv gm s (roundL (tgs rows) l f) s3 s4 s5' s6')
  | [], f, s5, s6, _, _ => ⟨s5, s6, rfl⟩
  | x :: l, f, s5, s6, h, hx => by
    obtain ⟨h1, h2⟩ := hx x List.mem_cons_self
    have hgx : rows[x]? = some rows[x] := List.getElem?_eq_getElem (by omega)
    have hrow := hr rows[x] (List.mem_of_getElem? hgx)
    have Tx : tgs rows x = rows[x].map (·.1) := by
      unfold tgs
      rw [List.getD_eq_getElem?_getD, hgx]
      rfl
    have fl := h.len
    obtain ⟨a, b, e, c⟩ := Inv.adds (ts := tgs rows x) h fun t ht => ⟨by
      rw [Tx] at ht
      obtain ⟨p, hp, rfl⟩ := List.mem_map.mp ht
      exact hrow.2 p hp, h2.step ht⟩
    obtain ⟨s6', e1⟩ := lFor_go (gm := gm) (s := s) (s3 := s3) (s4 := s4) (s5 := .fr (nI x)) rows[x] f s6 (by omega)
    rw [← Tx] at e1
    obtain ⟨t5, t6, e2⟩ := lRound_go hg hn hn9 hr (s3 := s3) (s4 := s4) l ((tgs rows x).foldl adds f) (.fr (nI x)) s6' a fun u hu => hx u (List.mem_cons_of_mem _ hu)
    refine ⟨t5, t6, ?_⟩
    rw [List.map_cons, forL_cons]
    have g : γN 5 (nI x) (lEnv gm s f s3 s4 s5 s6) = some (lEnv gm s f s3 s4 (.fr (nI x)) s6) := rfl
    rw [g]
    dsimp only
    have src : mIt (mD (mOp oIx (mD (mOp oIx (mPk 0) (mD (mC (.int 1))))) (mPk 5))) (lEnv gm s f s3 s4 (.fr (nI x)) s6) = .ok (rows[x].map pD) (lEnv gm s f s3 s4 (.fr (nI x)) s6) := by
      have at_ : oIx (.tup (rows.map rowD)) (nI x) = some (.d (rowD rows[x])) := by
        show (atI (rows.map rowD) (x : Int)).map Sv.d = _
        rw [atI_nat', List.getElem?_map, hgx]
        rfl
      have it : itemsOf (rowD rows[x]) = some (rows[x].map pD) := rfl
      rw [hg]
      generalize rowD rows[x] = rd at *
      generalize (.tup (rows.map rowD) : D) = rr at *
      generalize nI x = nx at *
      simp [lEnv, at_, it]
    have body : lFor (lEnv gm s f s3 s4 (.fr (nI x)) s6) = .ok .nx (lEnv gm s ((tgs rows x).foldl adds f) s3 s4 (.fr (nI x)) s6') := by
      unfold lFor
      rw [mFor_eq, src, Res.bind_ok, e1]
    rw [body]
    exact e2
noncomputable def lBody : M Fl := (mSeq (mSet 4 (mCl cLen (mCons (mPk 2) (mNil))))
    (mSeq (mFor (γN 5) (mIt (mD (mCl cList (mCons (mPk 2) (mNil))))) lFor)
    (mIfS (mB (mOp oEq (mD (mCl cLen (mCons (mPk 2) (mNil)))) (mPk 4))) ((fun env => .ok .bk env : M Fl)) (mNx))))
theorem lAll_go {gm rs : D} {rows : List (List (Nat × D))} {s n : Nat} (hg : gm = .tup [rs, .tup (rows.map rowD)]) (hn : rows.length = n) (hn9 : n ≤ 1000) (hr : ∀ r ∈ rows, r.length ≤ 1000 ∧ ∀ p ∈ r, p.1 < n) :
    ∀ (xs : List D) (f : List Nat) (s3 s4 s5 s6 : Sl), Inv (tgs rows) n s f → n + 1 ≤ f.length + xs.length →
    ∃ f' s3' s4' s5' s6', forL (γN 3) lBody xs (lEnv gm s f s3 s4 s5 s6) = .ok .nx (lEnv gm s f' s3' s4' s5' s6') ∧ All (tgs rows) n s f'
  | [], f, s3, s4, s5, s6, h, hl => by
    have := h.len
    simp only [List.length_nil] at hl
    omega
  | x :: xs, f, s3, s4, s5, s6, h, hl => by
    have fl := h.len
    rw [List.length_cons] at hl
    have hT : ∀ x < n, ∀ t ∈ tgs rows x, t < n := fun y hy t ht => by
      unfold tgs at ht
      have hgx : rows[y]? = some rows[y] := List.getElem?_eq_getElem (by omega)
      rw [List.getD_eq_getElem?_getD, hgx] at ht
      obtain ⟨p, hp, rfl⟩ := List.mem_map.mp ht
      exact (hr rows[y] (List.mem_of_getElem? hgx)).2 p hp
    have hx : ∀ x ∈ f, x < n ∧ Rch (tgs rows) s x := fun x hx => ⟨h.lt x hx, h.rc x hx⟩
    obtain ⟨a, b, e, c⟩ := round_inv hT (l := f) h hx
    obtain ⟨t5, t6, e1⟩ := lRound_go hg hn hn9 hr (s3 := .fr x) (s4 := .fr (nI f.length)) f f s5 s6 h hx
    have g : γN 3 x (lEnv gm s f s3 s4 s5 s6) = some (lEnv gm s f (.fr x) s4 s5 s6) := rfl
    rw [forL_cons, g]
    dsimp only
    have p1 : ∀ g, mSeq (mSet 4 (mCl cLen (mCons (mPk 2) (mNil)))) g (lEnv gm s f (.fr x) s4 s5 s6) = g (lEnv gm s f (.fr x) (.fr (nI f.length)) s5 s6) := fun g => by
      simp [lEnv, nI]
    have p2 : ∀ g, mSeq (mFor (γN 5) (mIt (mD (mCl cList (mCons (mPk 2) (mNil))))) lFor) g (lEnv gm s f (.fr x) (.fr (nI f.length)) s5 s6) = g (lEnv gm s (roundL (tgs rows) f f) (.fr x) (.fr (nI f.length)) t5 t6) := fun g => by
      have src : mIt (mD (mCl cList (mCons (mPk 2) (mNil)))) (lEnv gm s f (.fr x) (.fr (nI f.length)) s5 s6) = .ok (f.map nI) (lEnv gm s f (.fr x) (.fr (nI f.length)) s5 s6) := by
        simp [lEnv]
      rw [mSeq_eq, mFor_eq, src, Res.bind_ok, e1]
    unfold lBody
    rw [p1, p2]
    by_cases hq : (roundL (tgs rows) f f).length = f.length
    · have en : e = [] := by
        rw [c, List.length_append] at hq
        exact List.length_eq_zero_iff.mp (by omega)
      rw [en, List.append_nil] at c
      refine ⟨f, .fr x, .fr (nI f.length), t5, t6, ?_, h, fun y hy t ht => ?_⟩
      · rw [c]
        simp [lEnv, nI]
      · have := b y hy t ht
        rwa [c] at this
    · have q2 : ((roundL (tgs rows) f f).length : Int) ≠ (f.length : Int) := by omega
      obtain ⟨f', u3, u4, u5, u6, i1, i2⟩ := lAll_go hg hn hn9 hr xs (roundL (tgs rows) f f) (.fr x) (.fr (nI f.length)) t5 t6 a (by
        rw [c, List.length_append] at hq ⊢
        omega)
      refine ⟨f', u3, u4, u5, u6, ?_, i2⟩
      rw [← i1]
      simp [lEnv, nI, q2, hq]
      rfl
theorem upN {n : Nat} : Iv.upTo 0 n = (List.range n).map nI := by
  unfold Iv.upTo
  exact List.map_congr_left fun k _ => by rw [Int.zero_add]; rfl
theorem reached_eq {rl : List D} {rows : List (List (Nat × D))} {s n : Nat} (hl : rl.length = n) (hn : rows.length = n) (hn9 : n ≤ 1000) (hr : ∀ r ∈ rows, r.length ≤ 1000 ∧ ∀ p ∈ r, p.1 < n) (hs : s < n) :
    f_u_law_reached [.tup [.tup rl, .tup (rows.map rowD)], nI s] = .ok (.lst ((reachL (tgs rows) n s).map nI)) := by
  have i0 : Inv (tgs rows) n s [s] := ⟨List.nodup_cons.mpr ⟨List.not_mem_nil, List.nodup_nil⟩, List.mem_cons_self, fun x hx => by rw [List.mem_singleton.mp hx]; exact hs, fun x hx => by rw [List.mem_singleton.mp hx]; exact Rch.start⟩
  have h90 : (Iv.upTo 0 n).length ≤ 90000 := by rw [upTo_len]; omega
  obtain ⟨f, s3, s4, s5, s6, e, hf⟩ := lAll_go (gm := .tup [.tup rl, .tup (rows.map rowD)]) (rs := .tup rl) (s := s) rfl hn hn9 hr (Iv.upTo 0 n) [s] .un .un .un .un i0 (by rw [upTo_len]; simp; omega)
  have hsm : small (n : Int) = true := small_nat (by omega)
  have cm : compL [5] (γN 5) (mB (mOp (oInL false) (mPk 5) (mPk 2))) (mD (mVar 5)) (Iv.upTo 0 n) [] (lEnv (.tup [.tup rl, .tup (rows.map rowD)]) s f s3 s4 .un s6) = .ok ((reachL (tgs rows) n s).map nI) (lEnv (.tup [.tup rl, .tup (rows.map rowD)]) s f s3 s4 .un s6) := by
    rw [upN]
    have := compL_filter (vs := [5]) (γ := γN 5) (cond := mB (mOp (oInL false) (mPk 5) (mPk 2))) (elt := mD (mVar 5)) (env := lEnv (.tup [.tup rl, .tup (rows.map rowD)]) s f s3 s4 .un s6) (h := id) (p := fun d => match d with | .int i => decide (i.toNat ∈ f) | _ => false) (xs := (List.range n).map nI) (acc := []) (fun d hd => by
      obtain ⟨x, hx, rfl⟩ := List.mem_map.mp hd
      have ii := inL_nI (neg := false) (x := x) (l := f)
      refine ⟨lEnv (.tup [.tup rl, .tup (rows.map rowD)]) s f s3 s4 (.fr (nI x)) s6, lEnv (.tup [.tup rl, .tup (rows.map rowD)]) s f s3 s4 (.fr (nI x)) s6, rfl, ?_, fun _ => ⟨lEnv (.tup [.tup rl, .tup (rows.map rowD)]) s f s3 s4 (.fr (nI x)) s6, rfl, rfl⟩, fun _ => rfl⟩
      have pp : (match nI x with | .int i => decide (i.toNat ∈ f) | _ => false) = decide (x ∈ f) := rfl
      rw [pp]
      generalize nI x = nx at *
      simp [lEnv, ii])
    rw [this, List.nil_append]
    congr 1
    rw [← hf.filter, List.filter_map, List.map_id]
    rfl
  unfold f_u_law_reached g_u_law_reached
  unfold lEnv lBody lFor lIn at e
  unfold lEnv at cm
  simp only [List.map_cons, List.map_nil] at e
  have l0 : cLen [.tup rl] = some (.d (.int (n : Int))) := by rw [← hl]; rfl
  generalize (reachL (tgs rows) n s).map nI = rr at *
  generalize (.tup (rows.map rowD) : D) = mv at *
  generalize f.map nI = fl at *
  generalize nI s = ss at *
  generalize (.tup rl : D) = rl' at *
  simp [l0, hsm, e, h90, cm]
end Law

set_option Elab.async false
set_option linter.all false
set_option maxHeartbeats 4000000
set_option maxRecDepth 100000
namespace Law
open PySem PySem.Spec PyProof.Rows L2 Evl Iv
theorem size_eq {i : Int} {B : Nat} (hi : i.natAbs < 2 ^ B) (hB : B ≤ 100000000) : ∃ n : Nat, 1 ≤ n ∧ n ≤ 24 ∧ f_u_law_size [.int i] = .ok (nI n) := by
  obtain ⟨ds, hd, e⟩ := draws_eq (n := 3) hi hB (by decide)
  obtain ⟨a, b, c, rfl⟩ : ∃ a b c, ds = [a, b, c] := by
    match ds, hd.1 with
    | [a, b, c], _ => exact ⟨a, b, c, rfl⟩
  have e : f_u_law_draws [.int i, .int 3] = .ok (.lst [.int a, .int b, .int c]) := e
  have m4 : oMod (.int a) (.int 4) = _ := oMod_int (by decide)
  have m24 : oMod (.int b) (.int 24) = _ := oMod_int (by decide)
  have m6 : oMod (.int b) (.int 6) = _ := oMod_int (by decide)
  have f24 := fm (i := b) (k := 24) (by decide)
  have f6 := fm (i := b) (k := 6) (by decide)
  have i0 : ∀ a b c : D, atI [a, b, c] 0 = some a := fun _ _ _ => rfl
  have i1 : ∀ a b c : D, atI [a, b, c] 1 = some b := fun _ _ _ => rfl
  simp only [Int.cast_ofNat_Int] at f24 f6
  by_cases hz : a.fmod 4 = 1
  · obtain ⟨n, hn⟩ := nat_of (i := 1 + b.fmod 24) (by omega)
    exact ⟨n, by omega, by omega, by unfold nI; rw [← hn]; simp [f_u_law_size, g_u_law_size, e, m4, hz, m24, i0, i1]⟩
  · obtain ⟨n, hn⟩ := nat_of (i := 1 + b.fmod 6) (by omega)
    exact ⟨n, by omega, by omega, by unfold nI; rw [← hn]; simp [f_u_law_size, g_u_law_size, e, m4, hz, m6, i0, i1]⟩
theorem fraction_eq {x : Int} : ∃ q, Sz 4 q ∧ f_u_law_fraction [.int x] = .ok (enc q) := by
  have m13 : oMod (.int x) (.int 13) = _ := oMod_int (by decide)
  have d13 : oDiv (.int x) (.int 13) = _ := oDiv_int (by decide)
  have m4 : oMod (.int (x.fdiv 13)) (.int 4) = _ := oMod_int (by decide)
  have f13 := fm (i := x) (k := 13) (by decide)
  have f4 := fm (i := x.fdiv 13) (k := 4) (by decide)
  simp only [Int.cast_ofNat_Int] at f13 f4
  have b4 : 0 ≤ (x.fdiv 13).fmod 4 ∧ (x.fdiv 13).fmod 4 < 4 := by omega
  generalize (x.fdiv 13).fmod 4 = d at *
  have hd : (1 + d : Int) ≠ 0 := by omega
  have lo := low_eq (n := x.fmod 13 - 6) hd
  exact ⟨Rat.divInt (x.fmod 13 - 6) (1 + d), divInt_sz hd (by omega) (by omega), by simp [f_u_law_fraction, g_u_law_fraction, m13, d13, m4, lo]⟩
/-- a comprehension over range(n) -/
theorem comp_n {f : M D} {env : En} {n j : Nat} {h : Nat → D} (H : ∀ k, k < n → ∃ e2, f (env.set j (.fr (.int (k : Int)))) = .ok (h k) e2 ∧ e2.set j .un = env) : compL [j] (γN j) mYes f (Iv.upTo 0 n) [] env = .ok ((List.range n).map h) env := by
  rw [upN]
  have := compL_map (enc := nI) (h := h) (vs := [j]) (γ := γN j) (cond := mYes) (elt := f) (env := env) (xs := List.range n) (acc := []) (fun k hk => by
    obtain ⟨e2, h1, h2⟩ := H k (List.mem_range.mp hk)
    exact ⟨_, _, e2, rfl, rfl, h1, h2⟩)
  rw [this]
  rfl
/-- a comprehension over range(n) with a test -/
theorem comp_if {f : M D} {c : M Bool} {env : En} {n j : Nat} {h : Nat → D} {p : Nat → Bool} (H : ∀ k, k < n → ∃ e1, c (env.set j (.fr (.int (k : Int)))) = .ok (p k) e1 ∧ (p k = true → ∃ e2, f e1 = .ok (h k) e2 ∧ e2.set j .un = env) ∧ (p k = false → e1.set j .un = env)) :
    compL [j] (γN j) c f (Iv.upTo 0 n) [] env = .ok (((List.range n).filter p).map h) env := by
  rw [upN]
  have tn : ∀ k : Nat, (match nI k with | .int i => i.toNat | _ => 0) = k := fun k => rfl
  have := compL_filter (vs := [j]) (γ := γN j) (cond := c) (elt := f) (env := env) (h := fun d => h (match d with | .int i => i.toNat | _ => 0)) (p := fun d => p (match d with | .int i => i.toNat | _ => 0)) (xs := (List.range n).map nI) (acc := []) (fun d hd => by
    obtain ⟨k, hk, rfl⟩ := List.mem_map.mp hd
    rw [tn]
    obtain ⟨e1, h1, h2, h3⟩ := H k (List.mem_range.mp hk)
    exact ⟨_, e1, rfl, h1, h2, h3⟩)
  rw [this, List.nil_append, List.filter_map, List.map_map]
  rfl
theorem atR {f : Nat → D} {n k : Nat} (h : k < n) : atI ((List.range n).map f) (k : Int) = some (f k) := by
  rw [atI_nat', List.getElem?_map, List.getElem?_range h]
  rfl
def gt (xs : List Int) (k : Nat) : Int := xs.getD k 0
theorem at_int {xs : List Int} {k : Nat} (h : k < xs.length) : atI (xs.map D.int) (k : Int) = some (.int (gt xs k)) := by
  unfold gt
  rw [atI_nat', List.getElem?_map, List.getD_eq_getElem?_getD, List.getElem?_eq_getElem h]
  rfl
theorem inV_int {x : Int} : ∀ l : List Int, inV (.int x) (l.map V.int) = decide (x ∈ l)
  | [] => rfl
  | y :: l => by
    show ((y : Int) == x || inV (.int x) (l.map V.int)) = _
    rw [inV_int l]
    by_cases h : y = x
    · subst h; simp
    · have e1 : (y == x) = false := beq_eq_false_iff_ne.mpr h
      have e2 : ¬ x = y := fun z => h z.symm
      rw [e1]
      simp [e2]
theorem flVs_int : ∀ l : List Int, flVs (l.map D.int) = some (l.map V.int)
  | [] => rfl
  | y :: l => by
    rw [List.map_cons]
    unfold flVs
    rw [flVs_int l]
    rfl
theorem inL_int {neg : Bool} {x : Int} {l : List Int} : oInL neg (.int x) (.lst (l.map D.int)) = some (.d (.bl (if neg then !decide (x ∈ l) else decide (x ∈ l)))) := by
  unfold oInL
  have e : flV (.int x) = some (.int x) := rfl
  dsimp only
  rw [flVs_int, e]
  dsimp only
  rw [inV_int]
/-- a row of the law's games -/
structure SRow (n : Nat) (r : List (Nat × Rat)) : Prop where
  lt : ∀ p ∈ r, p.1 < n
  len : r.length ≤ 6
  asc : r.Pairwise fun a b => a.1 < b.1
def toD (p : Nat × Rat) : Nat × D := (p.1, enc p.2)
noncomputable def spA (g : M Fl) : M Fl := (mSeq (mSet 6 (mLst (mCons (mD (mOp oMod (mD (mCl cInt (mCons (mD (mOp oIx (mPk 5) (mD (mC (.int 1))))) (mNil)))) (mPk 1))) (mNil))))
    (mSeq (mIfS (mB (mOp oEq (mD (mOp oMod (mD (mCl cInt (mCons (mD (mOp oIx (mPk 5) (mD (mC (.int 0))))) (mNil)))) (mD (mC (.int 2))))) (mD (mC (.int 1))))) (mApp 6 (mD (mOp oMod (mD (mCl cInt (mCons (mD (mOp oAdd (mPk 4) (mD (mOp oMod (mD (mCl cInt (mCons (mD (mOp oIx (mPk 5) (mD (mC (.int 2))))) (mNil)))) (mD (mC (.int 5))))))) (mNil)))) (mPk 1)))) (mNx))
    (mSeq (mIfS (mB (mOp oEq (mD (mOp oMod (mD (mOp oDiv (mD (mCl cInt (mCons (mD (mOp oIx (mPk 5) (mD (mC (.int 0))))) (mNil)))) (mD (mC (.int 2))))) (mD (mC (.int 4))))) (mD (mC (.int 1))))) (mSet 6 (mOp oAdd (mPk 6) (mD (mLc [11] (γN 11) (mRng1 (mCons (mD (mC (.int 4))) (mNil))) (mYes) (mD (mOp oMod (mD (mCl cInt (mCons (mD (mOp oIx (mPk 5) (mD (mOp oAdd (mD (mC (.int 6))) (mPk 11))))) (mNil)))) (mPk 1))))))) (mNx)) g)))
noncomputable def spB (h : M Fl) : M Fl := (mSeq (mSet 7 (mLc [10] (γN 10) (mRng1 (mCons (mPk 1) (mNil))) (mB (mOp (oInL false) (mPk 10) (mPk 6))) (mD (mVar 10))))
    (mSeq (mSet 8 (mLc [11] (γN 11) (mRng1 (mCons (mD (mCl cLen (mCons (mPk 7) (mNil)))) (mNil))) (mYes) (mD (mOp oAdd (mD (mC (.int 1))) (mD (mOp oMod (mD (mCl cInt (mCons (mD (mOp oIx (mPk 5) (mD (mOp oAdd (mD (mC (.int 10))) (mPk 11))))) (mNil)))) (mD (mC (.int 3)))))))))
    (mSeq (mSet 9 (mCl cSum (mCons (mPk 8) (mNil))))
    (mSeq (mApp 3 (mD (mCl cTuple (mCons (mD (mLc [11] (γN 11) (mRng1 (mCons (mD (mCl cLen (mCons (mPk 7) (mNil)))) (mNil))) (mYes) (mD (mTup (mCons (mD (mOp oIx (mPk 7) (mPk 11))) (mCons (mD (mCall 2 f_u_law_low (mCons (mD (mOp oIx (mPk 8) (mPk 11))) (mCons (mD (mVar 9)) (mNil))))) (mNil))))))) (mNil)))))
    h))))
noncomputable def spC : M Fl := (mApp 2 (mD (mCall 1 f_u_law_fraction (mCons (mD (mOp oIx (mPk 5) (mD (mC (.int 3))))) (mNil)))))
noncomputable def spBody : M Fl := (mSeq (mSet 5 (mCall 2 f_u_law_draws (mCons (mD (mCall 2 f_u_law_cell (mCons (mD (mVar 0)) (mCons (mD (mOp oAdd (mD (mC (.int 1))) (mPk 4))) (mNil))))) (mCons (mD (mC (.int 16))) (mNil))))) (spA (spB spC)))
theorem sparse_rfl : g_u_law_sparse = mSeq (mSet 2 (mLst (mNil))) (mSeq (mSet 3 (mLst (mNil))) (mSeq (mFor (γN 4) (mRng1 (mCons (mPk 1) (mNil))) spBody) (mRet (mD (mTup (mCons (mD (mCl cTuple (mCons (mPk 2) (mNil)))) (mCons (mD (mCl cTuple (mCons (mPk 3) (mNil)))) (mNil)))))))) := rfl
theorem spA_eq {scr : D} {n i : Nat} {R M : List D} {xs : List Int} (hx : xs.length = 16) (hn : 1 ≤ n) {s6 s7 s8 s9 s10 s11 : Sl} (g : Iv.M Fl) : ∃ (wl : List Int) (t11 : Sl), wl.length ≤ 6 ∧
    spA g [.fr scr, .fr (nI n), .ow R, .ow M, .fr (nI i), .fr (.lst (xs.map D.int)), s6, s7, s8, s9, s10, s11] = g [.fr scr, .fr (nI n), .ow R, .ow M, .fr (nI i), .fr (.lst (xs.map D.int)), .ow (wl.map D.int), s7, s8, s9, s10, t11] := by
  have ixd : ∀ k : Nat, k < 16 → atI (xs.map D.int) (k : Int) = some (.int (gt xs k)) := fun k hk => at_int (by omega)
  have i0 : atI (xs.map D.int) 0 = some (.int (gt xs 0)) := ixd 0 (by decide)
  have i1 : atI (xs.map D.int) 1 = some (.int (gt xs 1)) := ixd 1 (by decide)
  have i2 : atI (xs.map D.int) 2 = some (.int (gt xs 2)) := ixd 2 (by decide)
  have mn : ∀ x : Int, oMod (.int x) (nI n) = some (.d (.int (x.fmod n))) := fun x => oMod_int (by omega)
  have m2 : oMod (.int (gt xs 0)) (.int 2) = _ := oMod_int (by decide)
  have d2 : oDiv (.int (gt xs 0)) (.int 2) = _ := oDiv_int (by decide)
  have m4 : oMod (.int ((gt xs 0).fdiv 2)) (.int 4) = _ := oMod_int (by decide)
  have m5 : oMod (.int (gt xs 2)) (.int 5) = _ := oMod_int (by decide)
  have ad : oAdd (nI i) (.int ((gt xs 2).fmod 5)) = some (.d (.int (i + (gt xs 2).fmod 5))) := rfl
  have s4 : small 4 = true := by decide
  have l4 : (Iv.upTo 0 4).length ≤ 90000 := by decide
  have cm : ∀ w : List D, compL [11] (γN 11) mYes (mD (mOp oMod (mD (mCl cInt (mCons (mD (mOp oIx (mPk 5) (mD (mOp oAdd (mD (mC (.int 6))) (mPk 11))))) (mNil)))) (mPk 1))) (Iv.upTo 0 4) [] [.fr scr, .fr (nI n), .ow R, .ow M, .fr (nI i), .fr (.lst (xs.map D.int)), .ow w, s7, s8, s9, s10, .un] = .ok ((List.range 4).map fun k : Nat => .int ((gt xs (6 + k)).fmod n)) [.fr scr, .fr (nI n), .ow R, .ow M, .fr (nI i), .fr (.lst (xs.map D.int)), .ow w, s7, s8, s9, s10, .un] := fun w => by
    refine comp_n fun k hk => ?_
    have ik := ixd (6 + k) (by omega)
    rw [Int.natCast_add, Int.cast_ofNat_Int] at ik
    refine ⟨[.fr scr, .fr (nI n), .ow R, .ow M, .fr (nI i), .fr (.lst (xs.map D.int)), .ow w, s7, s8, s9, s10, .fr (.int (k : Int))], ?_, rfl⟩
    generalize nI n = nn at *
    generalize nI i = ii at *
    generalize xs.map D.int = xl at *
    simp [ik, mn]
  generalize hdl : ((List.range 4).map fun k : Nat => D.int ((gt xs (6 + k)).fmod n)) = dl at *
  obtain ⟨wl4, hw4, hw4l⟩ : ∃ wl4 : List Int, dl = wl4.map D.int ∧ wl4.length = 4 := ⟨(List.range 4).map fun k : Nat => (gt xs (6 + k)).fmod n, by rw [← hdl, List.map_map]; rfl, by simp⟩
  have add2 : ∀ w : List Int, w.length ≤ 2 → oAdd (.lst (w.map D.int)) (.lst dl) = some (.l ((w ++ wl4).map D.int)) := fun w hw => by
    rw [oAdd_lst (by rw [hw4]; simp; omega), hw4, List.map_append]
  generalize nI n = nn at *
  generalize nI i = ii at *
  generalize xs.map D.int = xl at *
  generalize gt xs 0 = x0 at *
  generalize gt xs 1 = x1 at *
  generalize gt xs 2 = x2 at *
  by_cases h1 : x0.fmod 2 = 1
  · have w2 := add2 [x1.fmod n, ((i : Int) + x2.fmod 5).fmod n] (by simp)
    by_cases h2 : (x0.fdiv 2).fmod 4 = 1
    · refine ⟨[x1.fmod n, ((i : Int) + x2.fmod 5).fmod n] ++ wl4, .un, by simp [hw4l], ?_⟩
      simp only [List.map_append, List.map_cons, List.map_nil] at w2 ⊢
      simp [spA, i0, i1, i2, mn, m2, h1, m5, ad, d2, m4, h2, s4, l4, cm, w2]
    · refine ⟨[x1.fmod n, ((i : Int) + x2.fmod 5).fmod n], s11, by simp, ?_⟩
      simp [spA, i0, i1, i2, mn, m2, h1, m5, ad, d2, m4, h2]
  · have w2 := add2 [x1.fmod n] (by simp)
    by_cases h2 : (x0.fdiv 2).fmod 4 = 1
    · refine ⟨[x1.fmod n] ++ wl4, .un, by simp [hw4l], ?_⟩
      simp only [List.map_append, List.map_cons, List.map_nil] at w2 ⊢
      simp [spA, i0, i1, mn, m2, h1, d2, m4, h2, s4, l4, cm, w2]
    · refine ⟨[x1.fmod n], s11, by simp, ?_⟩
      simp [spA, i0, i1, mn, m2, h1, d2, m4, h2]
theorem spB_eq {scr : D} {n i : Nat} {R M : List D} {xs wl : List Int} (hx : xs.length = 16) (hn : 1 ≤ n) (hn9 : n ≤ 1000) (hw : wl.length ≤ 6) (hM : M.length < 90000) {s7 s8 s9 s10 s11 : Sl} (g : Iv.M Fl) : ∃ (r : List (Nat × Rat)) (t7 t8 t9 t10 t11 : Sl), SRow n r ∧
    spB g [.fr scr, .fr (nI n), .ow R, .ow M, .fr (nI i), .fr (.lst (xs.map D.int)), .ow (wl.map D.int), s7, s8, s9, s10, s11] = g [.fr scr, .fr (nI n), .ow R, .ow (M ++ [rowD (r.map toD)]), .fr (nI i), .fr (.lst (xs.map D.int)), .ow (wl.map D.int), t7, t8, t9, t10, t11] := by
  have ixd : ∀ k : Nat, k < 16 → atI (xs.map D.int) (k : Int) = some (.int (gt xs k)) := fun k hk => at_int (by omega)
  have hsm : small (n : Int) = true := small_nat (by omega)
  have h90 : (Iv.upTo 0 n).length ≤ 90000 := by rw [upTo_len]; omega
  obtain ⟨tl, htl⟩ : ∃ tl, tl = (List.range n).filter fun t : Nat => decide ((t : Int) ∈ wl) := ⟨_, rfl⟩
  have tlt : ∀ t ∈ tl, t < n := fun t ht => by
    rw [htl] at ht
    exact List.mem_range.mp (List.mem_filter.mp ht).1
  have tasc : tl.Pairwise (· < ·) := by
    rw [htl]
    exact List.pairwise_lt_range.filter _
  have tlen : tl.length ≤ 6 := by
    have nd : (tl.map fun t : Nat => (t : Int)).Nodup := by
      unfold List.Nodup
      rw [List.pairwise_map]
      exact tasc.imp fun h => by omega
    have := nd.length_le_of_subset (l₂ := wl) fun x hx => by
      obtain ⟨t, ht, rfl⟩ := List.mem_map.mp hx
      rw [htl] at ht
      exact of_decide_eq_true (List.mem_filter.mp ht).2
    rw [List.length_map] at this
    omega
  have c7 : compL [10] (γN 10) (mB (mOp (oInL false) (mPk 10) (mPk 6))) (mD (mVar 10)) (Iv.upTo 0 n) [] [.fr scr, .fr (nI n), .ow R, .ow M, .fr (nI i), .fr (.lst (xs.map D.int)), .ow (wl.map D.int), s7, s8, s9, .un, s11] = .ok (tl.map nI) [.fr scr, .fr (nI n), .ow R, .ow M, .fr (nI i), .fr (.lst (xs.map D.int)), .ow (wl.map D.int), s7, s8, s9, .un, s11] := by
    rw [htl]
    refine comp_if fun k hk => ?_
    have ii := inL_int (neg := false) (x := (k : Int)) (l := wl)
    refine ⟨[.fr scr, .fr (nI n), .ow R, .ow M, .fr (nI i), .fr (.lst (xs.map D.int)), .ow (wl.map D.int), s7, s8, s9, .fr (.int (k : Int)), s11], ?_, fun _ => ⟨_, rfl, rfl⟩, fun _ => rfl⟩
    generalize wl.map D.int = wd at *
    simp [ii]
  obtain ⟨m, hm⟩ : ∃ m, m = tl.length := ⟨_, rfl⟩
  have hm6 : m ≤ 6 := by omega
  have hsm2 : small (m : Int) = true := small_nat (by omega)
  have h902 : (Iv.upTo 0 m).length ≤ 90000 := by rw [upTo_len]; omega
  obtain ⟨w, hwd⟩ : ∃ w : Nat → Int, w = fun k => 1 + (gt xs (10 + k)).fmod 3 := ⟨_, rfl⟩
  have w1 : ∀ k, 1 ≤ w k ∧ w k ≤ 3 := fun k => by
    have := fm (i := gt xs (10 + k)) (k := 3) (by decide)
    simp only [Int.cast_ofNat_Int] at this
    rw [hwd]
    dsimp only
    omega
  have ll : cLen [.lst (tl.map nI)] = some (.d (.int (m : Int))) := by
    show some (Sv.d (D.int ((tl.map nI).length : Nat))) = _
    rw [List.length_map, hm]
  have c8 : compL [11] (γN 11) mYes (mD (mOp oAdd (mD (mC (.int 1))) (mD (mOp oMod (mD (mCl cInt (mCons (mD (mOp oIx (mPk 5) (mD (mOp oAdd (mD (mC (.int 10))) (mPk 11))))) (mNil)))) (mD (mC (.int 3))))))) (Iv.upTo 0 m) [] [.fr scr, .fr (nI n), .ow R, .ow M, .fr (nI i), .fr (.lst (xs.map D.int)), .ow (wl.map D.int), .ow (tl.map nI), s8, s9, .un, .un] = .ok ((List.range m).map fun k => .int (w k)) [.fr scr, .fr (nI n), .ow R, .ow M, .fr (nI i), .fr (.lst (xs.map D.int)), .ow (wl.map D.int), .ow (tl.map nI), s8, s9, .un, .un] := by
    refine comp_n fun k hk => ?_
    have ik := ixd (10 + k) (by omega)
    rw [Int.natCast_add, Int.cast_ofNat_Int] at ik
    have m3 : oMod (.int (gt xs (10 + k))) (.int 3) = _ := oMod_int (by decide)
    refine ⟨[.fr scr, .fr (nI n), .ow R, .ow M, .fr (nI i), .fr (.lst (xs.map D.int)), .ow (wl.map D.int), .ow (tl.map nI), s8, s9, .un, .fr (.int (k : Int))], ?_, rfl⟩
    generalize xs.map D.int = xl at *
    simp [ik, m3, hwd]
  obtain ⟨W, hW⟩ : ∃ W, W = ((List.range m).map w).sum := ⟨_, rfl⟩
  have sm : cSum [.lst ((List.range m).map fun k => D.int (w k))] = some (.d (.int W)) := by
    have e : ((List.range m).map fun k => D.int (w k)) = ((List.range m).map w).map D.int := by rw [List.map_map]; rfl
    show (intsOf _).map _ = _
    rw [e, intsOf_map, hW]
    rfl
  have Wp : m ≠ 0 → 1 ≤ W := fun h => by
    have bound : ∀ l : List Int, (∀ x ∈ l, 1 ≤ x) → (l.length : Int) ≤ l.sum := fun l => by
      induction l with
      | nil => intro _; simp
      | cons x l ih =>
        intro h
        have h1 := h x List.mem_cons_self
        have h2 := ih fun y hy => h y (List.mem_cons_of_mem _ hy)
        rw [List.sum_cons, List.length_cons]
        omega
    have := bound ((List.range m).map w) fun x hx => by
      obtain ⟨k, _, rfl⟩ := List.mem_map.mp hx
      exact (w1 k).1
    rw [List.length_map, List.length_range, ← hW] at this
    omega
  obtain ⟨r, hr⟩ : ∃ r : List (Nat × Rat), r = (List.range m).map fun k => (tl.getD k 0, Rat.divInt (w k) W) := ⟨_, rfl⟩
  have hrt : r.map (·.1) = tl := by
    rw [hr, List.map_map]
    refine List.ext_getElem? fun j => ?_
    rw [List.getElem?_map]
    by_cases hj : j < m
    · rw [List.getElem?_range hj, List.getElem?_eq_getElem (by omega)]
      show some (tl.getD j 0) = _
      rw [List.getD_eq_getElem?_getD, List.getElem?_eq_getElem (by omega)]
      rfl
    · rw [List.getElem?_eq_none (by rw [List.length_range]; omega), List.getElem?_eq_none (by omega)]
      rfl
  have c9 : compL [11] (γN 11) mYes (mD (mTup (mCons (mD (mOp oIx (mPk 7) (mPk 11))) (mCons (mD (mCall 2 f_u_law_low (mCons (mD (mOp oIx (mPk 8) (mPk 11))) (mCons (mD (mVar 9)) (mNil))))) (mNil))))) (Iv.upTo 0 m) [] [.fr scr, .fr (nI n), .ow R, .ow M, .fr (nI i), .fr (.lst (xs.map D.int)), .ow (wl.map D.int), .ow (tl.map nI), .ow ((List.range m).map fun k => .int (w k)), .fr (.int W), .un, .un] = .ok ((List.range m).map fun k => pD (toD (tl.getD k 0, Rat.divInt (w k) W))) [.fr scr, .fr (nI n), .ow R, .ow M, .fr (nI i), .fr (.lst (xs.map D.int)), .ow (wl.map D.int), .ow (tl.map nI), .ow ((List.range m).map fun k => .int (w k)), .fr (.int W), .un, .un] := by
    refine comp_n fun k hk => ?_
    have e1 : atI (tl.map nI) (k : Int) = some (nI (tl.getD k 0)) := by
      rw [atI_nat', List.getElem?_map, List.getD_eq_getElem?_getD, List.getElem?_eq_getElem (by omega)]
      rfl
    have e2 : atI ((List.range m).map fun k => D.int (w k)) (k : Int) = some (.int (w k)) := atR hk
    have lo := low_eq (n := w k) (d := W) (by have := Wp (by omega); omega)
    refine ⟨[.fr scr, .fr (nI n), .ow R, .ow M, .fr (nI i), .fr (.lst (xs.map D.int)), .ow (wl.map D.int), .ow (tl.map nI), .ow ((List.range m).map fun k => .int (w k)), .fr (.int W), .un, .fr (.int (k : Int))], ?_, rfl⟩
    generalize tl.map nI = td at *
    generalize ((List.range m).map fun k => D.int (w k)) = wd at *
    simp [e1, e2, lo, pD, toD]
  have hrow : ((List.range m).map fun k => pD (toD (tl.getD k 0, Rat.divInt (w k) W))) = (r.map toD).map pD := by
    rw [hr, List.map_map, List.map_map]
    rfl
  refine ⟨r, .ow (tl.map nI), .ow ((List.range m).map fun k => .int (w k)), .fr (.int W), .un, .un, ⟨fun p hp => tlt p.1 (by rw [← hrt]; exact List.mem_map.mpr ⟨p, hp, rfl⟩), ?_, ?_⟩, ?_⟩
  · have := congrArg List.length hrt
    rw [List.length_map] at this
    omega
  · have := tasc
    rw [← hrt, List.pairwise_map] at this
    exact this
  · rw [hrow] at c9
    have rd : rowD (r.map toD) = .tup ((r.map toD).map pD) := rfl
    rw [rd]
    generalize (r.map toD).map pD = rr at *
    generalize hwd2 : ((List.range m).map fun k => D.int (w k)) = wd at *
    generalize tl.map nI = td at *
    generalize wl.map D.int = wld at *
    generalize xs.map D.int = xl at *
    unfold nI at *
    simp [spB, hsm, h90, c7, ll, hsm2, h902, c8, sm, c9, hM]
theorem sp_body {ns : List Int} {B n i : Nat} (hB : B ≤ 100000000) (cs : ∀ k, k < 1000000 → (cellAt ns k).natAbs < 2 ^ B) (hn : 1 ≤ n) (hn9 : n ≤ 1000) (hi : i < n) {R M : List D} (hR : R.length < 90000) (hM : M.length < 90000) {s5 s6 s7 s8 s9 s10 s11 : Sl} :
    ∃ (q : Rat) (r : List (Nat × Rat)) (t5 t6 t7 t8 t9 t10 t11 : Sl), SRow n r ∧ spBody [.fr (.scr ns), .fr (nI n), .ow R, .ow M, .fr (nI i), s5, s6, s7, s8, s9, s10, s11] = .ok .nx [.fr (.scr ns), .fr (nI n), .ow (R ++ [enc q]), .ow (M ++ [rowD (r.map toD)]), .fr (nI i), t5, t6, t7, t8, t9, t10, t11] := by
  obtain ⟨xs, hx, e⟩ := draws_eq (n := 16) (cs (1 + i) (by omega)) hB (by decide)
  have e : f_u_law_draws [.int (cellAt ns (1 + i)), .int 16] = .ok (.lst (xs.map D.int)) := e
  have c : f_u_law_cell [.scr ns, .int (1 + (i : Int))] = .ok (.int (cellAt ns (1 + i))) := by
    have := cell_eq (ns := ns) (k := 1 + i) (by omega)
    rw [Int.natCast_add] at this
    exact this
  have ad : oAdd (.int 1) (nI i) = some (.d (.int (1 + (i : Int)))) := rfl
  obtain ⟨wl, t11, hw, e1⟩ := spA_eq (scr := .scr ns) (i := i) (R := R) (M := M) hx.1 hn (s6 := s6) (s7 := s7) (s8 := s8) (s9 := s9) (s10 := s10) (s11 := s11) (spB spC)
  obtain ⟨r, t7, t8, t9, t10, u11, hr, e2⟩ := spB_eq (scr := .scr ns) (i := i) (R := R) (M := M) hx.1 hn hn9 hw hM (s7 := s7) (s8 := s8) (s9 := s9) (s10 := s10) (s11 := t11) spC
  have i3 : atI (xs.map D.int) 3 = some (.int (gt xs 3)) := at_int (k := 3) (by rw [hx.1]; decide)
  obtain ⟨q, _, fq⟩ := fraction_eq (x := gt xs 3)
  refine ⟨q, r, .fr (.lst (xs.map D.int)), .ow (wl.map D.int), t7, t8, t9, t10, u11, hr, ?_⟩
  have s1 : spBody [.fr (.scr ns), .fr (nI n), .ow R, .ow M, .fr (nI i), s5, s6, s7, s8, s9, s10, s11] = spA (spB spC) [.fr (.scr ns), .fr (nI n), .ow R, .ow M, .fr (nI i), .fr (.lst (xs.map D.int)), s6, s7, s8, s9, s10, s11] := by
    clear e1 e2
    generalize nI n = nn at *
    generalize nI i = ii at *
    generalize xs.map D.int = xl at *
    generalize hg : spA (spB spC) = g at *
    simp [spBody, ad, c, e, hg]
  rw [s1, e1, e2]
  generalize rowD (r.map toD) = rr at *
  generalize nI n = nn at *
  generalize nI i = ii at *
  generalize xs.map D.int = xl at *
  simp [spC, i3, fq, hR]
def rowsD (rows : List (List (Nat × Rat))) : List (List (Nat × D)) := rows.map fun r => r.map toD
def gamD (rs : List Rat) (rows : List (List (Nat × Rat))) : D := .tup [.tup (rs.map enc), .tup ((rowsD rows).map rowD)]
theorem sparse_eq {ns : List Int} {B n : Nat} (hB : B ≤ 100000000) (cs : ∀ k, k < 1000000 → (cellAt ns k).natAbs < 2 ^ B) (hn : 1 ≤ n) (hn9 : n ≤ 1000) :
    ∃ (rs : List Rat) (rows : List (List (Nat × Rat))), rs.length = n ∧ rows.length = n ∧ (∀ r ∈ rows, SRow n r) ∧ f_u_law_sparse [.scr ns, nI n] = .ok (gamD rs rows) := by
  have hsm : small (n : Int) = true := small_nat (by omega)
  have key := for_inv (γ := γN 4) (g := spBody) (all := Iv.upTo 0 n) (env := [.fr (.scr ns), .fr (nI n), .ow [], .ow [], .un, .un, .un, .un, .un, .un, .un, .un])
    (fun i env => ∃ (rs : List Rat) (rows : List (List (Nat × Rat))) (s4 s5 s6 s7 s8 s9 s10 s11 : Sl), rs.length = i ∧ rows.length = i ∧ (∀ r ∈ rows, SRow n r) ∧ env = [.fr (.scr ns), .fr (nI n), .ow (rs.map enc), .ow ((rowsD rows).map rowD), s4, s5, s6, s7, s8, s9, s10, s11])
    ⟨[], [], .un, .un, .un, .un, .un, .un, .un, .un, rfl, rfl, (fun _ z => nomatch z), rfl⟩ (by
      rintro i x env hx ⟨rs, rows, s4, s5, s6, s7, s8, s9, s10, s11, h1, h2, h3, rfl⟩
      have hi : i < n := by
        have := (List.getElem?_eq_some_iff.mp hx).1
        rwa [upTo_len] at this
      rw [upN, List.getElem?_map, List.getElem?_range hi] at hx
      cases hx
      obtain ⟨q, r, t5, t6, t7, t8, t9, t10, t11, hr, e⟩ := sp_body (ns := ns) (n := n) (i := i) hB cs hn hn9 hi (R := rs.map enc) (M := (rowsD rows).map rowD) (by simp; omega) (by unfold rowsD; simp; omega) (s5 := s5) (s6 := s6) (s7 := s7) (s8 := s8) (s9 := s9) (s10 := s10) (s11 := s11)
      refine ⟨_, _, rfl, e, rs ++ [q], rows ++ [r], .fr (nI i), t5, t6, t7, t8, t9, t10, t11, by rw [List.length_append, h1]; rfl, by rw [List.length_append, h2]; rfl, fun r' hr' => ?_, ?_⟩
      · rcases List.mem_append.mp hr' with z | z
        · exact h3 r' z
        · rw [List.mem_singleton.mp z]; exact hr
      · unfold rowsD
        rw [List.map_append, List.map_append, List.map_append]
        rfl)
  obtain ⟨env', k1, rs, rows, s4, s5, s6, s7, s8, s9, s10, s11, h1, h2, h3, rfl⟩ := key
  rw [upTo_len] at h1 h2
  refine ⟨rs, rows, h1, h2, h3, ?_⟩
  unfold f_u_law_sparse gamD
  rw [sparse_rfl]
  unfold nI at k1 ⊢
  generalize rs.map enc = rl at *
  generalize (rowsD rows).map rowD = ml at *
  simp [hsm, k1]
end Law

set_option Elab.async false
set_option linter.all false
set_option maxRecDepth 100000
set_option maxHeartbeats 4000000
/-! l.extend(x), x a list or a tuple. -/
namespace Iv
open PySem PySem.Spec PyProof.Rows L2 Evl
theorem meets_ext (l b : Addr) (items items2 : Array Value) (n : Nat) (hs0 : ¬(!items.isEmpty && Builtin.List.listTooLong (items.size + items2.size)) = true) (hz1 : items.size ≤ sizeLine) (hz2 : items.size + items2.size ≤ sizeLine + 1) : Meets (Builtin.«list.extend» { pos := [Value.ref l, Value.ref b] }) fun x R s =>
    s.heap.get? l = some { cls := Value.type "list", data := Data.seq items n } ∧ (∃ (o : Obj) (n2 : Nat), s.heap.get? b = some o ∧ o.cls = Value.type "tuple" ∧ o.data = Data.seq items2 n2) ∧
      R (Except.ok (Flow.ret Value.none)) { heap := s.heap.update l (Obj.mapSeq fun x => x ++ items2), gens := s.gens, drawn := s.drawn, toks := s.toks, os := s.os } :=
  Meets.of_wp fun prog w A R s ⟨hl, ⟨o, n2, hb, hc, hd⟩, hR⟩ => by
    unfold Builtin.«list.extend»
    refine wpAny_bind ?_
    refine wpAny_bind (wpAny_ite_true rfl (wpAny_pure (wpAny_pure ?_)))
    dsimp only
    unfold Builtin.List.listExtendWith
    refine wpAny_bind (wpAny_typeOf ⟨o, hb, hc⟩ ?_)
    have h1 : (Builtin.List.listSameRef (Value.ref l) (Value.ref b) || Value.type "tuple" == Value.type "list" || Value.type "tuple" == Value.type "tuple") = true := by simp
    rw [if_pos h1]
    refine wpAny_bind (wpAny_bind (wpAny_seqItems hb hd (wpAny_pure (wpAny_bind (wpAny_bind (wpAny_seqItems hl rfl (wpAny_pure ?_)))))))
    rw [if_neg hs0]
    refine wpAny_bind (wpAny_updateSeq hl rfl (wpAny_pure ?_) (hz := hz1) (_hz' := by rw [Array.size_append]; exact hz2))
    exact ⟨_, rfl, hR⟩
section
variable {X : Cx} {S : Xs} {W : WX} {F0 H0 : Hp}
def rExtA : V → List V → Hp → VK → Prop := fun x vs H Q => ∃ (l b : Addr) (xs zs : List V), x = .ref l ∧ vs = [.ref b] ∧ H l = some (.lst xs) ∧ (H b = some (.lst zs) ∨ H b = some (.tup zs)) ∧ xs.length + zs.length ≤ sizeLine ∧ Q .non (upd H l (.lst (xs ++ zs)))
theorem mt_extA : MtM X "list.extend" rExtA := by
  intro pins s σ H x vs v us Q I rx rv ⟨l, b, xs, zs, e1, e2, hH, hB, hz, q⟩
  rcases hB with hB | hB
  · exact mt_extend pins s σ H x vs v us Q I rx rv ⟨l, b, xs, zs, e1, e2, hH, hB, hz, q⟩
  · subst e1 e2
    obtain rfl : v = Value.ref l := rx
    match us, rv with
    | [u], .cons ru .nil =>
      obtain rfl : u = Value.ref b := ru
      obtain ⟨z1, its, n, r1, l1, o1⟩ := I.lstM hH
      obtain ⟨z2, its2, r2, o, o2, c2, n2, d2⟩ := I.hok b _ hB
      have l2 : zs.length = its2.length := r2.length
      refine call_meets PySem.F.slot_list_extend ⟨_, o1, rfl⟩ PySem.F.entry_list_extend (PySem.F.args_list_extend_2 _ _) (meets_ext l b its.toArray its2.toArray n (PyProof.Rows.extend_door (by rw [List.size_toArray, List.size_toArray]; omega)) (by rw [List.size_toArray]; omega) (by rw [List.size_toArray, List.size_toArray]; omega)) ⟨o1, ⟨o, n2, o2, c2, d2⟩, ?_⟩
      exact ⟨.non, _, I.lset hH o1 (its' := its ++ its2) (by simp) (r1.append r2) (by rw [List.length_append]; omega), rfl, q⟩
def mExt (i : Nat) (f : M D) : M Fl := fun env => match owAt env i with
  | some _ => (f env).bind fun d env => match owAt env i, d with
    | some l, .lst m => if l.length + m.length < 90000 then .ok .nx (env.set i (.ow (l ++ m))) else .bad
    | some l, .tup m => if l.length + m.length < 90000 then .ok .nx (env.set i (.ow (l ++ m))) else .bad
    | _, _ => .bad
  | none => .bad
theorem ds_ext {i : Nat} {f : M D} {st : Stmt} (h : PS X st (tDrop (tBM X.K "list" rExtA (tVar i) (tCons (rd X.K S W (TF X.K) f) tNil)))) : DS X S W F0 H0 st (mExt i f) :=
  PS.imp h fun D σ H ⟨F, env, b, rel, q⟩ => by
  unfold mExt at q
  cases h0 : owAt env i with
  | none => rw [h0] at q; exact q.elim
  | some l0 =>
    rw [h0] at q
    obtain ⟨p, vs, e1, n1, h1, h2, r1⟩ := Owned.at_ rel rel Gr.refl (owAt_eq h0)
    refine ⟨.ref p, e1, .inl ⟨rfl, vs, sq_of h1⟩, F, env, rel, okS.ex_bind b q fun d env' v F' H' hr g b' rel' rv q => ?_⟩
    have rv : R X.K F' d v := rv
    cases h3 : owAt env' i with
    | none => rw [h3] at q; exact q.elim
    | some l =>
      rw [h3] at q
      obtain ⟨p', vs', k1, k2, k3, k4, k5⟩ := Owned.at_ rel' rel g (owAt_eq h3)
      rw [e1] at k1
      cases k1
      rw [h1] at k3
      cases k3
      have core : ∀ {m : List Iv.D} {a : Addr} {zs : List V}, v = .ref a → (H' a = some (.lst zs) ∨ H' a = some (.tup zs)) → Rs X.K F' m zs → okS X.K S W F0 H0 F' D (if l.length + m.length < 90000 then Res.ok Fl.nx (env'.set i (.ow (l ++ m))) else .bad) →
          rExtA (.ref p) [v] H' (fun _ H'' => D.nx σ H'') := fun {m a zs} ev ha rz q => by
        split at q
        · rename_i hl
          have hp := rel'.put (owAt_eq h3) e1 k2 (k5.append rz)
          exact ⟨p, a, vs, zs, rfl, by rw [ev], k4, ha, sz_of (by rw [k5.length, rz.length]; omega), q σ F' _ (Ex.refl _) (b'.put ⟨i, _, owAt_eq h3, rfl, e1⟩ hp.2) hp.1⟩
        · exact q.elim
      cases d with
      | lst m =>
        have rv : R X.K F' (.lst m) v := rv
        simp only [R] at rv
        obtain ⟨a, zs, ev, ha, rz⟩ := rv
        exact core ev (.inl (rel'.ex a _ ha)) rz q
      | tup m =>
        have rv : R X.K F' (.tup m) v := rv
        simp only [R] at rv
        obtain ⟨a, zs, ev, ha, rz⟩ := rv
        exact core ev (.inr (rel'.ex a _ ha)) rz q
      | _ => exact q.elim
end
@[simp] theorem mExt_eq {i : Nat} {f : M D} {env : En} : mExt i f env = (match owAt env i with
  | some _ => (f env).bind fun d env => match owAt env i, d with
    | some l, .lst m => if l.length + m.length < 90000 then .ok .nx (env.set i (.ow (l ++ m))) else .bad
    | some l, .tup m => if l.length + m.length < 90000 then .ok .nx (env.set i (.ow (l ++ m))) else .bad
    | _, _ => .bad
  | none => .bad) := rfl
end Iv

set_option Elab.async false
set_option linter.all false
set_option maxRecDepth 100000
set_option maxHeartbeats 4000000
/-! Determinants, by rows and a list of columns: what a fraction free elimination keeps whole. -/
namespace Dt
abbrev Vec := Nat → Rat
/-- one row more, in front -/
def E (r : Vec) : (List Nat → Rat) → List Nat → Rat
  | _, [] => 0
  | f, x :: J => r x * f J - E r (fun K => f (x :: K)) J
theorem E_congr {r : Vec} : ∀ {J : List Nat} {f g : List Nat → Rat}, (∀ K, f K = g K) → E r f J = E r g J
  | [], _, _, _ => rfl
  | x :: J, f, g, h => by
    unfold E
    rw [h J, E_congr (J := J) fun K => h (x :: K)]
theorem E_zero {r : Vec} : ∀ {J : List Nat} {f : List Nat → Rat}, (∀ K, f K = 0) → E r f J = 0
  | [], _, _ => rfl
  | x :: J, f, h => by
    unfold E
    rw [h J, E_zero (J := J) fun K => h (x :: K)]
    grind
theorem E_lin {r : Vec} {a b : Rat} : ∀ {J : List Nat} {f g : List Nat → Rat}, E r (fun K => a * f K + b * g K) J = a * E r f J + b * E r g J
  | [], _, _ => by unfold E; grind
  | x :: J, f, g => by
    unfold E
    rw [E_lin (J := J)]
    grind
theorem E_row {r t : Vec} {a b : Rat} : ∀ {J : List Nat} {f : List Nat → Rat}, E (fun k => a * r k + b * t k) f J = a * E r f J + b * E t f J
  | [], _ => by unfold E; grind
  | x :: J, f => by
    unfold E
    rw [E_row (J := J)]
    grind
theorem E_sq {r : Vec} : ∀ {J : List Nat} {f : List Nat → Rat}, E r (E r f) J = 0
  | [], _ => rfl
  | x :: J, f => by
    show r x * E r f J - E r (fun K => E r f (x :: K)) J = 0
    have h : ∀ K, E r f (x :: K) = r x * f K + (-1) * E r (fun L => f (x :: L)) K := fun K => by
      show r x * f K - E r (fun L => f (x :: L)) K = _
      grind
    rw [E_congr h, E_lin, E_sq (J := J)]
    grind
theorem E_anti {r t : Vec} {f : List Nat → Rat} {J : List Nat} : E r (E t f) J = - E t (E r f) J := by
  have h := E_sq (r := fun k => 1 * r k + 1 * t k) (f := f) (J := J)
  have h1 : ∀ K, E (fun k => 1 * r k + 1 * t k) f K = 1 * E r f K + 1 * E t f K := fun K => E_row
  rw [E_congr h1, E_lin, E_row, E_row, E_sq, E_sq] at h
  grind
def base : List Nat → Rat
  | [] => 1
  | _ => 0
def det (rs : List Vec) : List Nat → Rat := rs.foldr E base
theorem det_cons {r : Vec} {rs : List Vec} : det (r :: rs) = E r (det rs) := rfl
/-- a row twice -/
theorem det_twice {r : Vec} : ∀ {rs : List Vec} {J : List Nat}, r ∈ rs → E r (det rs) J = 0
  | t :: rs, J, h => by
    rw [det_cons]
    by_cases e : r = t
    · subst e; exact E_sq
    · have hr : r ∈ rs := (List.mem_cons.mp h).resolve_left e
      rw [E_anti, E_zero fun K => det_twice hr]
      grind
theorem det_app {A : List Vec} {f g : List Vec} (h : ∀ J, det f J = det g J) : ∀ J, det (A ++ f) J = det (A ++ g) J := by
  induction A with
  | nil => exact h
  | cons a A ih => exact fun J => E_congr ih
/-- the rows in front, each times a number and with some of a row that stands behind -/
theorem det_front {t : Vec} {U : List Vec} {a : Rat} : ∀ {L : List Vec} {b : Vec → Rat} {J : List Nat},
    det (L.map (fun r => fun k => a * r k + b r * t k) ++ t :: U) J = a ^ L.length * det (L ++ t :: U) J
  | [], b, J => by simp
  | r :: L, b, J => by
    rw [List.map_cons, List.cons_append, List.cons_append, det_cons, det_cons, E_row, det_twice (r := t) (by simp), E_congr fun K => det_front (L := L) (b := b) (J := K)]
    have h := E_lin (r := r) (a := a ^ L.length) (b := 0) (J := J) (f := det (L ++ t :: U)) (g := fun _ => 0)
    have h2 : E r (fun K => a ^ L.length * det (L ++ t :: U) K) J = a ^ L.length * E r (det (L ++ t :: U)) J := by
      rw [E_congr (g := fun K => a ^ L.length * det (L ++ t :: U) K + 0 * 0) fun K => by grind, h]
      grind
    rw [h2, List.length_cons, Rat.pow_succ]
    grind
theorem det_mul {A : List Vec} {f g : List Vec} {a : Rat} (h : ∀ J, det f J = a * det g J) : ∀ J, det (A ++ f) J = a * det (A ++ g) J := by
  induction A with
  | nil => exact h
  | cons r A ih =>
    intro J
    rw [List.cons_append, List.cons_append, det_cons, det_cons, E_congr ih]
    have h := E_lin (r := r) (a := a) (b := 0) (J := J) (f := det (A ++ g)) (g := fun _ => 0)
    rw [E_congr (g := fun K => a * det (A ++ g) K + 0 * 0) fun K => by grind, h]
    grind
/-- two neighbours change places -/
theorem det_swap {A U : List Vec} {r t : Vec} {J : List Nat} : det (A ++ r :: t :: U) J = -1 * det (A ++ t :: r :: U) J :=
  det_mul (fun J => by rw [det_cons, det_cons, det_cons, det_cons, E_anti]; grind) J
/-- all rows are zero in a column -/
theorem det_col {x : Nat} : ∀ {rs : List Vec}, rs ≠ [] ∨ True → (∀ r ∈ rs, r x = 0) → ∀ {J : List Nat}, x ∈ J → det rs J = 0
  | [], _, _, J, h => by
    cases J with
    | nil => cases h
    | cons y J => rfl
  | r :: rs, _, hz, J, h => by
    have hf : ∀ {K : List Nat}, x ∈ K → det rs K = 0 := fun hk => det_col (.inr trivial) (fun t ht => hz t (List.mem_cons_of_mem _ ht)) hk
    rw [det_cons]
    have key : ∀ {J : List Nat} {f : List Nat → Rat}, (∀ K, x ∈ K → f K = 0) → x ∈ J → E r f J = 0 := fun {J} => by
      induction J with
      | nil => exact fun _ h => nomatch h
      | cons y J ih =>
        intro f hf h
        unfold E
        by_cases e : x = y
        · subst e
          rw [hz r List.mem_cons_self, E_zero fun K => hf _ List.mem_cons_self]
          grind
        · have hx : x ∈ J := (List.mem_cons.mp h).resolve_left e
          rw [hf J hx, ih (fun K hk => hf _ (List.mem_cons_of_mem _ hk)) hx]
          grind
    exact key (fun K hk => hf hk) h
theorem E_none {r : Vec} : ∀ {J : List Nat} {f : List Nat → Rat}, (∀ x ∈ J, r x = 0) → E r f J = 0
  | [], _, _ => rfl
  | x :: J, f, h => by
    unfold E
    rw [h x List.mem_cons_self, E_none fun y hy => h y (List.mem_cons_of_mem _ hy)]
    grind
/-- the first row is told: the others are zero in the first column -/
theorem det_peel {r : Vec} {rs : List Vec} {x : Nat} {J : List Nat} (h : ∀ t ∈ rs, t x = 0) : det (r :: rs) (x :: J) = r x * det rs J := by
  rw [det_cons]
  unfold E
  have : E r (fun K => det rs (x :: K)) J = 0 := E_zero fun K => det_col (.inr trivial) h List.mem_cons_self
  rw [this]
  grind
/-- the first row is told: it is zero in the other columns -/
theorem det_peel' {r : Vec} {rs : List Vec} {x : Nat} {J : List Nat} (h : ∀ y ∈ J, r y = 0) : det (r :: rs) (x :: J) = r x * det rs J := by
  rw [det_cons]
  unfold E
  rw [E_none h]
  grind
/-! ### whole numbers, and how great -/
def Whole (q : Rat) : Prop := ∃ z : Int, q = (z : Rat)
theorem Whole.mul {p q : Rat} (h : Whole p) (k : Whole q) : Whole (p * q) := by
  obtain ⟨a, rfl⟩ := h
  obtain ⟨b, rfl⟩ := k
  exact ⟨a * b, by rw [Rat.intCast_mul]⟩
theorem Whole.sub {p q : Rat} (h : Whole p) (k : Whole q) : Whole (p - q) := by
  obtain ⟨a, rfl⟩ := h
  obtain ⟨b, rfl⟩ := k
  exact ⟨a - b, by rw [Rat.intCast_sub]⟩
theorem E_whole {r : Vec} (hr : ∀ x, Whole (r x)) : ∀ {J : List Nat} {f : List Nat → Rat}, (∀ K, Whole (f K)) → Whole (E r f J)
  | [], _, _ => ⟨0, rfl⟩
  | x :: J, f, h => ((hr x).mul (h J)).sub (E_whole hr fun K => h (x :: K))
theorem det_whole : ∀ {rs : List Vec}, (∀ r ∈ rs, ∀ x, Whole (r x)) → ∀ J, Whole (det rs J)
  | [], _, J => by
    cases J with
    | nil => exact ⟨1, rfl⟩
    | cons x J => exact ⟨0, rfl⟩
  | r :: rs, h, J => E_whole (h r List.mem_cons_self) (det_whole fun t ht => h t (List.mem_cons_of_mem _ ht))
end Dt

set_option Elab.async false
set_option linter.all false
set_option maxRecDepth 100000
set_option maxHeartbeats 4000000
/-! A fraction free elimination: its rows are determinants. -/
namespace Dt
/-- whole, and at most n in size -/
def WB (n : Nat) (q : Rat) : Prop := ∃ z : Int, q = (z : Rat) ∧ z.natAbs ≤ n
theorem WB.mul {a b : Nat} {p q : Rat} (h : WB a p) (k : WB b q) : WB (a * b) (p * q) := by
  obtain ⟨x, rfl, hx⟩ := h
  obtain ⟨y, rfl, hy⟩ := k
  exact ⟨x * y, by rw [Rat.intCast_mul], by rw [Int.natAbs_mul]; exact Nat.mul_le_mul hx hy⟩
theorem WB.sub {a b : Nat} {p q : Rat} (h : WB a p) (k : WB b q) : WB (a + b) (p - q) := by
  obtain ⟨x, rfl, hx⟩ := h
  obtain ⟨y, rfl, hy⟩ := k
  exact ⟨x - y, by rw [Rat.intCast_sub], by omega⟩
theorem WB.mono {a b : Nat} {p : Rat} (h : WB a p) (l : a ≤ b) : WB b p := by
  obtain ⟨x, e, hx⟩ := h
  exact ⟨x, e, by omega⟩
theorem E_wb {r : Vec} {M F : Nat} (hr : ∀ x, WB M (r x)) : ∀ {J : List Nat} {f : List Nat → Rat}, (∀ K, K.length + 1 = J.length → WB F (f K)) → WB (J.length * (M * F)) (E r f J)
  | [], _, _ => ⟨0, rfl, by simp⟩
  | x :: J, f, h => by
    have h1 := (hr x).mul (h J rfl)
    have h2 := E_wb hr (J := J) (f := fun K => f (x :: K)) fun K hk => h _ (by simp; omega)
    have := h1.sub h2
    refine this.mono ?_
    rw [List.length_cons, Nat.succ_mul]
    omega
theorem det_wb {M : Nat} : ∀ {rs : List Vec} {J : List Nat}, (∀ r ∈ rs, ∀ x, WB M (r x)) → WB ((J.length * M) ^ rs.length) (det rs J)
  | [], J, _ => by
    cases J with
    | nil => exact ⟨1, rfl, by simp⟩
    | cons x J => exact ⟨0, rfl, by simp⟩
  | r :: rs, J, h => by
    have ih : ∀ K : List Nat, K.length + 1 = J.length → WB ((J.length * M) ^ rs.length) (det rs K) := fun K hk =>
      (det_wb fun t ht => h t (List.mem_cons_of_mem _ ht)).mono (Nat.pow_le_pow_left (Nat.mul_le_mul_right _ (by omega)) _)
    have := E_wb (h r List.mem_cons_self) ih
    refine this.mono ?_
    rw [List.length_cons, Nat.pow_succ, ← Nat.mul_assoc, Nat.mul_comm]
    exact Nat.le_refl _
/-! ### functionals -/
def ap : List (Rat × Nat) → Vec → Rat
  | [], _ => 0
  | p :: w, r => p.1 * r p.2 + ap w r
theorem ap_lin {r t : Vec} {a b : Rat} : ∀ w : List (Rat × Nat), ap w (fun k => a * r k + b * t k) = a * ap w r + b * ap w t
  | [] => by unfold ap; grind
  | p :: w => by
    unfold ap
    rw [ap_lin w]
    grind
/-! ### the state -/
def at' (L : List Vec) (i : Nat) : Vec := L.getD i fun _ => 0
structure St (M : Nat) (fh vh : List Vec) (tail : List (Vec × Vec)) (s : Rat) : Prop where
  ne : s ≠ 0
  hl : fh.length = vh.length
  un : ∀ i l, i < fh.length → l < fh.length → at' fh i l = if i = l then s else 0
  tz : ∀ q ∈ tail, ∀ l, l < fh.length → q.1 l = 0
  d2 : ∀ U J, s * det (fh ++ U) J = s ^ fh.length * det (vh ++ U) J
  d3 : ∀ q ∈ tail, ∀ U J, det (fh ++ q.1 :: U) J = s * det (fh ++ q.2 :: U) J
  a4 : ∀ w, (∀ r ∈ fh, ap w r = 0) → (∀ q ∈ tail, ap w q.1 = 0) → (∀ r ∈ vh, ap w r = 0) ∧ ∀ q ∈ tail, ap w q.2 = 0
  a5 : ∀ w, (∀ r ∈ vh, ap w r = 0) → (∀ q ∈ tail, ap w q.2 = 0) → (∀ r ∈ fh, ap w r = 0) ∧ ∀ q ∈ tail, ap w q.1 = 0
  wv : ∀ r ∈ vh, ∀ x, WB M (r x)
  wt : ∀ q ∈ tail, ∀ x, WB M (q.2 x)
theorem St.start {M : Nat} {vs : List Vec} (h : ∀ r ∈ vs, ∀ x, WB M (r x)) : St M [] [] (vs.map fun r => (r, r)) 1 where
  ne := by decide
  hl := rfl
  un := fun i l hi => absurd hi (Nat.not_lt_zero _)
  tz := fun q _ l hl => absurd hl (Nat.not_lt_zero _)
  d2 := fun U J => by simp
  d3 := fun q hq U J => by
    obtain ⟨r, _, rfl⟩ := List.mem_map.mp hq
    rw [Rat.one_mul]
  a4 := fun w _ h => ⟨(fun _ z => nomatch z), fun q hq => by
    have := h q hq
    obtain ⟨r, _, rfl⟩ := List.mem_map.mp hq
    exact this⟩
  a5 := fun w _ h => ⟨(fun _ z => nomatch z), fun q hq => by
    have := h q hq
    obtain ⟨r, _, rfl⟩ := List.mem_map.mp hq
    exact this⟩
  wv := fun _ z => nomatch z
  wt := fun q hq x => by
    obtain ⟨r, hr, rfl⟩ := List.mem_map.mp hq
    exact h r hr x
theorem St.perm {M : Nat} {fh vh : List Vec} {tail tail' : List (Vec × Vec)} {s : Rat} (h : St M fh vh tail s) (p : ∀ q, q ∈ tail ↔ q ∈ tail') : St M fh vh tail' s where
  ne := h.ne
  hl := h.hl
  un := h.un
  tz := fun q hq => h.tz q ((p q).mpr hq)
  d2 := h.d2
  d3 := fun q hq => h.d3 q ((p q).mpr hq)
  a4 := fun w h1 h2 => by
    have := h.a4 w h1 fun q hq => h2 q ((p q).mp hq)
    exact ⟨this.1, fun q hq => this.2 q ((p q).mpr hq)⟩
  a5 := fun w h1 h2 => by
    have := h.a5 w h1 fun q hq => h2 q ((p q).mp hq)
    exact ⟨this.1, fun q hq => this.2 q ((p q).mpr hq)⟩
  wv := h.wv
  wt := fun q hq => h.wt q ((p q).mpr hq)
/-- one row after the others are cleared in the column c by the row t -/
def red (c : Nat) (s : Rat) (t r : Vec) : Vec := fun k => (t c / s) * r k + (-(r c) / s) * t k
theorem red_at {c k : Nat} {s : Rat} {t r : Vec} (hs : s ≠ 0) : s * red c s t r k = t c * r k - r c * t k := by
  unfold red
  have e1 : s * (t c / s) = t c := by rw [Rat.mul_comm]; exact Rat.div_mul_cancel hs
  have e2 : s * (-(r c) / s) = -(r c) := by rw [Rat.mul_comm]; exact Rat.div_mul_cancel hs
  rw [Rat.mul_add, ← Rat.mul_assoc, ← Rat.mul_assoc, e1, e2]
  grind
theorem at_app {L : List Vec} {t : Vec} {i : Nat} (h : i < L.length) : at' (L ++ [t]) i = at' L i := by
  unfold at'
  rw [List.getD_eq_getElem?_getD, List.getD_eq_getElem?_getD, List.getElem?_append_left h]
theorem at_last {L : List Vec} {t : Vec} : at' (L ++ [t]) L.length = t := by
  unfold at'
  rw [List.getD_eq_getElem?_getD, List.getElem?_append_right (Nat.le_refl _), Nat.sub_self]
  rfl
theorem at_map {L : List Vec} {f : Vec → Vec} {i : Nat} (h : i < L.length) : at' (L.map f) i = f (at' L i) := by
  unfold at'
  rw [List.getD_eq_getElem?_getD, List.getD_eq_getElem?_getD, List.getElem?_map, List.getElem?_eq_getElem h]
  rfl
theorem at_mem {L : List Vec} {i : Nat} (h : i < L.length) : at' L i ∈ L := by
  unfold at'
  rw [List.getD_eq_getElem?_getD, List.getElem?_eq_getElem h]
  exact List.getElem_mem h
theorem mul_pow' {a b : Rat} : ∀ n : Nat, (a * b) ^ n = a ^ n * b ^ n
  | 0 => by rw [Rat.pow_zero, Rat.pow_zero, Rat.pow_zero, Rat.mul_one]
  | n + 1 => by
    rw [Rat.pow_succ, Rat.pow_succ, Rat.pow_succ, mul_pow' n]
    grind
theorem St.step {M : Nat} {fh vh : List Vec} {t vt : Vec} {tail : List (Vec × Vec)} {s : Rat} (h : St M fh vh ((t, vt) :: tail) s) (hp : t fh.length ≠ 0) :
    St M (fh.map (red fh.length s t) ++ [t]) (vh ++ [vt]) (tail.map fun q => (red fh.length s t q.1, q.2)) (t fh.length) := by
  obtain ⟨c, hc⟩ : ∃ c, c = fh.length := ⟨_, rfl⟩
  rw [← hc] at hp ⊢
  have hs := h.ne
  have tz : ∀ l, l < c → t l = 0 := fun l hl => h.tz _ List.mem_cons_self l (by omega)
  have rl : ∀ r : Vec, ∀ l, l < c → red c s t r l = (t c / s) * r l := fun r l hl => by
    unfold red
    rw [tz l hl]
    grind
  have rc : ∀ r : Vec, red c s t r c = 0 := fun r => by
    have e := red_at (c := c) (k := c) (r := r) (t := t) hs
    have : s * red c s t r c = 0 := by rw [e]; grind
    exact (Rat.mul_eq_zero.mp this).resolve_left hs
  have e1 : (t c / s) * s = t c := Rat.div_mul_cancel hs
  have ha : t c / s ≠ 0 := fun z => by rw [z, Rat.zero_mul] at e1; exact hp e1.symm
  have pw : (t c / s) ^ c * s ^ c = t c ^ c := by
    rw [← mul_pow', e1]
  have front : ∀ U J, det (fh.map (red c s t) ++ t :: U) J = (t c / s) ^ c * det (fh ++ t :: U) J := fun U J => by
    have := det_front (t := t) (U := U) (a := t c / s) (L := fh) (b := fun r => -(r c) / s) (J := J)
    rw [← hc] at this
    exact this
  have lin : ∀ (w : List (Rat × Nat)) (r : Vec), ap w (red c s t r) = (t c / s) * ap w r + (-(r c) / s) * ap w t := fun w r => ap_lin w
  have back : ∀ (w : List (Rat × Nat)) (r : Vec), ap w t = 0 → ap w (red c s t r) = 0 → ap w r = 0 := fun w r h1 h2 => by
    rw [lin, h1] at h2
    have : (t c / s) * ap w r = 0 := by grind
    exact (Rat.mul_eq_zero.mp this).resolve_left ha
  have fl : (fh.map (red c s t) ++ [t]).length = c + 1 := by rw [List.length_append, List.length_map, ← hc]; rfl
  refine ⟨hp, ?_, fun i l hi hl => ?_, fun q hq l hl => ?_, fun U J => ?_, fun q hq U J => ?_, fun w h1 h2 => ?_, fun w h1 h2 => ?_, fun r hr x => ?_, fun q hq x => ?_⟩
  · rw [fl, List.length_append, ← h.hl, ← hc]; rfl
  · rw [fl] at hi hl
    by_cases hic : i < c
    · rw [at_app (by rw [List.length_map]; omega), at_map (by omega)]
      by_cases hlc : l < c
      · rw [rl _ l hlc, h.un i l (by omega) (by omega)]
        by_cases e : i = l
        · rw [if_pos e, if_pos e, e1]
        · rw [if_neg e, if_neg e, Rat.mul_zero]
      · have : l = c := by omega
        subst this
        rw [rc, if_neg (by omega)]
    · have : i = (fh.map (red c s t)).length := by rw [List.length_map]; omega
      rw [this, at_last, List.length_map, ← hc]
      by_cases hlc : l < c
      · rw [tz l hlc, if_neg (by omega)]
      · have : l = c := by omega
        rw [this, if_pos rfl]
  · rw [fl] at hl
    obtain ⟨q0, hq0, rfl⟩ := List.mem_map.mp hq
    by_cases hlc : l < c
    · show red c s t q0.1 l = 0
      rw [rl _ l hlc, h.tz q0 (List.mem_cons_of_mem _ hq0) l (by omega), Rat.mul_zero]
    · have : l = c := by omega
      rw [this]
      exact rc q0.1
  · rw [fl, List.append_assoc, List.append_assoc]
    show t c * det (fh.map (red c s t) ++ t :: U) J = t c ^ (c + 1) * det (vh ++ vt :: U) J
    have h3 := h.d3 (t, vt) List.mem_cons_self U J
    have h2 := h.d2 (vt :: U) J
    rw [← hc] at h2
    rw [front, h3, h2, ← Rat.mul_assoc ((t c / s) ^ c), pw, Rat.pow_succ]
    grind
  · obtain ⟨q0, hq0, rfl⟩ := List.mem_map.mp hq
    rw [List.append_assoc, List.append_assoc]
    show det (fh.map (red c s t) ++ t :: red c s t q0.1 :: U) J = t c * det (fh.map (red c s t) ++ t :: q0.2 :: U) J
    rw [front, front]
    have s1 : det (fh ++ t :: red c s t q0.1 :: U) J = (t c / s) * det (fh ++ t :: q0.1 :: U) J := det_mul (fun K => by
      rw [det_cons, det_cons, det_cons, det_cons]
      have : ∀ L, E (red c s t q0.1) (det U) L = (t c / s) * E q0.1 (det U) L + (-(q0.1 c) / s) * E t (det U) L := fun L => E_row
      rw [E_congr this, E_lin, E_sq]
      grind) J
    have s2 := det_swap (A := fh) (U := U) (r := t) (t := q0.1) (J := J)
    have s3 := h.d3 q0 (List.mem_cons_of_mem _ hq0) (t :: U) J
    have s4 := det_swap (A := fh) (U := U) (r := q0.2) (t := t) (J := J)
    rw [s1, s2, s3, s4]
    have : (t c / s) * (-1 * (s * (-1 * det (fh ++ t :: q0.2 :: U) J))) = t c * det (fh ++ t :: q0.2 :: U) J := by
      have : (t c / s) * (-1 * (s * (-1 * det (fh ++ t :: q0.2 :: U) J))) = ((t c / s) * s) * det (fh ++ t :: q0.2 :: U) J := by grind
      rw [this, e1]
    rw [this]
    grind
  · have ht : ap w t = 0 := h1 t (List.mem_append_right _ List.mem_cons_self)
    have k1 : ∀ r ∈ fh, ap w r = 0 := fun r hr => back w r ht (h1 _ (List.mem_append_left _ (List.mem_map.mpr ⟨r, hr, rfl⟩)))
    have k2 : ∀ q ∈ (t, vt) :: tail, ap w q.1 = 0 := fun q hq => by
      rcases List.mem_cons.mp hq with z | z
      · rw [z]; exact ht
      · exact back w q.1 ht (h2 _ (List.mem_map.mpr ⟨q, z, rfl⟩))
    obtain ⟨g1, g2⟩ := h.a4 w k1 k2
    refine ⟨fun r hr => ?_, fun q hq => ?_⟩
    · rcases List.mem_append.mp hr with z | z
      · exact g1 r z
      · rw [List.mem_singleton.mp z]; exact g2 _ List.mem_cons_self
    · obtain ⟨q0, hq0, rfl⟩ := List.mem_map.mp hq
      exact g2 q0 (List.mem_cons_of_mem _ hq0)
  · have k1 : ∀ r ∈ vh, ap w r = 0 := fun r hr => h1 r (List.mem_append_left _ hr)
    have k2 : ∀ q ∈ (t, vt) :: tail, ap w q.2 = 0 := fun q hq => by
      rcases List.mem_cons.mp hq with z | z
      · rw [z]; exact h1 vt (List.mem_append_right _ List.mem_cons_self)
      · have := h2 (red c s t q.1, q.2) (List.mem_map.mpr ⟨q, z, rfl⟩)
        exact this
    obtain ⟨g1, g2⟩ := h.a5 w k1 k2
    have ht := g2 _ List.mem_cons_self
    have ht : ap w t = 0 := ht
    refine ⟨fun r hr => ?_, fun q hq => ?_⟩
    · rcases List.mem_append.mp hr with z | z
      · obtain ⟨r0, hr0, rfl⟩ := List.mem_map.mp z
        rw [lin, g1 r0 hr0, ht]
        grind
      · rw [List.mem_singleton.mp z]; exact ht
    · obtain ⟨q0, hq0, rfl⟩ := List.mem_map.mp hq
      show ap w (red c s t q0.1) = 0
      rw [lin, g2 q0 (List.mem_cons_of_mem _ hq0), ht]
      grind
  · rcases List.mem_append.mp hr with z | z
    · exact h.wv r z x
    · rw [List.mem_singleton.mp z]; exact h.wt _ List.mem_cons_self x
  · obtain ⟨q0, hq0, rfl⟩ := List.mem_map.mp hq
    exact h.wt q0 (List.mem_cons_of_mem _ hq0) x
end Dt

set_option Elab.async false
set_option linter.all false
set_option maxRecDepth 100000
set_option maxHeartbeats 4000000
/-! All that an elimination keeps is whole, and of bounded size. -/
namespace Dt
theorem at_zero {r : Vec} {L : List Vec} : at' (r :: L) 0 = r := rfl
theorem at_succ {r : Vec} {L : List Vec} {b : Nat} : at' (r :: L) (b + 1) = at' L b := rfl
theorem mem_at {L : List Vec} {r : Vec} (h : r ∈ L) : ∃ b, b < L.length ∧ at' L b = r := by
  obtain ⟨b, hb, e⟩ := List.getElem_of_mem h
  exact ⟨b, hb, by unfold at'; rw [List.getD_eq_getElem?_getD, List.getElem?_eq_getElem hb, e]; rfl⟩
theorem peel {s : Rat} {R : List Vec} {K : List Nat} : ∀ {L : List Vec} {a : Nat}, (∀ b, b < L.length → at' L b (a + b) = s) → (∀ b b', b < b' → b' < L.length → at' L b' (a + b) = 0) → (∀ r ∈ R, ∀ b, b < L.length → r (a + b) = 0) →
    det (L ++ R) (List.range' a L.length ++ K) = s ^ L.length * det R K
  | [], a, _, _, _ => by simp
  | r :: L, a, h1, h2, h3 => by
    rw [List.length_cons, List.range'_succ, List.cons_append, List.cons_append, det_peel fun t ht => ?_]
    · have ih := peel (s := s) (R := R) (K := K) (L := L) (a := a + 1) (fun b hb => by
        have := h1 (b + 1) (by rw [List.length_cons]; omega)
        rw [at_succ] at this
        rw [show a + 1 + b = a + (b + 1) by omega]
        exact this) (fun b b' hb hb' => by
        have := h2 (b + 1) (b' + 1) (by omega) (by rw [List.length_cons]; omega)
        rw [at_succ] at this
        rw [show a + 1 + b = a + (b + 1) by omega]
        exact this) (fun t ht b hb => by
        rw [show a + 1 + b = a + (b + 1) by omega]
        exact h3 t ht (b + 1) (by rw [List.length_cons]; omega))
      have e : r a = s := h1 0 (by rw [List.length_cons]; omega)
      rw [ih, e, Rat.pow_succ]
      grind
    · rcases List.mem_append.mp ht with z | z
      · obtain ⟨b, hb, e⟩ := mem_at z
        have := h2 0 (b + 1) (by omega) (by rw [List.length_cons]; omega)
        rw [at_succ, e] at this
        exact this
      · exact h3 t z 0 (by rw [List.length_cons]; omega)
theorem pow_add' {s : Rat} {a : Nat} : ∀ b : Nat, s ^ (a + b) = s ^ a * s ^ b
  | 0 => by rw [Rat.pow_zero, Nat.add_zero, Rat.mul_one]
  | b + 1 => by
    rw [← Nat.add_assoc, Rat.pow_succ, Rat.pow_succ, pow_add' b]
    grind
theorem pow_ne {s : Rat} (h : s ≠ 0) : ∀ n : Nat, s ^ n ≠ 0
  | 0 => by rw [Rat.pow_zero]; decide
  | n + 1 => fun z => by
    rw [Rat.pow_succ] at z
    rcases Rat.mul_eq_zero.mp z with y | y
    · exact pow_ne h n y
    · exact h y
theorem at_take {L : List Vec} {i b : Nat} (h : b < i) : at' (L.take i) b = at' L b := by
  unfold at'
  rw [List.getD_eq_getElem?_getD, List.getD_eq_getElem?_getD, List.getElem?_take_of_lt h]
theorem at_drop {L : List Vec} {i b : Nat} : at' (L.drop i) b = at' L (i + b) := by
  unfold at'
  rw [List.getD_eq_getElem?_getD, List.getD_eq_getElem?_getD, List.getElem?_drop]
theorem split_at {L : List Vec} {i : Nat} (h : i < L.length) : L = L.take i ++ at' L i :: L.drop (i + 1) := by
  have e : at' L i = L[i] := by unfold at'; rw [List.getD_eq_getElem?_getD, List.getElem?_eq_getElem h]; rfl
  rw [e, ← List.drop_eq_getElem_cons h, List.take_append_drop]
variable {M : Nat} {fh vh : List Vec} {tail : List (Vec × Vec)} {s : Rat}
/-- a row in front, in a column that is not done -/
theorem St.head_eq (h : St M fh vh tail s) {i j : Nat} (hi : i < fh.length) : ∃ J : List Nat, J.length = fh.length ∧ at' fh i j = det vh J := by
  obtain ⟨c, hc⟩ : ∃ c, c = fh.length := ⟨_, rfl⟩
  refine ⟨List.range' 0 i ++ j :: List.range' (i + 1) (c - (i + 1)), by rw [List.length_append, List.length_cons, List.length_range', List.length_range']; omega, ?_⟩
  have l1 : (fh.take i).length = i := by rw [List.length_take]; omega
  have l2 : (fh.drop (i + 1)).length = c - (i + 1) := by rw [List.length_drop]; omega
  have un := h.un
  have e1 := peel (s := s) (R := at' fh i :: fh.drop (i + 1)) (K := j :: List.range' (i + 1) (c - (i + 1))) (L := fh.take i) (a := 0) (fun b hb => by
    rw [l1] at hb
    rw [at_take hb, Nat.zero_add, un b b (by omega) (by omega), if_pos rfl]) (fun b b' hb hb' => by
    rw [l1] at hb'
    rw [at_take hb', Nat.zero_add, un b' b (by omega) (by omega), if_neg (by omega)]) (fun r hr b hb => by
    rw [l1] at hb
    rw [Nat.zero_add]
    rcases List.mem_cons.mp hr with z | z
    · rw [z, un i b (by omega) (by omega), if_neg (by omega)]
    · obtain ⟨b', hb', e⟩ := mem_at z
      rw [l2] at hb'
      rw [← e, at_drop, un (i + 1 + b') b (by omega) (by omega), if_neg (by omega)])
  have e2 : det (at' fh i :: fh.drop (i + 1)) (j :: List.range' (i + 1) (c - (i + 1))) = at' fh i j * det (fh.drop (i + 1)) (List.range' (i + 1) (c - (i + 1))) := det_peel' fun y hy => by
    rw [List.mem_range'_1] at hy
    rw [un i y (by omega) (by omega), if_neg (by omega)]
  have e3 := peel (s := s) (R := []) (K := []) (L := fh.drop (i + 1)) (a := i + 1) (fun b hb => by
    rw [l2] at hb
    rw [at_drop, un (i + 1 + b) (i + 1 + b) (by omega) (by omega), if_pos rfl]) (fun b b' hb hb' => by
    rw [l2] at hb'
    rw [at_drop, un (i + 1 + b') (i + 1 + b) (by omega) (by omega), if_neg (by omega)]) (fun r hr => nomatch hr)
  rw [List.append_nil, List.append_nil, l2] at e3
  rw [l1, ← split_at hi, e2, e3] at e1
  have d2 := h.d2 [] (List.range' 0 i ++ j :: List.range' (i + 1) (c - (i + 1)))
  rw [List.append_nil, List.append_nil, e1] at d2
  have e4 : det ([] : List Vec) [] = 1 := rfl
  rw [e4] at d2
  have hs := pow_ne h.ne fh.length
  have pc : s ^ fh.length = s ^ i * s ^ (c - (i + 1)) * s := by
    rw [← pow_add', ← Rat.pow_succ]
    congr 1
    omega
  have : s ^ fh.length * at' fh i j = s ^ fh.length * det vh (List.range' 0 i ++ j :: List.range' (i + 1) (c - (i + 1))) := by
    rw [← d2, pc]
    grind
  have h3 : s ^ fh.length * (at' fh i j - det vh (List.range' 0 i ++ j :: List.range' (i + 1) (c - (i + 1)))) = 0 := by grind
  have := (Rat.mul_eq_zero.mp h3).resolve_left hs
  grind
/-- a row behind -/
theorem St.tail_eq (h : St M fh vh tail s) {q : Vec × Vec} (hq : q ∈ tail) {j : Nat} : q.1 j = det (vh ++ [q.2]) (List.range' 0 fh.length ++ [j]) := by
  have un := h.un
  have e1 := peel (s := s) (R := [q.1]) (K := [j]) (L := fh) (a := 0) (fun b hb => by
    rw [Nat.zero_add, un b b hb hb, if_pos rfl]) (fun b b' hb hb' => by
    rw [Nat.zero_add, un b' b hb' (by omega), if_neg (by omega)]) (fun r hr b hb => by
    rw [Nat.zero_add, List.mem_singleton.mp hr]
    exact h.tz q hq b hb)
  have e2 : det [q.1] [j] = q.1 j := by
    show q.1 j * 1 - 0 = q.1 j
    grind
  have d3 := h.d3 q hq [] (List.range' 0 fh.length ++ [j])
  have d2 := h.d2 [q.2] (List.range' 0 fh.length ++ [j])
  rw [e2] at e1
  rw [e1, d2] at d3
  have h3 : s ^ fh.length * (q.1 j - det (vh ++ [q.2]) (List.range' 0 fh.length ++ [j])) = 0 := by grind
  have := (Rat.mul_eq_zero.mp h3).resolve_left (pow_ne h.ne _)
  grind
theorem St.head_wb (h : St M fh vh tail s) {r : Vec} (hr : r ∈ fh) (j : Nat) : WB ((fh.length * M) ^ fh.length) (r j) := by
  obtain ⟨i, hi, rfl⟩ := mem_at hr
  obtain ⟨J, hJ, e⟩ := h.head_eq (j := j) hi
  rw [e]
  have := det_wb (M := M) (rs := vh) (J := J) h.wv
  rwa [hJ, ← h.hl] at this
theorem St.tail_wb (h : St M fh vh tail s) {q : Vec × Vec} (hq : q ∈ tail) (j : Nat) : WB (((fh.length + 1) * M) ^ (fh.length + 1)) (q.1 j) := by
  rw [h.tail_eq hq]
  have := det_wb (M := M) (rs := vh ++ [q.2]) (J := List.range' 0 fh.length ++ [j]) fun r hr => by
    rcases List.mem_append.mp hr with z | z
    · exact h.wv r z
    · rw [List.mem_singleton.mp z]; exact h.wt q hq
  rwa [List.length_append, List.length_append, List.length_range', ← h.hl] at this
theorem St.s_wb (h : St M fh vh tail s) (hM : 1 ≤ M) : WB ((fh.length * M) ^ fh.length) s := by
  by_cases hc : fh.length = 0
  · have e1 : fh = [] := List.length_eq_zero_iff.mp hc
    have e2 : vh = [] := List.length_eq_zero_iff.mp (by rw [← h.hl]; exact hc)
    have d2 := h.d2 [] []
    rw [e1, e2] at d2
    have e3 : det ([] ++ [] : List Vec) [] = 1 := rfl
    rw [e3] at d2
    have : s = 1 := by
      have : s ^ ([] : List Vec).length = 1 := Rat.pow_zero _
      rw [this] at d2
      grind
    exact ⟨1, this, by rw [hc]; simp⟩
  · have := h.head_wb (at_mem (i := 0) (by omega)) 0
    rwa [h.un 0 0 (by omega) (by omega), if_pos rfl] at this
end Dt

set_option Elab.async false
set_option linter.all false
set_option maxRecDepth 100000
set_option maxHeartbeats 4000000
/-! zip of two lists, lcm, l * n, len of a dict, >>. -/
namespace Iv
open PySem PySem.Spec PyProof.Rows L2 Evl
section
variable {X : Cx} {S : Xs} {W : WX} {e e2 : Expr} {pos p tpos : Pos}
theorem Yl.zip {K : PySem.W.Frag} {G : Hp} {l m : List D} {a b : Addr} {vs ws : List V} (h1 : SqL K G a vs) (r1 : Rs K G l vs) (h2 : SqL K G b ws) (r2 : Rs K G m ws) : Yl K G (List.zipWith (fun x y => D.tup [x, y]) l m) (Itz K a b) := fun i F H e1 e2 => by
  have hs1 := ex_l (e1.trans e2) h1
  have hs2 := ex_l (e1.trans e2) h2
  refine ⟨fun d hd => ?_, fun z => ?_⟩
  · rw [List.getElem?_zipWith] at hd
    cases hl : l[i]? with
    | none => rw [hl] at hd; cases hd
    | some dx =>
      cases hm : m[i]? with
      | none => rw [hl, hm] at hd; cases hd
      | some dy =>
        rw [hl, hm] at hd
        cases hd
        obtain ⟨v, q1, q2⟩ := r1.get' hl
        obtain ⟨w, q3, q4⟩ := r2.get' hm
        refine ⟨⟨vs, ws, v, w, hs1, hs2, q1, q3⟩, fun x H' y => ?_⟩
        obtain ⟨T, x1, y1, rfl, hT, rfl, k1, k2⟩ := y
        have g1 := k1 vs hs1
        rw [q1] at g1
        cases g1
        have g2 := k2 ws hs2
        rw [q3] at g2
        cases g2
        have n := New.data (o := .tup [v, w]) e2 hT
        refine ⟨_, n, ?_⟩
        simp only [R]
        exact ⟨T, [v, w], rfl, upd_same, Rs.cons (q2.mono (e1.trans n.f)) (Rs.cons (q4.mono (e1.trans n.f)) Rs.nil)⟩
  · rw [List.length_zipWith] at z
    refine ⟨vs, ws, hs1, hs2, ?_⟩
    rw [r1.length, r2.length]
    omega
def mZip (f : M (List D)) : M (List D) := fun env => (f env).bind fun ds env => match ds with
  | [.lst l, .lst m] => .ok (List.zipWith (fun x y => D.tup [x, y]) l m) env
  | _ => .bad
theorem py_zip {f : M (List D)} {elts : List Expr} {kk : Nat} (hm : X.mg "zip" = none) (ha : PFs X S W [e, e2] f) (hg : Gl X "zip" := by rfl) (hs : starEach [e, e2] X.env = (false, eval e X.env) :: starEach [e2] X.env := by rfl) (hpl : (backTo pos (starEach [e2] X.env)).any (·.1) = false := by rfl) :
    PY X S W (.Tuple elts kk tpos) (.Call (.Name "zip" p) [e, e2] [] pos) (mZip f) :=
  PI.imp (pi_zip hg hm ha hs hpl) fun σ H R q => by
    obtain ⟨F, ef, q⟩ := rd_bind (T := TFs X.K) q
    refine rd_imp q fun vs H1 ⟨F1, env1, ds, g1, g2, rel1, rx, q⟩ => ?_
    have rx : Rs X.K F1 ds vs := rx
    dsimp only at q
    split at q
    · rename_i l m
      simp only [Rs, Iv.R] at rx
      obtain ⟨v, r, rfl, ⟨a, ws, rfl, ha, ra⟩, v2, r2, rfl, ⟨b, us, rfl, hb, rb⟩, rfl⟩ := rx
      exact ⟨a, b, ws, us, rfl, sq_of (rel1.ex a _ ha), sq_of (rel1.ex b _ hb), q _ F1 H1 Gr.refl rel1 (Yl.zip (sq_of ha) ra (sq_of hb) rb)⟩
    · exact q.elim
@[simp] theorem mZip_eq {f : M (List D)} {env : En} : mZip f env = (f env).bind fun ds env => match ds with
  | [.lst l, .lst m] => .ok (List.zipWith (fun x y => D.tup [x, y]) l m) env
  | _ => .bad := rfl
theorem blkOk_in {N' N : List Str} {sc' sc scope : Scope} {own : List (Str × Nat)} (hN : N' = N) (hs : sc' = sc) (h : blkC N sc scope own = true) : BlkOk N' sc' scope own := by
  subst hN hs
  exact blkOk_by h
def compSc (q sc : Scope) : Scope := { q with names := q.names.map fun (n, k) => if (k == .free && sc.kind == .function && sc.names.lookup n == some .cell) = true then (n, .cell) else (n, k) }
theorem comp_scope {e : PySem.Env} {q : Scope} {cl : List (Str × Addr)} {C : Addr} : (compEnvC q cl C e).scope = compSc q e.scope := rfl
theorem scs {q a c : Scope} (b : Scope) (h1 : c = compSc q a) (h2 : a = b) : c = compSc q b := h1.trans (congrArg _ h2)
theorem scss {q a b c : Scope} (h1 : c = compSc q a) (h2 : a = b) : c = compSc q b := h1.trans (congrArg _ h2)
/-! ### lcm -/
def rLcm : List V → Hp → VK → Prop := fun vs H Q => ∃ a b : Int, vs = [.int a, .int b] ∧ a.natAbs < 2 ^ 64 ∧ b.natAbs < 2 ^ 64 ∧ Q (.int (Nat.lcm a.natAbs b.natAbs : Nat)) H
theorem cr_lcm : CallR X (.builtin "math.lcm") rLcm := fun pins s σ H vs us Q I r ⟨a, b, e, h1, h2, q⟩ => by
  subst e
  obtain ⟨t, u, rfl⟩ := r.int2
  have e1 : Nat.lcm 1 a.natAbs = a.natAbs := Nat.lcm_one_left _
  have hb : Nat.lcm a.natAbs b.natAbs < 2 ^ 128 := by
    by_cases ha : a.natAbs = 0
    · rw [ha, Nat.lcm_zero_left]; decide
    · by_cases hb : b.natAbs = 0
      · rw [hb, Nat.lcm_zero_right]; decide
      · have l1 := Nat.lcm_le_mul (m := a.natAbs) (n := b.natAbs) (by omega) (by omega)
        have l2 := Nat.mul_lt_mul'' h1 h2
        have l3 : 2 ^ 64 * 2 ^ 64 = (2 : Nat) ^ 128 := by decide
        omega
  refine PySem.W.mg_lcm h1 h2 ?_ ?_
  · rw [e1, Int.natAbs_natCast]
    generalize Nat.lcm a.natAbs b.natAbs = n at *
    have l1 : n.log2 < 128 := by
      by_cases hn : n = 0
      · rw [hn]; decide
      · exact (Nat.log2_lt hn).mpr hb
    have l2 : 128 < bitsLine := by decide
    omega
  · rw [e1]
    exact ⟨.int (Nat.lcm a.natAbs b.natAbs : Nat), H, I.tok _, ⟨_, rfl⟩, q⟩
def cLcm : List D → Option Sv
  | [.int a, .int b] => if a.natAbs < 2 ^ 64 ∧ b.natAbs < 2 ^ 64 then some (.d (.int (Nat.lcm a.natAbs b.natAbs : Nat))) else none
  | _ => none
theorem cs_lcm {K : PySem.W.Frag} : ClS K rLcm cLcm := fun F H xs ds sv ef rx ho Q q => by
  unfold cLcm at ho
  split at ho
  · split at ho
    · rename_i a b hc
      cases ho
      obtain ⟨v, w, e, r1, r2⟩ := rx.two
      exact ⟨a, b, by rw [e, r1.int, r2.int], hc.1, hc.2, q _ F H (New.refl ef) (RVd Ri)⟩
    · cases ho
  · cases ho
theorem b_lcm {es : List Expr} {f : M (List D)} (hm : X.mg "lcm" = some (.builtin "math.lcm")) (ha : PPs X S W (e :: es) f) (hg : Gl X "lcm" := by rfl) (he : starEach (e :: es) X.env = (false, eval e X.env) :: starEach es X.env := by rfl) (hpl : (backTo pos (starEach es X.env)).any (·.1) = false := by rfl) : PD X S W (.Call (.Name "lcm" p) (e :: es) [] pos) (mCl cLcm f) := pd_callBf cr_lcm cs_lcm hg hm ha (by decide) he hpl
/-! ### l * n -/
def oRep : D → D → Option Sv
  | .lst l, .int k => if l.length ≤ 1000 ∧ -1000 ≤ k ∧ k ≤ 100 then some (.l (List.replicate k.toNat l).flatten) else none
  | _, _ => none
theorem Rs.rep {K : PySem.W.Frag} {F : Hp} {l : List D} {vs : List V} (r : Rs K F l vs) : ∀ n : Nat, Rs K F (List.replicate n l).flatten (List.replicate n vs).flatten
  | 0 => Rs.nil
  | n + 1 => by
    rw [List.replicate_succ, List.replicate_succ, List.flatten_cons, List.flatten_cons]
    exact r.append (Rs.rep r n)
theorem os_rep {K : PySem.W.Frag} : OpS K rRep oRep := fun F H x y dx dy sv ef rx ry ho Q q => by
  unfold oRep at ho
  split at ho
  · rename_i l k
    split at ho
    · rename_i hc
      cases ho
      obtain ⟨p, vs, rfl, hp, r⟩ := rx.lst ef
      refine ⟨p, k, vs, rfl, ry.int, hp, by omega, by omega, sz_of ?_, fun z hz => ?_⟩
      · rw [r.length]
        have := Nat.mul_le_mul hc.1 (show k.toNat ≤ 100 by omega)
        omega
      · exact q _ F _ (New.fresh ef hz) ⟨z, _, rfl, hz, fresh_back ef hz, upd_same, r.rep _⟩
    · cases ho
  · cases ho
/-! ### >> -/
def oShr : D → D → Option Sv := oI (fun _ j => decide (0 ≤ j)) fun i j => i / 2 ^ j.toNat
theorem os_shr {K : PySem.W.Frag} : OpS K (rI (fun _ j => 0 ≤ j) fun i j => .int (i / 2 ^ j.toNat)) oShr := op_I fun _ _ h => of_decide_eq_true h
/-! ### len of a dict -/
def cLenK : List D → Option Sv
  | [.dct ks _] => some (.d (.int ks.length))
  | _ => none
theorem cs_lenK {K : PySem.W.Frag} : ClS K (fun xs H Q => ∃ a kvs, xs = [V.ref a] ∧ H a = some (.dK kvs) ∧ Q (.int kvs.length) H) cLenK := fun F H xs ds sv ef rx ho Q q => by
  unfold cLenK at ho
  split at ho
  · cases ho
    obtain ⟨v, e0, r⟩ := rx.one
    subst e0
    obtain ⟨p, vs, e1, e2, e3, e4⟩ := r.dct ef
    subst e1
    refine ⟨p, _, rfl, e2, ?_⟩
    rw [List.length_zip, e3, Nat.min_self]
    exact q _ F H (New.refl ef) (RVd Ri)
  · cases ho
theorem b_lenK {es : List Expr} {f : M (List D)} (B : Bl X.mg) (ha : PPs X S W (e :: es) f) (hg : Gl X "len" := by rfl) (he : starEach (e :: es) X.env = (false, eval e X.env) :: starEach es X.env := by rfl) (hpl : (backTo pos (starEach es X.env)).any (·.1) = false := by rfl) : PD X S W (.Call (.Name "len" p) (e :: es) [] pos) (mCl cLenK f) := pd_callB call_lenD cs_lenK hg B.len PySem.boot_len ha (by decide) (by decide) he hpl
@[simp] theorem cLenK_dct {ks : List Key} {ds : List D} : cLenK [.dct ks ds] = some (.d (.int ks.length)) := rfl
end
end Iv

set_option Elab.async false
set_option linter.all false
set_option maxRecDepth 100000
set_option maxHeartbeats 4000000
/-! The elimination on rows of ints. -/
namespace Dt
def hd (r : List Int) : Int := r.getD 0 0
/-- the row after the head's multiple -/
def combI (s : Int) (h r : List Int) : List Int := List.zipWith (fun x y => (hd h * x - hd r * y).fdiv s) r.tail h.tail
def Rep (c : Nat) (v : Vec) (r : List Int) : Prop := ∀ k, v (c + k) = ((r.getD k 0 : Int) : Rat)
/-- the state with its rows of ints -/
structure Gs (M m n : Nat) (vs : List Vec) (hs : List (Vec × Vec × List Int)) (ts : List (Vec × Vec × List Int)) (s : Int) : Prop where
  st : St M (hs.map (·.1)) (hs.map (·.2.1)) (ts.map fun q => (q.1, q.2.1)) (s : Rat)
  len : hs.length + ts.length = n
  nm : n ≤ m
  wd : ∀ q, q ∈ hs ∨ q ∈ ts → q.2.2.length = m - hs.length
  rep : ∀ q, q ∈ hs ∨ q ∈ ts → Rep hs.length q.1 q.2.2
  vs : ∀ r, r ∈ vs ↔ ∃ q, (q ∈ hs ∨ q ∈ ts) ∧ q.2.1 = r
def vecI (r : List Int) : Vec := fun k => ((r.getD k 0 : Int) : Rat)
theorem getD_wb {M : Nat} {r : List Int} (h : ∀ x ∈ r, x.natAbs ≤ M) (k : Nat) : WB M (vecI r k) := by
  refine ⟨r.getD k 0, rfl, ?_⟩
  rw [List.getD_eq_getElem?_getD]
  cases e : r[k]? with
  | none => exact Nat.zero_le _
  | some x => exact h x (List.mem_of_getElem? e)
theorem Gs.start {M m n : Nat} {rows : List (List Int)} (hn : rows.length = n) (hm : n ≤ m) (hw : ∀ r ∈ rows, r.length = m) (hb : ∀ r ∈ rows, ∀ x ∈ r, x.natAbs ≤ M) : Gs M m n (rows.map vecI) [] (rows.map fun r => (vecI r, vecI r, r)) 1 where
  st := by
    have := St.start (M := M) (vs := rows.map vecI) fun r hr x => by
      obtain ⟨r0, h0, rfl⟩ := List.mem_map.mp hr
      exact getD_wb (hb r0 h0) x
    rw [List.map_map] at this ⊢
    exact this
  len := by rw [List.length_map, hn]; simp
  nm := hm
  wd := fun q hq => by
    rcases hq with z | z
    · cases z
    · obtain ⟨r, hr, rfl⟩ := List.mem_map.mp z
      exact hw r hr
  rep := fun q hq => by
    rcases hq with z | z
    · cases z
    · obtain ⟨r, hr, rfl⟩ := List.mem_map.mp z
      intro k
      show vecI r (0 + k) = _
      rw [Nat.zero_add]
      rfl
  vs := fun r => by
    rw [List.mem_map]
    constructor
    · rintro ⟨x, hx, rfl⟩
      exact ⟨_, .inr (List.mem_map.mpr ⟨x, hx, rfl⟩), rfl⟩
    · rintro ⟨q, hq | hq, rfl⟩
      · cases hq
      · obtain ⟨x, hx, rfl⟩ := List.mem_map.mp hq
        exact ⟨x, hx, rfl⟩
variable {M m n : Nat} {vs : List Vec} {hs ts : List (Vec × Vec × List Int)} {s : Int}
/-- the size of all ints -/
theorem Gs.size (g : Gs M m n vs hs ts s) (hM : 1 ≤ M) {q : Vec × Vec × List Int} (hq : q ∈ hs ∨ q ∈ ts) (k : Nat) : (q.2.2.getD k 0).natAbs ≤ (n * M) ^ n := by
  have pm : ∀ {a : Nat}, a ≤ n → (a * M) ^ a ≤ (n * M) ^ n := fun {a} ha => by
    by_cases h0 : n = 0
    · subst h0
      obtain rfl : a = 0 := by omega
      exact Nat.le_refl _
    · have h1 : 1 ≤ n * M := Nat.mul_pos (by omega) hM
      exact Nat.le_trans (Nat.pow_le_pow_left (Nat.mul_le_mul_right _ ha) _) (Nat.pow_le_pow_right h1 ha)
  have hl : (hs.map (·.1)).length = hs.length := List.length_map ..
  have key : WB ((n * M) ^ n) (q.1 (hs.length + k)) := by
    rcases hq with z | z
    · have := g.st.head_wb (List.mem_map.mpr ⟨q, z, rfl⟩) (hs.length + k)
      rw [hl] at this
      exact this.mono (pm (by have := g.len; omega))
    · have := g.st.tail_wb (q := (q.1, q.2.1)) (List.mem_map.mpr ⟨q, z, rfl⟩) (hs.length + k)
      rw [hl] at this
      have hne : 0 < ts.length := List.length_pos_of_mem z
      exact this.mono (pm (by have := g.len; omega))
  obtain ⟨z, e, hz⟩ := key
  rw [g.rep q hq k] at e
  have : q.2.2.getD k 0 = z := Rat.intCast_inj.mp e
  rw [this]
  exact hz
theorem Gs.size_s (g : Gs M m n vs hs ts s) (hM : 1 ≤ M) : s.natAbs ≤ (n * M) ^ n := by
  have := g.st.s_wb hM
  rw [List.length_map] at this
  obtain ⟨z, e, hz⟩ := this
  have : s = z := Rat.intCast_inj.mp e
  rw [this]
  refine Nat.le_trans hz ?_
  by_cases h0 : n = 0
  · have : hs.length = 0 := by have := g.len; omega
    rw [this, h0]
    exact Nat.le_refl _
  · have h1 : 1 ≤ n * M := Nat.mul_pos (by omega) hM
    have ha : hs.length ≤ n := by have := g.len; omega
    exact Nat.le_trans (Nat.pow_le_pow_left (Nat.mul_le_mul_right _ ha) _) (Nat.pow_le_pow_right h1 ha)
theorem Gs.perm (g : Gs M m n vs hs ts s) {ts' : List (Vec × Vec × List Int)} (p : ts.Perm ts') : Gs M m n vs hs ts' s where
  st := g.st.perm fun q => by
    have := (p.map fun q : Vec × Vec × List Int => (q.1, q.2.1)).mem_iff (a := q)
    exact this
  len := by rw [← p.length_eq]; exact g.len
  nm := g.nm
  wd := fun q hq => g.wd q (hq.imp id fun z => p.mem_iff.mpr z)
  rep := fun q hq => g.rep q (hq.imp id fun z => p.mem_iff.mpr z)
  vs := fun r => by
    rw [g.vs r]
    constructor
    · rintro ⟨q, hq, e⟩
      exact ⟨q, hq.imp id fun z => p.mem_iff.mp z, e⟩
    · rintro ⟨q, hq, e⟩
      exact ⟨q, hq.imp id fun z => p.mem_iff.mpr z, e⟩
theorem getD_tail {r : List Int} {k : Nat} : r.tail.getD k 0 = r.getD (k + 1) 0 := by
  rw [List.getD_eq_getElem?_getD, List.getD_eq_getElem?_getD, List.getElem?_tail]
theorem combI_len {s : Int} {h r : List Int} {w : Nat} (h1 : h.length = w) (h2 : r.length = w) : (combI s h r).length = w - 1 := by
  unfold combI
  rw [List.length_zipWith, List.length_tail, List.length_tail]
  omega
theorem getD_comb {s : Int} {h r : List Int} (hl : h.length = r.length) (k : Nat) : (combI s h r).getD k 0 = (hd h * r.getD (k + 1) 0 - hd r * h.getD (k + 1) 0).fdiv s := by
  unfold combI
  rw [List.getD_eq_getElem?_getD, List.getElem?_zipWith, List.getElem?_tail, List.getElem?_tail, List.getD_eq_getElem?_getD, List.getD_eq_getElem?_getD]
  by_cases hk : k + 1 < r.length
  · rw [List.getElem?_eq_getElem hk, List.getElem?_eq_getElem (by omega)]
    rfl
  · rw [List.getElem?_eq_none (by omega), List.getElem?_eq_none (by omega)]
    show (0 : Int) = (hd h * 0 - hd r * 0).fdiv s
    rw [Int.mul_zero, Int.mul_zero, Int.sub_zero, Int.zero_fdiv]
theorem Gs.step {t : Vec × Vec × List Int} (g : Gs M m n vs hs (t :: ts) s) (hp : hd t.2.2 ≠ 0) :
    Gs M m n vs (hs.map (fun q => (red hs.length (s : Rat) t.1 q.1, q.2.1, combI s t.2.2 q.2.2)) ++ [(t.1, t.2.1, t.2.2.tail)]) (ts.map fun q => (red hs.length (s : Rat) t.1 q.1, q.2.1, combI s t.2.2 q.2.2)) (hd t.2.2) := by
  obtain ⟨c, hc⟩ : ∃ c, c = hs.length := ⟨_, rfl⟩
  have rt := g.rep t (.inr List.mem_cons_self)
  have wt := g.wd t (.inr List.mem_cons_self)
  have t0 : t.1 c = ((hd t.2.2 : Int) : Rat) := by
    have := rt 0
    rwa [Nat.add_zero, ← hc] at this
  have hl : (hs.map (·.1)).length = c := by rw [List.length_map, hc]
  have st := g.st
  rw [List.map_cons] at st
  have st' := st.step (by
    rw [hl, t0]
    intro z
    exact hp (Rat.intCast_inj.mp z))
  rw [hl, t0] at st'
  rw [← hc]
  have S : St M ((hs.map (fun q => (red c (s : Rat) t.1 q.1, q.2.1, combI s t.2.2 q.2.2)) ++ [(t.1, t.2.1, t.2.2.tail)]).map (·.1)) ((hs.map (fun q => (red c (s : Rat) t.1 q.1, q.2.1, combI s t.2.2 q.2.2)) ++ [(t.1, t.2.1, t.2.2.tail)]).map (·.2.1)) ((ts.map fun q => (red c (s : Rat) t.1 q.1, q.2.1, combI s t.2.2 q.2.2)).map fun q => (q.1, q.2.1)) ((hd t.2.2 : Int) : Rat) := by
    rw [List.map_append, List.map_append, List.map_map, List.map_map, List.map_map]
    rw [List.map_map, List.map_map] at st'
    exact st'
  have hs0 : s ≠ 0 := fun z => g.st.ne (by rw [z]; rfl)
  have hlen : (hs.map (fun q => (red c (s : Rat) t.1 q.1, q.2.1, combI s t.2.2 q.2.2)) ++ [(t.1, t.2.1, t.2.2.tail)]).length = c + 1 := by rw [List.length_append, List.length_map, ← hc]; rfl
  have gl := g.len
  rw [List.length_cons] at gl
  -- one cleared row
  have core : ∀ q, (q ∈ hs ∨ q ∈ ts) → (∀ k, Whole (red c (s : Rat) t.1 q.1 k)) → Rep (c + 1) (red c (s : Rat) t.1 q.1) (combI s t.2.2 q.2.2) := fun q hq hw k => by
    have hq' : q ∈ hs ∨ q ∈ t :: ts := hq.imp id (List.mem_cons_of_mem _)
    have rq := g.rep q hq'
    rw [← hc] at rq rt
    have wq := g.wd q hq'
    rw [getD_comb (by rw [wt, wq])]
    obtain ⟨z, hz⟩ := hw (c + 1 + k)
    rw [hz]
    congr 1
    have e := red_at (c := c) (k := c + 1 + k) (s := (s : Rat)) (t := t.1) (r := q.1) (fun z => hs0 (Rat.intCast_inj.mp z))
    have e1 : q.1 (c + 1 + k) = ((q.2.2.getD (k + 1) 0 : Int) : Rat) := by rw [show c + 1 + k = c + (k + 1) by omega]; exact rq (k + 1)
    have e2 : t.1 (c + 1 + k) = ((t.2.2.getD (k + 1) 0 : Int) : Rat) := by rw [show c + 1 + k = c + (k + 1) by omega]; exact rt (k + 1)
    have e3 : q.1 c = ((hd q.2.2 : Int) : Rat) := by
      have := rq 0
      rwa [Nat.add_zero] at this
    rw [hz, t0, e1, e2, e3, ← Rat.intCast_mul, ← Rat.intCast_mul, ← Rat.intCast_mul, ← Rat.intCast_sub] at e
    have e := Rat.intCast_inj.mp e
    rw [← e]
    exact (Int.mul_fdiv_cancel_left _ hs0).symm
  have wh : ∀ v, v ∈ (hs.map (fun q => (red c (s : Rat) t.1 q.1, q.2.1, combI s t.2.2 q.2.2)) ++ [(t.1, t.2.1, t.2.2.tail)]).map (·.1) → ∀ k, Whole (v k) := fun v hv k => by
    obtain ⟨z, e, _⟩ := S.head_wb hv k
    exact ⟨z, e⟩
  have wtl : ∀ q, q ∈ (ts.map fun q => (red c (s : Rat) t.1 q.1, q.2.1, combI s t.2.2 q.2.2)).map (fun q => (q.1, q.2.1)) → ∀ k, Whole (q.1 k) := fun q hq k => by
    obtain ⟨z, e, _⟩ := S.tail_wb hq k
    exact ⟨z, e⟩
  refine ⟨S, ?_, g.nm, fun q hq => ?_, fun q hq => ?_, fun r => ?_⟩
  · rw [hlen, List.length_map]; omega
  · rw [hlen]
    rcases hq with z | z
    · rcases List.mem_append.mp z with z | z
      · obtain ⟨q0, h0, rfl⟩ := List.mem_map.mp z
        show (combI s t.2.2 q0.2.2).length = _
        rw [combI_len wt (g.wd q0 (.inl h0)), ← hc]
        omega
      · rw [List.mem_singleton.mp z]
        show t.2.2.tail.length = _
        rw [List.length_tail, wt, ← hc]
        omega
    · obtain ⟨q0, h0, rfl⟩ := List.mem_map.mp z
      show (combI s t.2.2 q0.2.2).length = _
      rw [combI_len wt (g.wd q0 (.inr (List.mem_cons_of_mem _ h0))), ← hc]
      omega
  · rw [hlen]
    rcases hq with z | z
    · rcases List.mem_append.mp z with y | y
      · obtain ⟨q0, h0, rfl⟩ := List.mem_map.mp y
        exact core q0 (.inl h0) (wh _ (List.mem_map.mpr ⟨_, z, rfl⟩))
      · rw [List.mem_singleton.mp y]
        intro k
        show t.1 (c + 1 + k) = ((t.2.2.tail.getD k 0 : Int) : Rat)
        rw [getD_tail, show c + 1 + k = c + (k + 1) by omega, hc]
        exact rt (k + 1)
    · obtain ⟨q0, h0, rfl⟩ := List.mem_map.mp z
      exact core q0 (.inr h0) (wtl (red c (s : Rat) t.1 q0.1, q0.2.1) (List.mem_map.mpr ⟨_, z, rfl⟩))
  · rw [g.vs r]
    constructor
    · rintro ⟨q, hq | hq, rfl⟩
      · exact ⟨_, .inl (List.mem_append_left _ (List.mem_map.mpr ⟨q, hq, rfl⟩)), rfl⟩
      · rcases List.mem_cons.mp hq with rfl | hq
        · exact ⟨_, .inl (List.mem_append_right _ List.mem_cons_self), rfl⟩
        · exact ⟨_, .inr (List.mem_map.mpr ⟨q, hq, rfl⟩), rfl⟩
    · rintro ⟨q, hq | hq, rfl⟩
      · rcases List.mem_append.mp hq with z | z
        · obtain ⟨q0, h0, rfl⟩ := List.mem_map.mp z
          exact ⟨q0, .inl h0, rfl⟩
        · rw [List.mem_singleton.mp z]
          exact ⟨t, .inr List.mem_cons_self, rfl⟩
      · obtain ⟨q0, h0, rfl⟩ := List.mem_map.mp hq
        exact ⟨q0, .inr (List.mem_cons_of_mem _ h0), rfl⟩
end Dt

set_option Elab.async false
set_option linter.all false
set_option maxRecDepth 100000
set_option maxHeartbeats 4000000
/-! solve: linear systems. -/
namespace Law
open PySem PySem.Spec PyProof.Rows L2 Evl Iv
noncomputable def g_whole_row : M Fl :=
    mSeq (mSet 1 (mC (.int 1)))
    (mSeq (mFor (γT 2 (γCons (γN 2) (γCons (γN 3) (γNil)))) (mIt (mD (mVar 0))) (mSet 1 (mCl cLcm (mCons (mPk 1) (mCons (mPk 3) (mNil))))))
    (mRet (mD (mLc [4, 3] (γT 2 (γCons (γN 4) (γCons (γN 3) (γNil)))) (mIt (mD (mVar 0))) (mYes) (mD (mOp oMul (mPk 4) (mD (mOp oDiv (mPk 1) (mPk 3)))))))))
noncomputable def f_whole_row : List D → FR := runF 5 g_whole_row
noncomputable def g_pivot_position : M Fl :=
    mSeq (mFor (γN 2) (mRng2 (mCons (mPk 1) (mCons (mD (mCl cLen (mCons (mPk 0) (mNil)))) (mNil)))) (mIfS (mB (mOp oNe (mD (mOp oIx (mD (mOp oIx (mPk 0) (mPk 2))) (mD (mC (.int 0))))) (mD (mC (.int 0))))) (mRet (mD (mVar 2))) (mNx)))
    (mRet (mD (mC .non)))
noncomputable def f_pivot_position : List D → FR := runF 3 g_pivot_position
noncomputable def g_brought_up : M Fl :=
    mRet (mD (mOp oAdd (mD (mOp oAdd (mD (mOp oAdd (mD (mSl (mPk 0) (mNoP) (mPart (mPk 1)))) (mD (mLst (mCons (mD (mOp oIx (mPk 0) (mPk 2))) (mNil)))))) (mD (mSl (mPk 0) (mPart (mPk 1)) (mPart (mPk 2)))))) (mD (mSl (mPk 0) (mPart (mD (mOp oAdd (mPk 2) (mD (mC (.int 1)))))) (mNoP)))))
noncomputable def f_brought_up : List D → FR := runF 3 g_brought_up
noncomputable def g_combined : M Fl :=
    mSeq (mSet 3 (mOp oIx (mPk 1) (mD (mC (.int 0)))))
    (mSeq (mSet 4 (mOp oIx (mPk 0) (mD (mC (.int 0)))))
    (mRet (mD (mLc [5, 6] (γT 2 (γCons (γN 5) (γCons (γN 6) (γNil)))) (mZip (mCons (mD (mSl (mPk 0) (mPart (mD (mC (.int 1)))) (mNoP))) (mCons (mD (mSl (mPk 1) (mPart (mD (mC (.int 1)))) (mNoP))) (mNil)))) (mYes) (mD (mOp oDiv (mD (mOp oSub (mD (mOp oMul (mPk 3) (mPk 5))) (mD (mOp oMul (mPk 4) (mPk 6))))) (mPk 2)))))))
noncomputable def f_combined : List D → FR := runF 7 g_combined
noncomputable def g_without_first_column : M Fl :=
    mSeq (mSet 3 (mOp oIx (mPk 0) (mPk 1)))
    (mSeq (mSet 4 (mLst (mNil)))
    (mSeq (mFor (γN 5) (mRng1 (mCons (mD (mCl cLen (mCons (mPk 0) (mNil)))) (mNil))) (mIfS (mB (mOp oEq (mPk 5) (mPk 1))) (mApp 4 (mD (mSl (mPk 3) (mPart (mD (mC (.int 1)))) (mNoP)))) (mApp 4 (mD (mCall 3 f_combined (mCons (mD (mOp oIx (mPk 0) (mPk 5))) (mCons (mD (mVar 3)) (mCons (mD (mVar 2)) (mNil)))))))))
    (mRet (mD (mVar 4)))))
noncomputable def f_without_first_column : List D → FR := runF 6 g_without_first_column
noncomputable def g_eliminated : M Fl :=
    mSeq (mSet 2 (mC (.int 1)))
    (mSeq (mFor (γN 3) (mRng1 (mCons (mPk 1) (mNil))) (mSeq (mSet 4 (mCall 2 f_pivot_position (mCons (mD (mVar 0)) (mCons (mD (mVar 3)) (mNil)))))
    (mSeq (mIfS (mB (mOp oIs (mPk 4) (mD (mC .non)))) (mRet (mD (mTup (mCons (mD (mVar 0)) (mCons (mD (mVar 2)) (mCons (mD (mVar 3)) (mNil))))))) (mNx))
    (mSeq (mSet 0 (mCall 3 f_brought_up (mCons (mD (mVar 0)) (mCons (mD (mVar 3)) (mCons (mD (mVar 4)) (mNil))))))
    (mSeq (mSet 5 (mOp oIx (mD (mOp oIx (mPk 0) (mPk 3))) (mD (mC (.int 0)))))
    (mSeq (mSet 0 (mCall 3 f_without_first_column (mCons (mD (mVar 0)) (mCons (mD (mVar 3)) (mCons (mD (mVar 2)) (mNil))))))
    (mSet 2 (mVar 5))))))))
    (mRet (mD (mTup (mCons (mD (mVar 0)) (mCons (mD (mVar 2)) (mCons (mD (mVar 1)) (mNil))))))))
noncomputable def f_eliminated : List D → FR := runF 6 g_eliminated
noncomputable def g_ratio_row : M Fl :=
    mRet (mD (mCl cTuple (mCons (mD (mLc [2] (γN 2) (mIt (mD (mVar 0))) (mYes) (mD (mCall 2 f_make_ratio (mCons (mD (mVar 2)) (mCons (mD (mVar 1)) (mNil))))))) (mNil))))
noncomputable def f_ratio_row : List D → FR := runF 3 g_ratio_row
noncomputable def g_dependency : M Fl :=
    mSeq (mSet 1 (mCl cLen (mCons (mPk 0) (mNil))))
    (mSeq (mSet 2 (mLc [7] (γN 7) (mRng1 (mCons (mPk 1) (mNil))) (mYes) (mD (mCall 1 f_whole_row (mCons (mD (mLc [8] (γN 8) (mIt (mD (mVar 0))) (mYes) (mD (mOp oIx (mPk 8) (mPk 7))))) (mNil))))))
    (mSeq (mAsg (γT 3 (γCons (γN 4) (γCons (γN 5) (γCons (γN 6) (γNil))))) (mD (mCall 2 f_eliminated (mCons (mD (mVar 2)) (mCons (mD (mVar 1)) (mNil))))))
    (mSeq (mSet 3 (mOp oAdd (mD (mOp oAdd (mD (mLc [8] (γN 8) (mIt (mD (mSl (mPk 4) (mNoP) (mPart (mPk 6))))) (mYes) (mD (mOp oIx (mPk 8) (mD (mC (.int 0))))))) (mD (mLst (mCons (mD (mUn oNeg (mPk 5))) (mNil)))))) (mD (mOp oRep (mD (mLst (mCons (mD (mC (.int 0))) (mNil)))) (mD (mOp oSub (mD (mOp oSub (mPk 1) (mPk 6))) (mD (mC (.int 1)))))))))
    (mRet (mD (mCall 2 f_ratio_row (mCons (mD (mVar 3)) (mCons (mD (mC (.int 1))) (mNil)))))))))
noncomputable def f_dependency : List D → FR := runF 9 g_dependency
noncomputable def g_solve : M Fl :=
    mSeq (mSet 2 (mCl cLen (mCons (mPk 0) (mNil))))
    (mSeq (mSet 3 (mLc [6] (γN 6) (mRng1 (mCons (mPk 2) (mNil))) (mYes) (mD (mCall 1 f_whole_row (mCons (mD (mOp oAdd (mD (mOp oIx (mPk 0) (mPk 6))) (mD (mOp oIx (mPk 1) (mPk 6))))) (mNil))))))
    (mSeq (mAsg (γT 3 (γCons (γN 3) (γCons (γN 4) (γCons (γN 5) (γNil))))) (mD (mCall 2 f_eliminated (mCons (mD (mVar 3)) (mCons (mD (mVar 2)) (mNil))))))
    (mSeq (mIfS (mB (mOp oLt (mPk 5) (mPk 2))) (mRet (mD (mTup (mCons (mD (mC (.str "dependency"))) (mCons (mD (mCall 1 f_dependency (mCons (mD (mVar 0)) (mNil)))) (mNil)))))) (mNx))
    (mRet (mD (mTup (mCons (mD (mC (.str "solution"))) (mCons (mD (mCl cTuple (mCons (mD (mLc [7] (γN 7) (mIt (mD (mVar 3))) (mYes) (mD (mCall 2 f_ratio_row (mCons (mD (mVar 7)) (mCons (mD (mVar 4)) (mNil))))))) (mNil)))) (mNil)))))))))
noncomputable def f_solve : List D → FR := runF 8 g_solve
def iR (r : List Int) : D := .lst (r.map D.int)
def iM (rows : List (List Int)) : D := .lst (rows.map iR)
def qT (r : List Rat) : D := .tup (r.map enc)
/-! ### a row of whole numbers -/
def lcmQ (r : List Rat) : Nat := r.foldl (fun a q => Nat.lcm a q.den) 1
def wholeI (r : List Rat) : List Int := r.map fun q => q.num * (((lcmQ r) / q.den : Nat) : Int)
theorem lcm_dvd (r : List Rat) : ∀ a, a ∣ r.foldl (fun a q => Nat.lcm a q.den) a ∧ ∀ q ∈ r, q.den ∣ r.foldl (fun a q => Nat.lcm a q.den) a := by
  induction r with
  | nil => exact fun a => ⟨Nat.dvd_refl _, (fun _ z => nomatch z)⟩
  | cons p r ih =>
    intro a
    obtain ⟨h1, h2⟩ := ih (Nat.lcm a p.den)
    refine ⟨Nat.dvd_trans (Nat.dvd_lcm_left _ _) h1, fun q hq => ?_⟩
    rcases List.mem_cons.mp hq with z | z
    · rw [z]; exact Nat.dvd_trans (Nat.dvd_lcm_right _ _) h1
    · exact h2 q z
theorem lcm_pos (r : List Rat) : ∀ a, 0 < a → 0 < r.foldl (fun a q => Nat.lcm a q.den) a := by
  induction r with
  | nil => exact fun a h => h
  | cons p r ih => exact fun a h => ih _ (Nat.lcm_pos h p.den_pos)
theorem lcm_take (r : List Rat) (i : Nat) : (r.take i).foldl (fun a q => Nat.lcm a q.den) 1 ≤ lcmQ r := by
  have h := (lcm_dvd (r.drop i) ((r.take i).foldl (fun a q => Nat.lcm a q.den) 1)).1
  have e : (r.drop i).foldl (fun a q => Nat.lcm a q.den) ((r.take i).foldl (fun a q => Nat.lcm a q.den) 1) = lcmQ r := by
    unfold lcmQ
    rw [← List.foldl_append, List.take_append_drop]
  rw [e] at h
  exact Nat.le_of_dvd (lcm_pos r 1 (by decide)) h
theorem whole_val {r : List Rat} {q : Rat} (h : q ∈ r) : ((q.num * (((lcmQ r) / q.den : Nat) : Int) : Int) : Rat) = ((lcmQ r : Nat) : Rat) * q := by
  obtain ⟨k, hk⟩ := (lcm_dvd r 1).2 q h
  have hk : lcmQ r = q.den * k := hk
  have hd : (q.den : Rat) ≠ 0 := fun z => by
    have := q.den_nz
    exact this (by exact_mod_cast z)
  rw [hk, Nat.mul_div_cancel_left _ q.den_pos, Rat.intCast_mul]
  have e : q = (q.num : Rat) / (q.den : Rat) := by
    have h1 := Rat.num_divInt_den q
    rw [Rat.divInt_eq_div] at h1
    exact h1.symm
  have e2 : (q.den : Rat) * q = (q.num : Rat) := by
    have := Rat.div_mul_cancel (a := (q.num : Rat)) hd
    rw [← e] at this
    rw [Rat.mul_comm]
    exact this
  have e3 : (((q.den * k : Nat)) : Rat) = (q.den : Rat) * (k : Rat) := by exact_mod_cast rfl
  rw [e3, ← e2]
  have e4 : (((k : Nat) : Int) : Rat) = (k : Rat) := rfl
  rw [e4]
  grind
theorem whole_row_eq {r : List Rat} {c : List D → D} {b : Nat} (hc : c = D.tup ∨ c = D.lst) (hl : r.length ≤ 1000) (h64 : lcmQ r < 2 ^ 64) (hb : ∀ q ∈ r, Sz b q) (hB : b + 64 ≤ 130000000) : f_whole_row [c (r.map enc)] = .ok (iR (wholeI r)) := by
  obtain ⟨cd, hcd⟩ : ∃ cd, cd = c (r.map enc) := ⟨_, rfl⟩
  have it : itemsOf cd = some (r.map enc) := by rcases hc with rfl | rfl <;> rw [hcd] <;> rfl
  have key := for_inv (γ := γT 2 (γCons (γN 2) (γCons (γN 3) (γNil)))) (g := mSet 1 (mCl cLcm (mCons (mPk 1) (mCons (mPk 3) (mNil))))) (all := r.map enc) (env := [.fr cd, .fr (.int 1), .un, .un, .un])
    (fun i env => ∃ s2 s3, env = [.fr cd, .fr (.int (((r.take i).foldl (fun a q => Nat.lcm a q.den) 1 : Nat) : Int)), s2, s3, .un]) ⟨.un, .un, rfl⟩ (by
      rintro i x env hx ⟨s2, s3, rfl⟩
      rw [List.getElem?_map] at hx
      obtain ⟨q, hg, rfl⟩ := Option.map_eq_some_iff.mp hx
      have h1 := lcm_take r i
      have hd : q.den ≤ lcmQ r := Nat.le_of_dvd (lcm_pos r 1 (by decide)) ((lcm_dvd r 1).2 q (List.mem_of_getElem? hg))
      have h2 : (r.take (i + 1)).foldl (fun a q => Nat.lcm a q.den) 1 = Nat.lcm ((r.take i).foldl (fun a q => Nat.lcm a q.den) 1) q.den := by
        rw [List.take_succ, hg, List.foldl_append]
        rfl
      rw [h2]
      generalize (r.take i).foldl (fun a q => Nat.lcm a q.den) 1 = L at *
      have cl : cLcm [.int (L : Int), .int (q.den : Int)] = some (.d (.int ((Nat.lcm L q.den : Nat) : Int))) := by
        unfold cLcm
        dsimp only
        rw [if_pos ⟨by rw [Int.natAbs_natCast]; omega, by rw [Int.natAbs_natCast]; omega⟩]
        rfl
      refine ⟨[.fr cd, .fr (.int (L : Int)), .fr (.int q.num), .fr (.int (q.den : Int)), .un], [.fr cd, .fr (.int ((Nat.lcm L q.den : Nat) : Int)), .fr (.int q.num), .fr (.int (q.den : Int)), .un], rfl, ?_, _, _, rfl⟩
      simp [cl])
  obtain ⟨env', k1, s2, s3, rfl⟩ := key
  rw [List.length_map, List.take_length] at k1
  have lq : r.foldl (fun a q => Nat.lcm a q.den) 1 = lcmQ r := rfl
  rw [lq] at k1
  have k2 := compL_map (enc := enc) (h := fun q : Rat => D.int (q.num * (((lcmQ r) / q.den : Nat) : Int))) (vs := [4, 3]) (γ := γT 2 (γCons (γN 4) (γCons (γN 3) (γNil)))) (cond := mYes) (elt := mD (mOp oMul (mPk 4) (mD (mOp oDiv (mPk 1) (mPk 3))))) (env := [.fr cd, .fr (.int ((lcmQ r : Nat) : Int)), s2, .un, .un]) (xs := r) (acc := []) (fun q hq => by
    have dv : oDiv (.int ((lcmQ r : Nat) : Int)) (.int (q.den : Int)) = some (.d (.int (((lcmQ r) / q.den : Nat) : Int))) := by
      rw [oDiv_int (by have := q.den_pos; omega), Int.fdiv_eq_ediv_of_nonneg _ (by omega)]
      rfl
    have ml : oMul (.int q.num) (.int (((lcmQ r) / q.den : Nat) : Int)) = some (.d (.int (q.num * (((lcmQ r) / q.den : Nat) : Int)))) := oMul_int (mulOk_of (a := b) (b := 64) (hb q hq).1 (by
      rw [Int.natAbs_natCast]
      exact Nat.lt_of_le_of_lt (Nat.div_le_self _ _) h64) hB)
    refine ⟨[.fr cd, .fr (.int ((lcmQ r : Nat) : Int)), s2, .fr (.int (q.den : Int)), .fr (.int q.num)], _, [.fr cd, .fr (.int ((lcmQ r : Nat) : Int)), s2, .fr (.int (q.den : Int)), .fr (.int q.num)], rfl, rfl, ?_, rfl⟩
    generalize (((lcmQ r) / q.den : Nat) : Int) = L2 at *
    generalize ((lcmQ r : Nat) : Int) = L at *
    simp [dv, ml])
  rw [List.nil_append] at k2
  have e : (r.map fun q : Rat => D.int (q.num * (((lcmQ r) / q.den : Nat) : Int))) = (wholeI r).map D.int := by
    unfold wholeI
    rw [List.map_map]
    rfl
  rw [e] at k2
  have l9 : (r.map enc).length ≤ 90000 := by rw [List.length_map]; omega
  rw [← hcd]
  unfold iR
  generalize (wholeI r).map D.int = wl at *
  generalize r.map enc = rl at *
  generalize ((lcmQ r : Nat) : Int) = L at *
  clear hcd
  simp [f_whole_row, g_whole_row, it, k1, l9, k2]
/-! ### a pivot -/
theorem upTo_succ {lo : Int} {n : Nat} : Iv.upTo lo (n + 1) = .int lo :: Iv.upTo (lo + 1) n := by
  unfold Iv.upTo
  rw [List.range_succ_eq_map, List.map_cons, List.map_map]
  congr 1
  · show D.int (lo + 0) = _
    rw [Int.add_zero]
  · refine List.map_congr_left fun k _ => ?_
    show D.int (lo + ((k + 1 : Nat) : Int)) = D.int (lo + 1 + (k : Int))
    congr 1
    omega
def findP : List (List Int) → Option Nat
  | [] => none
  | r :: T => if Dt.hd r ≠ 0 then some 0 else (findP T).map (· + 1)
theorem at_iM {rows : List (List Int)} {k : Nat} {r : List Int} (h : rows[k]? = some r) : oIx (iM rows) (nI k) = some (.d (iR r)) := by
  show (atI (rows.map iR) (k : Int)).map Sv.d = _
  rw [atI_nat', List.getElem?_map, h]
  rfl
theorem at_iR0 {r : List Int} (h : r ≠ []) : oIx (iR r) (.int 0) = some (.d (.int (Dt.hd r))) := by
  match r, h with
  | x :: r, _ =>
    show (atI ((x :: r).map D.int) ((0 : Nat) : Int)).map Sv.d = _
    rw [atI_nat']
    rfl
theorem pivot_go {rows : List (List Int)} {c : Nat} : ∀ (T pre : List (List Int)) (s2 : Sl), rows = pre ++ T → (∀ r ∈ T, r ≠ []) →
    ∃ E, forL (γN 2) (mIfS (mB (mOp oNe (mD (mOp oIx (mD (mOp oIx (mPk 0) (mPk 2))) (mD (mC (.int 0))))) (mD (mC (.int 0))))) (mRet (mD (mVar 2))) (mNx)) (Iv.upTo (pre.length : Int) T.length) [.fr (iM rows), .fr (nI c), s2] = match findP T with | some k => .ok (.rt (nI (pre.length + k))) E | none => .ok .nx E
  | [], pre, s2, _, _ => ⟨_, rfl⟩
  | r :: T, pre, s2, h, hne => by
    have h1 : oIx (iM rows) (nI pre.length) = some (.d (iR r)) := at_iM (by rw [h, List.getElem?_append_right (Nat.le_refl _), Nat.sub_self]; rfl)
    have h2 := at_iR0 (hne r List.mem_cons_self)
    rw [List.length_cons, upTo_succ, forL_cons]
    have g : γN 2 (.int (pre.length : Int)) [.fr (iM rows), .fr (nI c), s2] = some [.fr (iM rows), .fr (nI c), .fr (nI pre.length)] := rfl
    rw [g]
    dsimp only
    unfold findP
    by_cases hz : Dt.hd r = 0
    · obtain ⟨E, e⟩ := pivot_go (rows := rows) (c := c) T (pre ++ [r]) (.fr (nI pre.length)) (by rw [h, List.append_assoc]; rfl) fun x hx => hne x (List.mem_cons_of_mem _ hx)
      rw [List.length_append] at e
      have e0 : (((pre.length + [r].length : Nat)) : Int) = (pre.length : Int) + 1 := by simp
      rw [e0] at e
      refine ⟨E, ?_⟩
      rw [if_neg (not_not_intro hz)]
      have st : (mIfS (mB (mOp oNe (mD (mOp oIx (mD (mOp oIx (mPk 0) (mPk 2))) (mD (mC (.int 0))))) (mD (mC (.int 0))))) (mRet (mD (mVar 2))) (mNx)) [.fr (iM rows), .fr (nI c), .fr (nI pre.length)] = .ok .nx [.fr (iM rows), .fr (nI c), .fr (nI pre.length)] := by
        generalize iM rows = mm at *
        generalize nI pre.length = pp at *
        simp [h1, h2, hz]
      rw [st]
      dsimp only
      rw [e]
      cases findP T with
      | none => rfl
      | some k =>
        show Res.ok (Fl.rt (nI (pre.length + [r].length + k))) E = Res.ok (Fl.rt (nI (pre.length + (k + 1)))) E
        rw [show pre.length + [r].length + k = pre.length + (k + 1) by simp; omega]
    · refine ⟨[.fr (iM rows), .fr (nI c), .fr (nI pre.length)], ?_⟩
      rw [if_pos hz]
      have st : (mIfS (mB (mOp oNe (mD (mOp oIx (mD (mOp oIx (mPk 0) (mPk 2))) (mD (mC (.int 0))))) (mD (mC (.int 0))))) (mRet (mD (mVar 2))) (mNx)) [.fr (iM rows), .fr (nI c), .fr (nI pre.length)] = .ok (.rt (nI pre.length)) [.fr (iM rows), .fr (nI c), .fr (nI pre.length)] := by
        generalize iM rows = mm at *
        generalize nI pre.length = pp at *
        simp [h1, h2, hz]
      rw [st]
      rfl
theorem pivot_eq {Hs T : List (List Int)} (hl : Hs.length + T.length ≤ 1000) (hne : ∀ r ∈ T, r ≠ []) : f_pivot_position [iM (Hs ++ T), nI Hs.length] = .ok (match findP T with | some k => nI (Hs.length + k) | none => .non) := by
  obtain ⟨E, e⟩ := pivot_go (rows := Hs ++ T) (c := Hs.length) T Hs .un rfl hne
  have s1 : small (Hs.length : Int) = true := small_nat (by omega)
  have s2 : small ((Hs.length : Int) + (T.length : Int)) = true := by
    have := small_nat (n := Hs.length + T.length) (by omega)
    rwa [Int.natCast_add] at this
  have ll : cLen [iM (Hs ++ T)] = some (.d (.int ((Hs.length : Int) + (T.length : Int)))) := by
    show some (Sv.d (D.int (((Hs ++ T).map iR).length : Nat))) = _
    rw [List.length_map, List.length_append, Int.natCast_add]
  have e1 : ((Hs.length : Int) + (T.length : Int) - (Hs.length : Int)).toNat = T.length := by omega
  generalize iM (Hs ++ T) = mm at *
  unfold nI at *
  cases hf : findP T with
  | none =>
    rw [hf] at e
    simp [f_pivot_position, g_pivot_position, ll, s1, s2, e1, e]
  | some k =>
    rw [hf] at e
    simp [f_pivot_position, g_pivot_position, ll, s1, s2, e1, e]
end Law
namespace Law
open PySem PySem.Spec PyProof.Rows L2 Evl Iv
theorem cut_to {α : Type} {l : List α} {i : Nat} : cutL l none (some (i : Int)) = l.take i := by
  unfold cutL
  rw [HT.sIx_none, HT.sIx_nat, List.drop_zero, Nat.sub_zero]
  by_cases h : i ≤ l.length
  · rw [Nat.min_eq_left h]
  · rw [Nat.min_eq_right (by omega), List.take_length, List.take_of_length_le (by omega)]
theorem cut_from {α : Type} {l : List α} {i : Nat} : cutL l (some (i : Int)) none = l.drop i := by
  unfold cutL
  rw [HT.sIx_none, HT.sIx_nat]
  by_cases h : i ≤ l.length
  · rw [Nat.min_eq_left h, List.take_of_length_le (by rw [List.length_drop]; omega)]
  · rw [Nat.min_eq_right (by omega), List.drop_length, List.drop_of_length_le (by omega)]
    simp
theorem cut_mid {α : Type} {l : List α} {i j : Nat} (h : i ≤ j) (hj : j ≤ l.length) : cutL l (some (i : Int)) (some (j : Int)) = (l.drop i).take (j - i) := by
  unfold cutL
  rw [HT.sIx_nat, HT.sIx_nat, Nat.min_eq_left (by omega), Nat.min_eq_left (by omega)]
theorem brought_eq {Hs T1 T2 : List (List Int)} {r : List Int} (hl : Hs.length + T1.length + T2.length + 1 ≤ 1000) : f_brought_up [iM (Hs ++ T1 ++ r :: T2), nI Hs.length, nI (Hs.length + T1.length)] = .ok (iM (Hs ++ r :: (T1 ++ T2))) := by
  obtain ⟨rows, hr⟩ : ∃ rows, rows = Hs ++ T1 ++ r :: T2 := ⟨_, rfl⟩
  have hlen : rows.length = Hs.length + T1.length + T2.length + 1 := by rw [hr]; simp; omega
  have c1 : oSl (iM rows) none (some (Hs.length : Int)) = some (.l (Hs.map iR)) := by
    show some (Sv.l (cutL (rows.map iR) _ _)) = _
    rw [cut_to, ← List.map_take, hr, List.append_assoc, List.take_left]
  have c2 : oSl (iM rows) (some (Hs.length : Int)) (some ((Hs.length + T1.length : Nat) : Int)) = some (.l (T1.map iR)) := by
    show some (Sv.l (cutL (rows.map iR) _ _)) = _
    rw [cut_mid (by omega) (by rw [List.length_map]; omega), ← List.map_drop, ← List.map_take, hr, List.append_assoc, List.drop_left, Nat.add_sub_cancel_left, List.take_left]
  have c3 : oSl (iM rows) (some ((Hs.length + T1.length + 1 : Nat) : Int)) none = some (.l (T2.map iR)) := by
    show some (Sv.l (cutL (rows.map iR) _ _)) = _
    rw [cut_from, ← List.map_drop, hr]
    have e : Hs ++ T1 ++ r :: T2 = (Hs ++ T1 ++ [r]) ++ T2 := by simp
    have e2 : Hs.length + T1.length + 1 = (Hs ++ T1 ++ [r]).length := by simp; omega
    rw [e, e2, List.drop_left]
  have ix : oIx (iM rows) (nI (Hs.length + T1.length)) = some (.d (iR r)) := at_iM (by rw [hr, List.getElem?_append_right (by simp), List.length_append, Nat.sub_self]; rfl)
  have a1 : oAdd (.lst (Hs.map iR)) (.lst [iR r]) = some (.l (Hs.map iR ++ [iR r])) := oAdd_lst (by simp; omega)
  have a2 : oAdd (.lst (Hs.map iR ++ [iR r])) (.lst (T1.map iR)) = some (.l (Hs.map iR ++ [iR r] ++ T1.map iR)) := oAdd_lst (by simp; omega)
  have a3 : oAdd (.lst (Hs.map iR ++ [iR r] ++ T1.map iR)) (.lst (T2.map iR)) = some (.l (Hs.map iR ++ [iR r] ++ T1.map iR ++ T2.map iR)) := oAdd_lst (by simp; omega)
  have fin : iM (Hs ++ r :: (T1 ++ T2)) = .lst (Hs.map iR ++ [iR r] ++ T1.map iR ++ T2.map iR) := by
    unfold iM
    simp
  rw [← hr, fin]
  have n1 : nI Hs.length = .int (Hs.length : Int) := rfl
  have n2 : nI (Hs.length + T1.length) = .int ((Hs.length + T1.length : Nat) : Int) := rfl
  have n3 : ((Hs.length + T1.length : Nat) : Int) + 1 = ((Hs.length + T1.length + 1 : Nat) : Int) := by omega
  rw [n1, n2]
  rw [n2] at ix
  rw [← n3] at c3
  generalize ((Hs.length + T1.length : Nat) : Int) = kk at *
  generalize (Hs.length : Int) = cc at *
  generalize iM rows = mm at *
  generalize Hs.map iR = h1 at *
  generalize T1.map iR = h2 at *
  generalize T2.map iR = h3 at *
  generalize iR r = rr at *
  simp only [List.append_assoc, List.cons_append, List.nil_append] at a1 a2 a3 ⊢
  simp [f_brought_up, g_brought_up, c1, c2, c3, ix, a1, a2, a3]
/-! ### one row after the head's multiple -/
theorem zip_tails {h r : List Int} : List.zipWith (fun x y => D.tup [x, y]) (r.tail.map D.int) (h.tail.map D.int) = (List.zip r.tail h.tail).map fun p => D.tup [.int p.1, .int p.2] := by
  rw [List.zip, List.map_zipWith, List.zipWith_map]
theorem combined_eq {s : Int} {h r : List Int} {b : Nat} (hh : h ≠ []) (hr : r ≠ []) (hl : r.length ≤ 1000) (hs : s ≠ 0) (bh : ∀ x ∈ h, x.natAbs < 2 ^ b) (br : ∀ x ∈ r, x.natAbs < 2 ^ b) (hb : 2 * b ≤ 130000000) : f_combined [iR r, iR h, .int s] = .ok (iR (Dt.combI s h r)) := by
  have ih := at_iR0 hh
  have ir := at_iR0 hr
  have mh : Dt.hd h ∈ h := by
    match h, hh with
    | x :: h, _ => exact List.mem_cons_self
  have mr : Dt.hd r ∈ r := by
    match r, hr with
    | x :: r, _ => exact List.mem_cons_self
  have ch : oSl (iR h) (some 1) none = some (.l (h.tail.map D.int)) := by
    show some (Sv.l (cutL (h.map D.int) (some ((1 : Nat) : Int)) none)) = _
    rw [cut_from, ← List.map_drop, List.drop_one]
  have cr : oSl (iR r) (some 1) none = some (.l (r.tail.map D.int)) := by
    show some (Sv.l (cutL (r.map D.int) (some ((1 : Nat) : Int)) none)) = _
    rw [cut_from, ← List.map_drop, List.drop_one]
  have k := compL_map (enc := fun p : Int × Int => D.tup [.int p.1, .int p.2]) (h := fun p : Int × Int => D.int ((Dt.hd h * p.1 - Dt.hd r * p.2).fdiv s)) (vs := [5, 6]) (γ := γT 2 (γCons (γN 5) (γCons (γN 6) (γNil)))) (cond := mYes) (elt := mD (mOp oDiv (mD (mOp oSub (mD (mOp oMul (mPk 3) (mPk 5))) (mD (mOp oMul (mPk 4) (mPk 6))))) (mPk 2))) (env := [.fr (iR r), .fr (iR h), .fr (.int s), .fr (.int (Dt.hd h)), .fr (.int (Dt.hd r)), .un, .un]) (xs := List.zip r.tail h.tail) (acc := []) (fun p hp => by
    obtain ⟨h1, h2⟩ := List.of_mem_zip hp
    have h1 := br _ (List.mem_of_mem_tail h1)
    have h2 := bh _ (List.mem_of_mem_tail h2)
    have m1 : oMul (.int (Dt.hd h)) (.int p.1) = _ := oMul_int (mulOk_of (bh _ mh) h1 (by omega))
    have m2 : oMul (.int (Dt.hd r)) (.int p.2) = _ := oMul_int (mulOk_of (br _ mr) h2 (by omega))
    have d : oDiv (.int (Dt.hd h * p.1 - Dt.hd r * p.2)) (.int s) = _ := oDiv_int hs
    refine ⟨[.fr (iR r), .fr (iR h), .fr (.int s), .fr (.int (Dt.hd h)), .fr (.int (Dt.hd r)), .fr (.int p.1), .fr (.int p.2)], _, [.fr (iR r), .fr (iR h), .fr (.int s), .fr (.int (Dt.hd h)), .fr (.int (Dt.hd r)), .fr (.int p.1), .fr (.int p.2)], rfl, rfl, ?_, rfl⟩
    simp [m1, m2, d])
  rw [List.nil_append] at k
  have e : ((List.zip r.tail h.tail).map fun p : Int × Int => D.int ((Dt.hd h * p.1 - Dt.hd r * p.2).fdiv s)) = (Dt.combI s h r).map D.int := by
    unfold Dt.combI
    rw [List.zip, List.map_zipWith, List.map_zipWith]
  rw [e] at k
  have l9 : ((List.zip r.tail h.tail).map fun p : Int × Int => D.tup [.int p.1, .int p.2]).length ≤ 90000 := by
    rw [List.length_map, List.length_zip, List.length_tail]
    omega
  have zt := zip_tails (h := h) (r := r)
  have fin : iR (Dt.combI s h r) = .lst ((Dt.combI s h r).map D.int) := rfl
  rw [fin]
  generalize (Dt.combI s h r).map D.int = cl at *
  generalize ((List.zip r.tail h.tail).map fun p : Int × Int => D.tup [.int p.1, .int p.2]) = zl at *
  generalize r.tail.map D.int = rt at *
  generalize h.tail.map D.int = ht at *
  generalize iR r = rr at *
  generalize iR h = hh at *
  simp [f_combined, g_combined, ih, ir, ch, cr, zt, l9, k]
end Law
namespace Law
open PySem PySem.Spec PyProof.Rows L2 Evl Iv
def outR (s : Int) (Hs Ts : List (List Int)) (h : List Int) : List (List Int) := Hs.map (Dt.combI s h) ++ h.tail :: Ts.map (Dt.combI s h)
theorem out_get {s : Int} {Hs Ts : List (List Int)} {h r : List Int} {i : Nat} (hg : (Hs ++ h :: Ts)[i]? = some r) : (outR s Hs Ts h)[i]? = some (if i = Hs.length then h.tail else Dt.combI s h r) ∧ (i = Hs.length → r = h) := by
  unfold outR
  by_cases h1 : i < Hs.length
  · rw [List.getElem?_append_left h1] at hg
    rw [List.getElem?_append_left (by rw [List.length_map]; exact h1), List.getElem?_map, hg, if_neg (by omega)]
    exact ⟨rfl, fun z => absurd z (by omega)⟩
  · rw [List.getElem?_append_right (by omega)] at hg
    rw [List.getElem?_append_right (by rw [List.length_map]; omega), List.length_map]
    by_cases h2 : i = Hs.length
    · rw [h2, Nat.sub_self] at hg ⊢
      cases hg
      rw [if_pos rfl]
      exact ⟨rfl, fun _ => rfl⟩
    · rw [if_neg h2]
      obtain ⟨j, hj⟩ : ∃ j, i - Hs.length = j + 1 := ⟨i - Hs.length - 1, by omega⟩
      rw [hj, List.getElem?_cons_succ] at hg
      rw [hj, List.getElem?_cons_succ, List.getElem?_map, hg]
      exact ⟨rfl, fun z => absurd z h2⟩
theorem without_eq {s : Int} {Hs Ts : List (List Int)} {h : List Int} {b w : Nat} (hl : Hs.length + Ts.length + 1 ≤ 1000) (hw : 1 ≤ w) (hw9 : w ≤ 1000) (wd : ∀ r ∈ Hs ++ h :: Ts, r.length = w) (hs : s ≠ 0) (br : ∀ r ∈ Hs ++ h :: Ts, ∀ x ∈ r, x.natAbs < 2 ^ b) (hb : 2 * b ≤ 130000000) :
    f_without_first_column [iM (Hs ++ h :: Ts), nI Hs.length, .int s] = .ok (iM (outR s Hs Ts h)) := by
  obtain ⟨rows, hr⟩ : ∃ rows, rows = Hs ++ h :: Ts := ⟨_, rfl⟩
  have hlen : rows.length = Hs.length + Ts.length + 1 := by rw [hr]; simp; omega
  have olen : (outR s Hs Ts h).length = rows.length := by rw [hr]; unfold outR; simp
  have hm : h ∈ Hs ++ h :: Ts := List.mem_append_right _ List.mem_cons_self
  have ne : ∀ r ∈ Hs ++ h :: Ts, r ≠ [] := fun r hr z => by
    have := wd r hr
    rw [z] at this
    simp at this
    omega
  have ixh : oIx (iM rows) (nI Hs.length) = some (.d (iR h)) := at_iM (by rw [hr, List.getElem?_append_right (Nat.le_refl _), Nat.sub_self]; rfl)
  have key := for_inv (γ := γN 5) (g := (mIfS (mB (mOp oEq (mPk 5) (mPk 1))) (mApp 4 (mD (mSl (mPk 3) (mPart (mD (mC (.int 1)))) (mNoP)))) (mApp 4 (mD (mCall 3 f_combined (mCons (mD (mOp oIx (mPk 0) (mPk 5))) (mCons (mD (mVar 3)) (mCons (mD (mVar 2)) (mNil)))))))))
    (all := Iv.upTo 0 rows.length) (env := [.fr (iM rows), .fr (nI Hs.length), .fr (.int s), .fr (iR h), .ow [], .un])
    (fun i env => ∃ s5, env = [.fr (iM rows), .fr (nI Hs.length), .fr (.int s), .fr (iR h), .ow (((outR s Hs Ts h).take i).map iR), s5]) ⟨.un, rfl⟩ (by
      rintro i x env hx ⟨s5, rfl⟩
      have hi : i < rows.length := by
        have := (List.getElem?_eq_some_iff.mp hx).1
        rwa [upTo_len] at this
      rw [upN, List.getElem?_map, List.getElem?_range hi] at hx
      cases hx
      have hg : rows[i]? = some rows[i] := List.getElem?_eq_getElem hi
      have hmem : rows[i] ∈ Hs ++ h :: Ts := by rw [← hr]; exact List.getElem_mem hi
      generalize rows[i] = r at *
      have og := out_get (s := s) (by rw [← hr]; exact hg)
      have ixr : oIx (iM rows) (nI i) = some (.d (iR r)) := at_iM hg
      have cm := combined_eq (s := s) (h := h) (r := r) (b := b) (ne h hm) (ne r hmem) (by rw [wd r hmem]; exact hw9) hs (br h hm) (br r hmem) hb
      have ch : oSl (iR h) (some 1) none = some (.l (h.tail.map D.int)) := by
        show some (Sv.l (cutL (h.map D.int) (some ((1 : Nat) : Int)) none)) = _
        rw [cut_from, ← List.map_drop, List.drop_one]
      have tk : ((outR s Hs Ts h).take (i + 1)).map iR = ((outR s Hs Ts h).take i).map iR ++ [iR (if i = Hs.length then h.tail else Dt.combI s h r)] := by
        rw [List.take_succ, og.1, List.map_append]
        rfl
      refine ⟨_, [.fr (iM rows), .fr (nI Hs.length), .fr (.int s), .fr (iR h), .ow (((outR s Hs Ts h).take (i + 1)).map iR), .fr (nI i)], rfl, ?_, _, rfl⟩
      rw [tk]
      have l9 : (((outR s Hs Ts h).take i).map iR).length < 90000 := by rw [List.length_map, List.length_take]; omega
      have eqn : oEq (nI i) (nI Hs.length) = some (.d (.bl (decide (i = Hs.length)))) := by
        show some (Sv.d (.bl ((i : Int) == (Hs.length : Int)))) = _
        by_cases e : i = Hs.length
        · rw [e]; simp
        · rw [beq_eq_false_iff_ne.mpr (by omega), decide_eq_false e]
      generalize ((outR s Hs Ts h).take i).map iR = ol at *
      have ht : iR h.tail = .lst (h.tail.map D.int) := rfl
      by_cases e : i = Hs.length
      · rw [if_pos e, ht]
        generalize h.tail.map D.int = td at *
        generalize iR h = hh at *
        generalize iM rows = mm at *
        generalize nI i = ni at *
        generalize nI Hs.length = nh at *
        simp [eqn, e, ch, l9]
      · rw [if_neg e]
        generalize iR (Dt.combI s h r) = cc at *
        generalize iR r = rr at *
        generalize iR h = hh at *
        generalize iM rows = mm at *
        generalize nI i = ni at *
        generalize nI Hs.length = nh at *
        simp [eqn, e, ixr, cm, l9])
  obtain ⟨env', k1, s5, rfl⟩ := key
  rw [upTo_len, ← olen, List.take_length, olen] at k1
  have ll : cLen [iM rows] = some (.d (.int (rows.length : Int))) := by
    show some (Sv.d (D.int ((rows.map iR).length : Nat))) = _
    rw [List.length_map]
  have hsm : small (rows.length : Int) = true := small_nat (by omega)
  have fin : iM (outR s Hs Ts h) = .lst ((outR s Hs Ts h).map iR) := rfl
  rw [← hr, fin]
  generalize (outR s Hs Ts h).map iR = ol at *
  generalize iM rows = mm at *
  generalize iR h = hh at *
  generalize nI Hs.length = nh at *
  simp [f_without_first_column, g_without_first_column, ixh, ll, hsm, k1]
/-! ### the elimination -/
theorem findP_some {T : List (List Int)} {k : Nat} (h : findP T = some k) : ∃ T1 r T2, T = T1 ++ r :: T2 ∧ T1.length = k ∧ Dt.hd r ≠ 0 := by
  induction T generalizing k with
  | nil => cases h
  | cons r T ih =>
    unfold findP at h
    by_cases hz : Dt.hd r ≠ 0
    · rw [if_pos hz] at h
      cases h
      exact ⟨[], r, T, rfl, rfl, hz⟩
    · rw [if_neg hz] at h
      obtain ⟨j, h1, h2⟩ := Option.map_eq_some_iff.mp h
      obtain ⟨T1, r', T2, e1, e2, e3⟩ := ih h1
      exact ⟨r :: T1, r', T2, by rw [e1]; rfl, by rw [List.length_cons, e2]; omega, e3⟩
theorem findP_none {T : List (List Int)} (h : findP T = none) : ∀ r ∈ T, Dt.hd r = 0 := by
  induction T with
  | nil => exact fun _ z => nomatch z
  | cons r T ih =>
    unfold findP at h
    by_cases hz : Dt.hd r ≠ 0
    · rw [if_pos hz] at h; cases h
    · rw [if_neg hz] at h
      intro x hx
      rcases List.mem_cons.mp hx with z | z
      · rw [z]
        by_cases e : Dt.hd r = 0
        · exact e
        · exact absurd e hz
      · exact ih (by cases hf : findP T with
          | none => rfl
          | some j => rw [hf] at h; cases h) x z
def rw3 (q : Dt.Vec × Dt.Vec × List Int) : List Int := q.2.2
noncomputable def elBody : M Fl := (mSeq (mSet 4 (mCall 2 f_pivot_position (mCons (mD (mVar 0)) (mCons (mD (mVar 3)) (mNil)))))
    (mSeq (mIfS (mB (mOp oIs (mPk 4) (mD (mC .non)))) (mRet (mD (mTup (mCons (mD (mVar 0)) (mCons (mD (mVar 2)) (mCons (mD (mVar 3)) (mNil))))))) (mNx))
    (mSeq (mSet 0 (mCall 3 f_brought_up (mCons (mD (mVar 0)) (mCons (mD (mVar 3)) (mCons (mD (mVar 4)) (mNil))))))
    (mSeq (mSet 5 (mOp oIx (mD (mOp oIx (mPk 0) (mPk 3))) (mD (mC (.int 0)))))
    (mSeq (mSet 0 (mCall 3 f_without_first_column (mCons (mD (mVar 0)) (mCons (mD (mVar 3)) (mCons (mD (mVar 2)) (mNil))))))
    (mSet 2 (mVar 5)))))))
open Dt in
/-- what the elimination comes to -/
theorem el_go {M m n b : Nat} {vs : List Vec} {sz : D} (hM : 1 ≤ M) (hn : n ≤ 500) (hm9 : m ≤ 1000) (hb : 2 * b ≤ 130000000) (hN : (n * M) ^ n < 2 ^ b) :
    ∀ (j : Nat) (hs ts : List (Vec × Vec × List Int)) (s : Int) (s3 s4 s5 : Sl), Gs M m n vs hs ts s → ts.length = j →
    ∃ (hs' ts' : List (Vec × Vec × List Int)) (s' : Int), Gs M m n vs hs' ts' s' ∧ (∀ q ∈ ts', hd (rw3 q) = 0) ∧
      ((∃ E, ts' ≠ [] ∧ forL (γN 3) elBody (Iv.upTo (hs.length : Int) j) [.fr (iM ((hs ++ ts).map rw3)), .fr sz, .fr (.int s), s3, s4, s5] = .ok (.rt (.tup [iM ((hs' ++ ts').map rw3), .int s', nI hs'.length])) E) ∨
        ∃ t3 t4 t5, ts' = [] ∧ forL (γN 3) elBody (Iv.upTo (hs.length : Int) j) [.fr (iM ((hs ++ ts).map rw3)), .fr sz, .fr (.int s), s3, s4, s5] = .ok .nx [.fr (iM ((hs' ++ ts').map rw3)), .fr sz, .fr (.int s'), t3, t4, t5]) := fun j => by
  induction j with
  | zero =>
    intro hs ts s s3 s4 s5 g hj
    have e : ts = [] := List.length_eq_zero_iff.mp hj
    exact ⟨hs, ts, s, g, (fun q hq => by rw [e] at hq; cases hq), .inr ⟨s3, s4, s5, e, rfl⟩⟩
  | succ j ih =>
    intro hs ts s s3 s4 s5 g hj
    have gl := g.len
    have gm := g.nm
    have ne : ∀ r ∈ ts.map rw3, r ≠ [] := fun r hr z => by
      obtain ⟨q, hq, rfl⟩ := List.mem_map.mp hr
      have := g.wd q (.inr hq)
      have z : q.2.2 = [] := z
      rw [z] at this
      simp at this
      omega
    have pv := pivot_eq (Hs := hs.map rw3) (T := ts.map rw3) (by rw [List.length_map, List.length_map]; omega) ne
    rw [List.length_map, ← List.map_append] at pv
    rw [upTo_succ, forL_cons]
    have gg : γN 3 (.int (hs.length : Int)) [.fr (iM ((hs ++ ts).map rw3)), .fr sz, .fr (.int s), s3, s4, s5] = some [.fr (iM ((hs ++ ts).map rw3)), .fr sz, .fr (.int s), .fr (nI hs.length), s4, s5] := rfl
    rw [gg]
    dsimp only
    cases hf : findP (ts.map rw3) with
    | none =>
      rw [hf] at pv
      have hz := findP_none hf
      have pv : f_pivot_position [iM ((hs ++ ts).map rw3), nI hs.length] = .ok .non := pv
      refine ⟨hs, ts, s, g, fun q hq => hz _ (List.mem_map.mpr ⟨q, hq, rfl⟩), .inl ⟨[.fr (iM ((hs ++ ts).map rw3)), .fr sz, .fr (.int s), .fr (nI hs.length), .fr .non, s5], (fun z => by rw [z] at hj; cases hj), ?_⟩⟩
      have st : elBody [.fr (iM ((hs ++ ts).map rw3)), .fr sz, .fr (.int s), .fr (nI hs.length), s4, s5] = .ok (.rt (.tup [iM ((hs ++ ts).map rw3), .int s, nI hs.length])) [.fr (iM ((hs ++ ts).map rw3)), .fr sz, .fr (.int s), .fr (nI hs.length), .fr .non, s5] := by
        generalize iM ((hs ++ ts).map rw3) = mm at *
        generalize nI hs.length = nh at *
        simp [elBody, pv, isN]
      rw [st]
    | some k =>
      rw [hf] at pv
      obtain ⟨R1, r, R2, e1, e2, hp⟩ := findP_some hf
      obtain ⟨T1, T2', e3, e4, e5⟩ := List.map_eq_append_iff.mp e1
      obtain ⟨t, T2, e6, e7, e8⟩ := List.map_eq_cons_iff.mp e5
      subst e6 e3
      have lT1 : T1.length = k := by rw [← e2, ← e4, List.length_map]
      have hp : hd t.2.2 ≠ 0 := by rw [show t.2.2 = r from e7]; exact hp
      have perm : (T1 ++ t :: T2).Perm (t :: (T1 ++ T2)) := List.perm_middle
      have g2 := g.perm perm
      have sb : ∀ q, q ∈ hs ∨ q ∈ t :: (T1 ++ T2) → ∀ x ∈ q.2.2, x.natAbs < 2 ^ b := fun q hq x hx => by
        obtain ⟨i, hi, e⟩ := List.getElem_of_mem hx
        have := g2.size hM hq i
        rw [List.getD_eq_getElem?_getD, List.getElem?_eq_getElem hi, e] at this
        have : x.natAbs ≤ (n * M) ^ n := this
        omega
      have hs0 : s ≠ 0 := fun z => g.st.ne (by rw [z]; rfl)
      simp only [List.length_append, List.length_cons] at hj gl
      have br := brought_eq (Hs := hs.map rw3) (T1 := T1.map rw3) (T2 := T2.map rw3) (r := rw3 t) (by simp only [List.length_map]; omega)
      simp only [List.length_map] at br
      have m1 : hs.map rw3 ++ T1.map rw3 ++ rw3 t :: T2.map rw3 = (hs ++ (T1 ++ t :: T2)).map rw3 := by simp
      have m2 : hs.map rw3 ++ rw3 t :: (T1.map rw3 ++ T2.map rw3) = hs.map rw3 ++ rw3 t :: ((T1 ++ T2).map rw3) := by simp
      rw [m1, m2] at br
      have wdw : ∀ r ∈ hs.map rw3 ++ rw3 t :: ((T1 ++ T2).map rw3), r.length = m - hs.length := fun r hr => by
        rcases List.mem_append.mp hr with z | z
        · obtain ⟨q, hq, rfl⟩ := List.mem_map.mp z
          exact g2.wd q (.inl hq)
        · rcases List.mem_cons.mp z with z | z
          · rw [z]; exact g2.wd t (.inr List.mem_cons_self)
          · obtain ⟨q, hq, rfl⟩ := List.mem_map.mp z
            exact g2.wd q (.inr (List.mem_cons_of_mem _ hq))
      have brw : ∀ r ∈ hs.map rw3 ++ rw3 t :: ((T1 ++ T2).map rw3), ∀ x ∈ r, x.natAbs < 2 ^ b := fun r hr => by
        rcases List.mem_append.mp hr with z | z
        · obtain ⟨q, hq, rfl⟩ := List.mem_map.mp z
          exact sb q (.inl hq)
        · rcases List.mem_cons.mp z with z | z
          · rw [z]; exact sb t (.inr List.mem_cons_self)
          · obtain ⟨q, hq, rfl⟩ := List.mem_map.mp z
            exact sb q (.inr (List.mem_cons_of_mem _ hq))
      have wo := without_eq (s := s) (Hs := hs.map rw3) (Ts := (T1 ++ T2).map rw3) (h := rw3 t) (b := b) (w := m - hs.length) (by simp only [List.length_map, List.length_append]; omega) (by omega) (by omega) wdw hs0 brw hb
      rw [List.length_map] at wo
      have g3 := g2.step hp
      obtain ⟨hs2, hhs2⟩ : ∃ hs2, hs2 = hs.map (fun q => (red hs.length (s : Rat) t.1 q.1, q.2.1, combI s t.2.2 q.2.2)) ++ [(t.1, t.2.1, t.2.2.tail)] := ⟨_, rfl⟩
      obtain ⟨ts2, hts2⟩ : ∃ ts2, ts2 = (T1 ++ T2).map (fun q => (red hs.length (s : Rat) t.1 q.1, q.2.1, combI s t.2.2 q.2.2)) := ⟨_, rfl⟩
      rw [← hhs2, ← hts2] at g3
      have o : outR s (hs.map rw3) ((T1 ++ T2).map rw3) (rw3 t) = (hs2 ++ ts2).map rw3 := by
        rw [hhs2, hts2]
        unfold outR
        simp [rw3, Function.comp_def]
      rw [o] at wo
      have l2 : hs2.length = hs.length + 1 := by rw [hhs2]; simp
      have lt2 : ts2.length = j := by rw [hts2, List.length_map, List.length_append]; omega
      obtain ⟨hs', ts', s', g', z', fin⟩ := ih hs2 ts2 (hd t.2.2) (.fr (nI hs.length)) (.fr (nI (hs.length + k))) (.fr (.int (hd t.2.2))) g3 lt2
      have st : elBody [.fr (iM ((hs ++ (T1 ++ t :: T2)).map rw3)), .fr sz, .fr (.int s), .fr (nI hs.length), s4, s5] = .ok .nx [.fr (iM ((hs2 ++ ts2).map rw3)), .fr sz, .fr (.int (hd t.2.2)), .fr (nI hs.length), .fr (nI (hs.length + k)), .fr (.int (hd t.2.2))] := by
        have ix1 : oIx (iM (hs.map rw3 ++ rw3 t :: ((T1 ++ T2).map rw3))) (nI hs.length) = some (.d (iR (rw3 t))) := at_iM (by rw [List.getElem?_append_right (by rw [List.length_map]; exact Nat.le_refl _), List.length_map, Nat.sub_self]; rfl)
        have ix2 : oIx (iR (rw3 t)) (.int 0) = some (.d (.int (hd t.2.2))) := at_iR0 (ne _ (List.mem_map.mpr ⟨t, by simp, rfl⟩))
        have nn : isN (nI (hs.length + k)) = false := rfl
        rw [lT1] at br
        have pv : f_pivot_position [iM ((hs ++ (T1 ++ t :: T2)).map rw3), nI hs.length] = .ok (nI (hs.length + k)) := pv
        generalize iM ((hs ++ (T1 ++ t :: T2)).map rw3) = m1 at *
        generalize iM (hs.map rw3 ++ rw3 t :: ((T1 ++ T2).map rw3)) = m2 at *
        generalize iM ((hs2 ++ ts2).map rw3) = m3 at *
        generalize nI (hs.length + k) = nk at *
        generalize nI hs.length = nh at *
        generalize iR (rw3 t) = rt at *
        generalize hd t.2.2 = pp at *
        simp [elBody, pv, nn, br, ix1, ix2, wo]
      rw [st]
      dsimp only
      rw [l2, Int.natCast_add] at fin
      exact ⟨hs', ts', s', g', z', fin⟩
end Law
namespace Dt
/-! ### sums -/
def sumN : Nat → (Nat → Rat) → Rat
  | 0, _ => 0
  | n + 1, f => sumN n f + f n
theorem sumN_congr {f g : Nat → Rat} : ∀ {n : Nat}, (∀ l, l < n → f l = g l) → sumN n f = sumN n g
  | 0, _ => rfl
  | n + 1, h => by
    unfold sumN
    rw [sumN_congr fun l hl => h l (by omega), h n (by omega)]
theorem sumN_mul {a : Rat} {f : Nat → Rat} : ∀ {n : Nat}, sumN n (fun l => a * f l) = a * sumN n f
  | 0 => by unfold sumN; grind
  | n + 1 => by
    unfold sumN
    rw [sumN_mul]
    grind
theorem sumN_zero {f : Nat → Rat} : ∀ {n : Nat}, (∀ l, l < n → f l = 0) → sumN n f = 0
  | 0, _ => rfl
  | n + 1, h => by
    unfold sumN
    rw [sumN_zero fun l hl => h l (by omega), h n (by omega)]
    grind
theorem sumN_one {f : Nat → Rat} {i : Nat} : ∀ {n : Nat}, i < n → (∀ l, l < n → l ≠ i → f l = 0) → sumN n f = f i
  | n + 1, hi, h => by
    unfold sumN
    by_cases e : i = n
    · subst e
      rw [sumN_zero fun l hl => h l (by omega) (by omega)]
      grind
    · rw [sumN_one (by omega) fun l hl hne => h l (by omega) hne, h n (by omega) (by omega)]
      grind
theorem ap_app {r : Vec} : ∀ {w1 w2 : List (Rat × Nat)}, ap (w1 ++ w2) r = ap w1 r + ap w2 r
  | [], w2 => by show ap w2 r = 0 + ap w2 r; grind
  | p :: w1, w2 => by
    show p.1 * r p.2 + ap (w1 ++ w2) r = p.1 * r p.2 + ap w1 r + ap w2 r
    rw [ap_app]
    grind
theorem ap_range {r : Vec} {f : Nat → Rat} : ∀ {n : Nat}, ap ((List.range n).map fun l => (f l, l)) r = sumN n fun l => f l * r l
  | 0 => rfl
  | n + 1 => by
    rw [List.range_succ, List.map_append, ap_app, ap_range]
    show _ + (f n * r n + 0) = _
    unfold sumN
    conv => rhs; unfold sumN
    cases n <;> grind [sumN]
variable {M m n : Nat} {vs : List Vec} {hs ts : List (Vec × Vec × List Int)} {s : Int}
theorem Gs.kill (g : Gs M m n vs hs ts s) {w : List (Rat × Nat)} (h1 : ∀ q ∈ hs, ap w q.1 = 0) (h2 : ∀ q ∈ ts, ap w q.1 = 0) : ∀ v ∈ vs, ap w v = 0 := fun v hv => by
  obtain ⟨k1, k2⟩ := g.st.a4 w (fun r hr => by
    obtain ⟨q, hq, rfl⟩ := List.mem_map.mp hr
    exact h1 q hq) (fun r hr => by
    obtain ⟨q, hq, rfl⟩ := List.mem_map.mp hr
    exact h2 q hq)
  obtain ⟨q, hq | hq, rfl⟩ := (g.vs v).mp hv
  · exact k1 _ (List.mem_map.mpr ⟨q, hq, rfl⟩)
  · exact k2 (q.1, q.2.1) (List.mem_map.mpr ⟨q, hq, rfl⟩)
theorem Gs.unit (g : Gs M m n vs hs ts s) {i l : Nat} {q : Vec × Vec × List Int} (hi : hs[i]? = some q) (hl : l < hs.length) : q.1 l = if i = l then (s : Rat) else 0 := by
  have h := (List.getElem?_eq_some_iff.mp hi).1
  have := g.st.un i l (by rw [List.length_map]; exact h) (by rw [List.length_map]; exact hl)
  rw [← this]
  unfold at'
  rw [List.getD_eq_getElem?_getD, List.getElem?_map, hi]
  rfl
/-- the row of ints at l -/
def rowI (hs : List (Vec × Vec × List Int)) (l : Nat) : List Int := (hs.map (·.2.2)).getD l []
theorem rowI_get {q : Vec × Vec × List Int} {i : Nat} (h : hs[i]? = some q) : rowI hs i = q.2.2 := by
  unfold rowI
  rw [List.getD_eq_getElem?_getD, List.getElem?_map, h]
  rfl
/-- the column hs.length + j told by the columns in front, if it is so for the rows behind -/
theorem Gs.tell (g : Gs M m n vs hs ts s) (j : Nat) (ht : ∀ q ∈ ts, q.2.2.getD j 0 = 0) : ∀ v ∈ vs, sumN hs.length (fun l => (((rowI hs l).getD j 0 : Int) : Rat) * v l) = (s : Rat) * v (hs.length + j) := fun v hv => by
  have tl : ∀ r : Vec, ap (((List.range hs.length).map fun l => ((((rowI hs l).getD j 0 : Int) : Rat), l)) ++ [(-(s : Rat), hs.length + j)]) r = sumN hs.length (fun l => (((rowI hs l).getD j 0 : Int) : Rat) * r l) - (s : Rat) * r (hs.length + j) := fun r => by
    rw [ap_app, ap_range]
    show _ + (-(s : Rat) * r (hs.length + j) + 0) = _
    grind
  have := g.kill (w := ((List.range hs.length).map fun l => ((((rowI hs l).getD j 0 : Int) : Rat), l)) ++ [(-(s : Rat), hs.length + j)]) (fun q hq => by
    obtain ⟨i, hi, e⟩ := List.getElem_of_mem hq
    have hg : hs[i]? = some q := by rw [List.getElem?_eq_getElem hi, e]
    rw [tl, sumN_one hi fun l hl hne => by rw [g.unit hg hl, if_neg (fun z => hne z.symm), Rat.mul_zero], g.unit hg hi, if_pos rfl, g.rep q (.inl hq) j, rowI_get hg]
    grind) (fun q hq => by
    rw [tl, sumN_zero fun l hl => by
      have := g.st.tz (q.1, q.2.1) (List.mem_map.mpr ⟨q, hq, rfl⟩) l (by rw [List.length_map]; exact hl)
      have : q.1 l = 0 := this
      rw [this, Rat.mul_zero], g.rep q (.inr hq) j, ht q hq]
    show (0 : Rat) - (s : Rat) * ((0 : Int) : Rat) = 0
    grind) v hv
  rw [tl] at this
  grind
end Dt
namespace Law
open PySem PySem.Spec PyProof.Rows L2 Evl Iv
open Dt
theorem eliminated_eq {M m n b : Nat} {rows : List (List Int)} (hM : 1 ≤ M) (hn : n ≤ 500) (hm9 : m ≤ 1000) (hb : 2 * b ≤ 130000000) (hN : (n * M) ^ n < 2 ^ b) (hl : rows.length = n) (hm : n ≤ m) (hw : ∀ r ∈ rows, r.length = m) (hv : ∀ r ∈ rows, ∀ x ∈ r, x.natAbs ≤ M) :
    ∃ (hs ts : List (Vec × Vec × List Int)) (s : Int), Gs M m n (rows.map vecI) hs ts s ∧ (∀ q ∈ ts, hd q.2.2 = 0) ∧ f_eliminated [iM rows, nI n] = .ok (.tup [iM ((hs ++ ts).map rw3), .int s, nI hs.length]) := by
  have g := Gs.start hl hm hw hv
  obtain ⟨hs, ts, s, g', z', fin⟩ := el_go (sz := nI n) hM hn hm9 hb hN n [] (rows.map fun r => (vecI r, vecI r, r)) 1 .un .un .un g (by rw [List.length_map, hl])
  refine ⟨hs, ts, s, g', z', ?_⟩
  have e0 : ([] ++ rows.map fun r => (vecI r, vecI r, r)).map rw3 = rows := by
    rw [List.nil_append, List.map_map]
    exact List.map_id _
  rw [e0] at fin
  have hsm : small (n : Int) = true := small_nat (by omega)
  have el : elBody = (mSeq (mSet 4 (mCall 2 f_pivot_position (mCons (mD (mVar 0)) (mCons (mD (mVar 3)) (mNil)))))
    (mSeq (mIfS (mB (mOp oIs (mPk 4) (mD (mC .non)))) (mRet (mD (mTup (mCons (mD (mVar 0)) (mCons (mD (mVar 2)) (mCons (mD (mVar 3)) (mNil))))))) (mNx))
    (mSeq (mSet 0 (mCall 3 f_brought_up (mCons (mD (mVar 0)) (mCons (mD (mVar 3)) (mCons (mD (mVar 4)) (mNil))))))
    (mSeq (mSet 5 (mOp oIx (mD (mOp oIx (mPk 0) (mPk 3))) (mD (mC (.int 0)))))
    (mSeq (mSet 0 (mCall 3 f_without_first_column (mCons (mD (mVar 0)) (mCons (mD (mVar 3)) (mCons (mD (mVar 2)) (mNil))))))
    (mSet 2 (mVar 5))))))) := rfl
  unfold f_eliminated g_eliminated
  rw [← el]
  have c0 : (([] : List (Vec × Vec × List Int)).length : Int) = 0 := rfl
  rw [c0] at fin
  have g6 := g'.len
  rcases fin with ⟨E, _, e⟩ | ⟨t3, t4, t5, te, e⟩
  · generalize iM ((hs ++ ts).map rw3) = mm at *
    generalize iM rows = m1 at *
    generalize elBody = eb at *
    unfold nI at *
    simp [hsm, e]
  · have : hs.length = n := by rw [te] at g6; simpa using g6
    rw [this]
    generalize iM ((hs ++ ts).map rw3) = mm at *
    generalize iM rows = m1 at *
    generalize elBody = eb at *
    unfold nI at *
    simp [hsm, e]
theorem ratio_row_eq {r : List Int} {s : Int} (hs : s ≠ 0) (hl : r.length ≤ 1000) : f_ratio_row [iR r, .int s] = .ok (qT (r.map fun z => Rat.divInt z s)) := by
  have k := compL_map (enc := D.int) (h := fun z : Int => enc (Rat.divInt z s)) (vs := [2]) (γ := γN 2) (cond := mYes) (elt := mD (mCall 2 f_make_ratio (mCons (mD (mVar 2)) (mCons (mD (mVar 1)) (mNil))))) (env := [.fr (iR r), .fr (.int s), .un]) (xs := r) (acc := []) (fun z hz => by
    have mk := make_eq (n := z) (d := s) hs
    refine ⟨[.fr (iR r), .fr (.int s), .fr (.int z)], _, [.fr (iR r), .fr (.int s), .fr (.int z)], rfl, rfl, ?_, rfl⟩
    simp [mk])
  rw [List.nil_append] at k
  have it : itemsOf (iR r) = some (r.map D.int) := rfl
  have l9 : (r.map D.int).length ≤ 90000 := by rw [List.length_map]; omega
  have fin : qT (r.map fun z => Rat.divInt z s) = .tup (r.map fun z : Int => enc (Rat.divInt z s)) := by
    unfold qT
    rw [List.map_map]
    rfl
  rw [fin]
  generalize (r.map fun z : Int => enc (Rat.divInt z s)) = zl at *
  generalize r.map D.int = rl at *
  generalize iR r = rr at *
  simp [f_ratio_row, g_ratio_row, it, l9, k]
end Law
namespace Law
open PySem PySem.Spec PyProof.Rows L2 Evl Iv
open Dt
def matD (A : List (List Rat)) : D := .tup (A.map qT)
def ent (A : List (List Rat)) (i l : Nat) : Rat := (A.getD i []).getD l 0
theorem sumN_cut {c : Nat} {f : Nat → Rat} : ∀ {n : Nat}, c ≤ n → (∀ l, c ≤ l → l < n → f l = 0) → sumN n f = sumN c f
  | 0, hc, _ => by
    obtain rfl : c = 0 := by omega
    rfl
  | n + 1, hc, h => by
    by_cases e : c = n + 1
    · rw [e]
    · unfold sumN
      rw [sumN_cut (by omega) fun l h1 h2 => h l h1 (by omega), h n (by omega) (by omega)]
      cases c <;> grind [sumN]
theorem vec_whole {r : List Rat} (l : Nat) : vecI (wholeI r) l = ((lcmQ r : Nat) : Rat) * r.getD l 0 := by
  unfold vecI wholeI
  rw [List.getD_eq_getElem?_getD, List.getD_eq_getElem?_getD, List.getElem?_map]
  cases e : r[l]? with
  | none =>
    show ((0 : Int) : Rat) = _ * 0
    rw [Rat.mul_zero]
    rfl
  | some q => exact whole_val (List.mem_of_getElem? e)
theorem lcmQ_ne {r : List Rat} : ((lcmQ r : Nat) : Rat) ≠ 0 := fun z => by
  have h := lcm_pos r 1 (by decide)
  have : lcmQ r = 0 := by exact_mod_cast z
  unfold lcmQ at this
  omega
/-- a system: n rows, k columns on the right -/
structure Sys (n k b : Nat) (A B : List (List Rat)) : Prop where
  lA : A.length = n
  lB : B.length = n
  wA : ∀ r ∈ A, r.length = n
  wB : ∀ r ∈ B, r.length = k
  sz : ∀ i, i < n → ∀ q ∈ A.getD i [] ++ B.getD i [], Sz b q
  lc : ∀ i, i < n → lcmQ (A.getD i [] ++ B.getD i []) < 2 ^ 64
  n9 : n ≤ 60
  k9 : k ≤ 900
  b9 : 2 * ((b + 70) * n + 1) ≤ 130000000
  bb : b + 64 ≤ 130000000
/-- no row of numbers but zeros is sent to zero -/
def Reg (n : Nat) (A : List (List Rat)) : Prop := ∀ z : Nat → Rat, (∀ i, i < n → sumN n (fun l => ent A i l * z l) = 0) → ∀ l, l < n → z l = 0
def rowsW (n : Nat) (A B : List (List Rat)) : List (List Int) := (List.range n).map fun i => wholeI (A.getD i [] ++ B.getD i [])
theorem getD_len {A : List (List Rat)} {n i : Nat} {w : Nat} (lA : A.length = n) (wA : ∀ r ∈ A, r.length = w) (h : i < n) : (A.getD i []).length = w := by
  rw [List.getD_eq_getElem?_getD, List.getElem?_eq_getElem (by omega)]
  exact wA _ (List.getElem_mem (by omega))
theorem getD_app1 {a b : List Rat} {l : Nat} (h : l < a.length) : (a ++ b).getD l 0 = a.getD l 0 := by
  rw [List.getD_eq_getElem?_getD, List.getD_eq_getElem?_getD, List.getElem?_append_left h]
theorem getD_app2 {a b : List Rat} {l : Nat} : (a ++ b).getD (a.length + l) 0 = b.getD l 0 := by
  rw [List.getD_eq_getElem?_getD, List.getD_eq_getElem?_getD, List.getElem?_append_right (by omega), Nat.add_sub_cancel_left]
theorem at_matD {A : List (List Rat)} {n i : Nat} (lA : A.length = n) (h : i < n) : oIx (matD A) (nI i) = some (.d (qT (A.getD i []))) := by
  show (atI (A.map qT) (i : Int)).map Sv.d = _
  rw [atI_nat', List.getElem?_map, List.getD_eq_getElem?_getD, List.getElem?_eq_getElem (by omega)]
  rfl
theorem pow_bound {n b : Nat} (hn : n ≤ 60) : (n * 2 ^ (b + 64)) ^ n < 2 ^ ((b + 70) * n + 1) := by
  have h1 : n * 2 ^ (b + 64) ≤ 2 ^ (b + 70) := by
    have e : (2 : Nat) ^ (b + 70) = 64 * 2 ^ (b + 64) := by
      rw [show b + 70 = (b + 64) + 6 by omega, Nat.pow_add, Nat.mul_comm]
    rw [e]
    exact Nat.mul_le_mul_right _ (by omega)
  have h2 : (n * 2 ^ (b + 64)) ^ n ≤ (2 ^ (b + 70)) ^ n := Nat.pow_le_pow_left h1 n
  rw [← Nat.pow_mul] at h2
  have h3 : (2 : Nat) ^ ((b + 70) * n) < 2 ^ ((b + 70) * n + 1) := Nat.pow_lt_pow_right (by decide) (by omega)
  omega
theorem solve_reg {n k b : Nat} {A B : List (List Rat)} (h : Sys n k b A B) (hr : Reg n A) :
    ∃ X : List (List Rat), X.length = n ∧ (∀ r ∈ X, r.length = k) ∧ (∀ r ∈ X, ∀ q ∈ r, Sz ((b + 70) * n + 1) q) ∧ f_solve [matD A, matD B] = .ok (.tup [.str "solution", matD X]) ∧
      ∀ i, i < n → ∀ j, j < k → sumN n (fun l => ent A i l * ent X l j) = ent B i j := by
  obtain ⟨W, hW⟩ : ∃ W, W = rowsW n A B := ⟨_, rfl⟩
  have n9 := h.n9
  have Wl : W.length = n := by rw [hW]; unfold rowsW; rw [List.length_map, List.length_range]
  have Ww : ∀ r ∈ W, r.length = n + k := fun r hr => by
    rw [hW] at hr
    obtain ⟨i, hi, rfl⟩ := List.mem_map.mp hr
    have hi := List.mem_range.mp hi
    unfold wholeI
    rw [List.length_map, List.length_append, getD_len h.lA h.wA hi, getD_len h.lB h.wB hi]
  have Wb : ∀ r ∈ W, ∀ x ∈ r, x.natAbs ≤ 2 ^ (b + 64) := fun r hr x hx => by
    rw [hW] at hr
    obtain ⟨i, hi, rfl⟩ := List.mem_map.mp hr
    have hi := List.mem_range.mp hi
    obtain ⟨q, hq, rfl⟩ := List.mem_map.mp hx
    have h1 := (h.sz i hi q hq).1
    have h2 := h.lc i hi
    rw [Int.natAbs_mul, Int.natAbs_natCast, Nat.pow_add]
    exact Nat.mul_le_mul (by omega) (by
      have := Nat.div_le_self (lcmQ (A.getD i [] ++ B.getD i [])) q.den
      omega)
  obtain ⟨hs, ts, s, g, z0, el⟩ := eliminated_eq (M := 2 ^ (b + 64)) (m := n + k) (n := n) (b := (b + 70) * n + 1) (rows := W) (Nat.one_le_two_pow) (by omega) (by have := h.k9; omega) h.b9 (pow_bound h.n9) Wl (by omega) Ww Wb
  have gl := g.len
  have hs0 : s ≠ 0 := fun z => g.st.ne (by rw [z]; rfl)
  have sr : (s : Rat) ≠ 0 := fun z => hs0 (Rat.intCast_inj.mp z)
  have vmem : ∀ i, i < n → vecI (wholeI (A.getD i [] ++ B.getD i [])) ∈ W.map vecI := fun i hi => by
    rw [hW]
    exact List.mem_map.mpr ⟨_, List.mem_map.mpr ⟨i, List.mem_range.mpr hi, rfl⟩, rfl⟩
  have entA : ∀ i l, i < n → l < n → vecI (wholeI (A.getD i [] ++ B.getD i [])) l = ((lcmQ (A.getD i [] ++ B.getD i []) : Nat) : Rat) * ent A i l := fun i l hi hl => by
    rw [vec_whole, getD_app1 (by rw [getD_len h.lA h.wA hi]; exact hl)]
    rfl
  -- all columns are done
  have te : ts = [] := by
    by_cases hne : ts = []
    · exact hne
    · exfalso
      have hpos : 0 < ts.length := List.length_pos_iff.mpr hne
      have hc : hs.length < n := by omega
      have tell := g.tell 0 fun q hq => z0 q hq
      have key := hr (fun l => if l < hs.length then (((rowI hs l).getD 0 0 : Int) : Rat) else if l = hs.length then -(s : Rat) else 0) (fun i hi => by
        have t := tell _ (vmem i hi)
        rw [Nat.add_zero, entA i hs.length hi hc] at t
        have e1 : sumN hs.length (fun l => (((rowI hs l).getD 0 0 : Int) : Rat) * vecI (wholeI (A.getD i [] ++ B.getD i [])) l) = ((lcmQ (A.getD i [] ++ B.getD i []) : Nat) : Rat) * sumN hs.length (fun l => ent A i l * (((rowI hs l).getD 0 0 : Int) : Rat)) := by
          rw [← sumN_mul]
          refine sumN_congr fun l hl => ?_
          rw [entA i l hi (by omega)]
          grind
        rw [e1] at t
        have e2 : sumN n (fun l => ent A i l * (if l < hs.length then (((rowI hs l).getD 0 0 : Int) : Rat) else if l = hs.length then -(s : Rat) else 0)) = sumN hs.length (fun l => ent A i l * (((rowI hs l).getD 0 0 : Int) : Rat)) - (s : Rat) * ent A i hs.length := by
          rw [sumN_cut (c := hs.length + 1) (by omega) fun l h1 h2 => by rw [if_neg (by omega), if_neg (by omega), Rat.mul_zero]]
          show sumN hs.length _ + ent A i hs.length * (if hs.length < hs.length then (((rowI hs hs.length).getD 0 0 : Int) : Rat) else if hs.length = hs.length then -(s : Rat) else 0) = _
          rw [if_neg (Nat.lt_irrefl _), if_pos rfl, sumN_congr (g := fun l => ent A i l * (((rowI hs l).getD 0 0 : Int) : Rat)) fun l hl => by rw [if_pos hl]]
          grind
        rw [e2]
        have L0 := lcmQ_ne (r := A.getD i [] ++ B.getD i [])
        have h3 : ((lcmQ (A.getD i [] ++ B.getD i []) : Nat) : Rat) * (sumN hs.length (fun l => ent A i l * (((rowI hs l).getD 0 0 : Int) : Rat)) - (s : Rat) * ent A i hs.length) = 0 := by grind
        exact (Rat.mul_eq_zero.mp h3).resolve_left L0) hs.length hc
      rw [if_neg (by omega), if_pos rfl] at key
      exact sr (by grind)
  have hn : hs.length = n := by rw [te] at gl; simpa using gl
  -- the solution
  obtain ⟨X, hX⟩ : ∃ X : List (List Rat), X = hs.map fun q => q.2.2.map fun z => Rat.divInt z s := ⟨_, rfl⟩
  have wd : ∀ q ∈ hs, q.2.2.length = k := fun q hq => by
    have := g.wd q (.inl hq)
    omega
  have hX1 : ∀ r ∈ X, r.length = k := fun r hr => by
    rw [hX] at hr
    obtain ⟨q, hq, rfl⟩ := List.mem_map.mp hr
    rw [List.length_map]
    exact wd q hq
  refine ⟨X, by rw [hX, List.length_map, hn], hX1, fun r hr q hq => ?_, ?_, fun i hi j hj => ?_⟩
  · rw [hX] at hr
    obtain ⟨p, hp, rfl⟩ := List.mem_map.mp hr
    obtain ⟨z, hz, rfl⟩ := List.mem_map.mp hq
    obtain ⟨i, hi, e⟩ := List.getElem_of_mem hz
    have h1 := g.size (Nat.one_le_two_pow) (.inl hp) i
    rw [List.getD_eq_getElem?_getD, List.getElem?_eq_getElem hi, e] at h1
    have h1 : z.natAbs ≤ (n * 2 ^ (b + 64)) ^ n := h1
    have h2 := g.size_s (Nat.one_le_two_pow)
    have h3 := pow_bound (b := b) h.n9
    exact divInt_sz hs0 (by omega) (by omega)
  · have hl : ∀ i, i < n → oAdd (qT (A.getD i [])) (qT (B.getD i [])) = some (.d (.tup ((A.getD i [] ++ B.getD i []).map enc))) := fun i hi => by
      have l1 := getD_len h.lA h.wA hi
      have l2 := getD_len h.lB h.wB hi
      have k9 := h.k9
      unfold qT
      show (if _ then _ else _) = _
      rw [if_pos ⟨by rw [List.length_map, List.length_map, l1, l2]; omega, fun z => by
        have := congrArg List.length z
        rw [List.length_map, l1] at this
        simp at this
        omega⟩, ← List.map_append]
    have ln : cLen [matD A] = some (.d (nI n)) := by
      show some (Sv.d (D.int ((A.map qT).length : Nat))) = _
      rw [List.length_map, h.lA]
      rfl
    have hsm : small (n : Int) = true := small_nat (by omega)
    have h90 : (Iv.upTo 0 n).length ≤ 90000 := by rw [upTo_len]; omega
    have c3 := comp_n (f := mD (mCall 1 f_whole_row (mCons (mD (mOp oAdd (mD (mOp oIx (mPk 0) (mPk 6))) (mD (mOp oIx (mPk 1) (mPk 6))))) (mNil)))) (n := n) (j := 6) (env := [.fr (matD A), .fr (matD B), .fr (nI n), .un, .un, .un, .un, .un]) (h := fun i => iR (wholeI (A.getD i [] ++ B.getD i []))) (fun i hi => by
      have a1 := at_matD h.lA hi
      have a2 := at_matD h.lB hi
      have a3 := hl i hi
      have wr := whole_row_eq (r := A.getD i [] ++ B.getD i []) (c := D.tup) (b := b) (.inl rfl) (by rw [List.length_append, getD_len h.lA h.wA hi, getD_len h.lB h.wB hi]; have := h.k9; omega) (h.lc i hi) (h.sz i hi) h.bb
      refine ⟨[.fr (matD A), .fr (matD B), .fr (nI n), .un, .un, .un, .fr (nI i), .un], ?_, rfl⟩
      have e : (.int (i : Int) : D) = nI i := rfl
      rw [e]
      generalize ((A.getD i [] ++ B.getD i []).map enc) = cc at *
      generalize iR (wholeI (A.getD i [] ++ B.getD i [])) = ww at *
      generalize qT (A.getD i []) = qa at *
      generalize qT (B.getD i []) = qb at *
      generalize matD A = ma at *
      generalize matD B = mb at *
      generalize nI i = ni at *
      simp [a1, a2, a3, wr])
    have eW : ((List.range n).map fun i => iR (wholeI (A.getD i [] ++ B.getD i []))) = W.map iR := by
      rw [hW]
      unfold rowsW
      rw [List.map_map]
      rfl
    rw [eW] at c3
    have lt : oLt (nI hs.length) (nI n) = some (.d (.bl false)) := by
      rw [hn]
      show some (Sv.d (.bl (decide ((n : Int) < (n : Int))))) = _
      rw [decide_eq_false (by omega)]
    have e1 : ((hs ++ ts).map rw3) = hs.map rw3 := by rw [te, List.append_nil]
    rw [e1] at el
    have c7 : ∀ (t6 : Sl), compL [7] (γN 7) mYes (mD (mCall 2 f_ratio_row (mCons (mD (mVar 7)) (mCons (mD (mVar 4)) (mNil))))) ((hs.map rw3).map iR) [] [.fr (matD A), .fr (matD B), .fr (nI n), .fr (iM (hs.map rw3)), .fr (.int s), .fr (nI hs.length), t6, .un] = .ok (X.map qT) [.fr (matD A), .fr (matD B), .fr (nI n), .fr (iM (hs.map rw3)), .fr (.int s), .fr (nI hs.length), t6, .un] := fun t6 => by
      have := compL_map (enc := iR) (h := fun r : List Int => qT (r.map fun z => Rat.divInt z s)) (vs := [7]) (γ := γN 7) (cond := mYes) (elt := mD (mCall 2 f_ratio_row (mCons (mD (mVar 7)) (mCons (mD (mVar 4)) (mNil))))) (env := [.fr (matD A), .fr (matD B), .fr (nI n), .fr (iM (hs.map rw3)), .fr (.int s), .fr (nI hs.length), t6, .un]) (xs := hs.map rw3) (acc := []) (fun r hr => by
        obtain ⟨q, hq, rfl⟩ := List.mem_map.mp hr
        have rr := ratio_row_eq (r := rw3 q) (s := s) hs0 (by rw [show (rw3 q).length = k from wd q hq]; have := h.k9; omega)
        refine ⟨[.fr (matD A), .fr (matD B), .fr (nI n), .fr (iM (hs.map rw3)), .fr (.int s), .fr (nI hs.length), t6, .fr (iR (rw3 q))], _, [.fr (matD A), .fr (matD B), .fr (nI n), .fr (iM (hs.map rw3)), .fr (.int s), .fr (nI hs.length), t6, .fr (iR (rw3 q))], rfl, rfl, ?_, rfl⟩
        generalize qT ((rw3 q).map fun z => Rat.divInt z s) = qq at *
        generalize iR (rw3 q) = ir at *
        simp [rr])
      rw [this, List.nil_append, hX, List.map_map, List.map_map]
      rfl
    have it : itemsOf (iM (hs.map rw3)) = some ((hs.map rw3).map iR) := rfl
    have l9 : ((hs.map rw3).map iR).length ≤ 90000 := by rw [List.length_map, List.length_map]; omega
    have fin : matD X = .tup (X.map qT) := rfl
    have iw : iM W = .lst (W.map iR) := rfl
    rw [fin]
    rw [iw] at el
    generalize X.map qT = xq at *
    generalize (hs.map rw3).map iR = hr2 at *
    generalize iM (hs.map rw3) = mm at *
    generalize W.map iR = wi at *
    generalize matD A = ma at *
    generalize matD B = mb at *
    generalize nI hs.length = nh at *
    unfold nI at *
    simp [f_solve, g_solve, ln, hsm, h90, c3, el, lt, it, l9, c7]
  · have t := g.tell j (fun q hq => by rw [te] at hq; cases hq) _ (vmem i hi)
    rw [hn] at t
    have eB : vecI (wholeI (A.getD i [] ++ B.getD i [])) (n + j) = ((lcmQ (A.getD i [] ++ B.getD i []) : Nat) : Rat) * ent B i j := by
      rw [vec_whole]
      have := getD_app2 (a := A.getD i []) (b := B.getD i []) (l := j)
      rw [getD_len h.lA h.wA hi] at this
      rw [this]
      rfl
    have xs : ∀ l, l < n → (s : Rat) * ent X l j = (((rowI hs l).getD j 0 : Int) : Rat) := fun l hl => by
      have hg : hs[l]? = some hs[l] := List.getElem?_eq_getElem (by omega)
      rw [rowI_get hg]
      unfold ent
      rw [hX, List.getD_eq_getElem?_getD (l := hs.map _), List.getElem?_map, hg]
      show (s : Rat) * (hs[l].2.2.map fun z => Rat.divInt z s).getD j 0 = _
      have hj' : j < hs[l].2.2.length := by rw [wd _ (List.getElem_mem _)]; exact hj
      rw [List.getD_eq_getElem?_getD, List.getElem?_map, List.getD_eq_getElem?_getD, List.getElem?_eq_getElem hj']
      show (s : Rat) * Rat.divInt _ s = _
      rw [Rat.divInt_eq_div, Rat.mul_comm]
      exact Rat.div_mul_cancel sr
    rw [eB] at t
    have e1 : sumN n (fun l => (((rowI hs l).getD j 0 : Int) : Rat) * vecI (wholeI (A.getD i [] ++ B.getD i [])) l) = ((s : Rat) * ((lcmQ (A.getD i [] ++ B.getD i []) : Nat) : Rat)) * sumN n (fun l => ent A i l * ent X l j) := by
      rw [← sumN_mul]
      refine sumN_congr fun l hl => ?_
      rw [entA i l hi hl, ← xs l hl]
      grind
    rw [e1] at t
    have L0 := lcmQ_ne (r := A.getD i [] ++ B.getD i [])
    have h3 : ((s : Rat) * ((lcmQ (A.getD i [] ++ B.getD i []) : Nat) : Rat)) * (sumN n (fun l => ent A i l * ent X l j) - ent B i j) = 0 := by grind
    rcases Rat.mul_eq_zero.mp h3 with y | y
    · rcases Rat.mul_eq_zero.mp y with y | y
      · exact absurd y sr
      · exact absurd y L0
    · grind
end Law

set_option Elab.async false
set_option linter.all false
set_option maxRecDepth 100000
set_option maxHeartbeats 4000000
/-! == of whatever kind; the small helpers of the laws from k25 on. -/
namespace Iv
open PySem PySem.Spec PyProof.Rows L2 Evl
def oEqA (neg : Bool) (a b : D) : Option Sv := match (if neg then oNe a b else oEq a b) with
  | some v => some v
  | none => oEqP neg a b
theorem os_eqA {K : PySem.W.Frag} : OpS K (fun x y H Q => rEq x y H Q ∨ rEqD K x y H Q) (oEqA false) := fun F H x y dx dy sv ef rx ry ho Q q => by
  unfold oEqA at ho
  rw [if_neg (by decide)] at ho
  cases h : oEq dx dy with
  | some v => rw [h] at ho; cases ho; exact .inl (os_eq F H x y dx dy _ ef rx ry h Q q)
  | none => rw [h] at ho; exact .inr (os_eqP F H x y dx dy sv ef rx ry ho Q q)
theorem os_neA {K : PySem.W.Frag} : OpS K (fun x y H Q => rNe x y H Q ∨ rNeD K x y H Q) (oEqA true) := fun F H x y dx dy sv ef rx ry ho Q q => by
  unfold oEqA at ho
  rw [if_pos rfl] at ho
  cases h : oNe dx dy with
  | some v => rw [h] at ho; cases ho; exact .inl (os_ne F H x y dx dy _ ef rx ry h Q q)
  | none => rw [h] at ho; exact .inr (os_neP F H x y dx dy sv ef rx ry ho Q q)
section
variable {X : Cx} {S : Xs} {W : WX} {a b : Expr} {pos : Pos} {f g : M D} {k : Nat}
theorem pd_eqA (ha : PP X S W a f) (hb : PP X S W b g) (hr : Room k X.A) (hm : behindInMarks .Eq b = false := by first | exact nomark _ | rfl) : PD X S W (.Compare a [.Eq] [b] pos) (mOp (oEqA false) f g) := pd_cmp (OpR.or op_eq (op_eqD (room_64 hr))) os_eqA hm ha hb
theorem pd_neA (ha : PP X S W a f) (hb : PP X S W b g) (hr : Room k X.A) (hm : behindInMarks .NotEq b = false := by first | exact nomark _ | rfl) : PD X S W (.Compare a [.NotEq] [b] pos) (mOp (oEqA true) f g) := pd_cmp (OpR.or op_ne (op_neD (room_64 hr))) os_neA hm ha hb
theorem pb_eqA (ha : PP X S W a f) (hb : PP X S W b g) (hr : Room k X.A) (hm : behindInMarks .Eq b = false := by first | exact nomark _ | rfl) : PB X S W (.Compare a [.Eq] [b] pos) (mB (mOp (oEqA false) f g)) := pb_cmp (OpR.or op_eq (op_eqD (room_64 hr))) os_eqA hm ha hb
theorem pb_neA (ha : PP X S W a f) (hb : PP X S W b g) (hr : Room k X.A) (hm : behindInMarks .NotEq b = false := by first | exact nomark _ | rfl) : PB X S W (.Compare a [.NotEq] [b] pos) (mB (mOp (oEqA true) f g)) := pb_cmp (OpR.or op_ne (op_neD (room_64 hr))) os_neA hm ha hb
end
@[simp] theorem oEqA_int {i j : Int} : oEqA false (.int i) (.int j) = some (.d (.bl (i == j))) := rfl
@[simp] theorem oNeA_int {i j : Int} : oEqA true (.int i) (.int j) = some (.d (.bl (!(i == j)))) := rfl
theorem eqA_enc {neg : Bool} {p q : Rat} : oEqA neg (Law.enc p) (Law.enc q) = some (.d (.bl (if neg then !decide (p = q) else decide (p = q)))) := by
  have e := Law.eqP_enc (neg := neg) (p := p) (q := q)
  unfold oEqA
  cases neg <;> exact e
/-- two pairs of ratios -/
theorem eqA_pair {p q : Rat} : oEqA true (.tup [Law.enc p, Law.enc q]) (.tup [Law.enc p, Law.enc q]) = some (.d (.bl false)) := by
  have e1 : pyD (.tup [Law.enc p, Law.enc q]) = some (.tuple [.tuple [.int p.num, .int (p.den : Int)], .tuple [.int q.num, .int (q.den : Int)]]) := rfl
  have e3 : PyData.eqv (.tuple [.tuple [.int p.num, .int (p.den : Int)], .tuple [.int q.num, .int (q.den : Int)]]) (.tuple [.tuple [.int p.num, .int (p.den : Int)], .tuple [.int q.num, .int (q.den : Int)]]) = true := by
    show ((((p.num == p.num) && (((p.den : Int) == (p.den : Int)) && true))) && ((((q.num == q.num) && (((q.den : Int) == (q.den : Int)) && true))) && true)) = true
    simp
  unfold oEqA
  rw [if_pos rfl]
  have e0 : oNe (.tup [Law.enc p, Law.enc q]) (.tup [Law.enc p, Law.enc q]) = none := rfl
  rw [e0]
  dsimp only
  unfold oEqP
  rw [e1]
  dsimp only
  rw [if_pos ⟨rfl, rfl⟩, e3]
  rfl
end Iv
namespace Law
open PySem PySem.Spec PyProof.Rows L2 Evl Iv
noncomputable def g_u_law_low2 : M Fl :=
    mSeq (mSet 2 (mCl cAbs (mCons (mPk 0) (mNil))))
    (mSeq (mSet 3 (mCl cAbs (mCons (mPk 1) (mNil))))
    (mSeq (mWh (mB (mOp oGt (mPk 3) (mD (mC (.int 0))))) (mSeq (mSet 4 (mOp oMod (mD (mCl cInt (mCons (mPk 2) (mNil)))) (mPk 3)))
    (mSeq (mSet 2 (mVar 3))
    (mSet 3 (mVar 4)))))
    (mSeq (mIfS (mB (mOp oLt (mPk 1) (mD (mC (.int 0))))) (mSeq (mSet 0 (mOp oSub (mD (mC (.int 0))) (mPk 0)))
    (mSet 1 (mOp oSub (mD (mC (.int 0))) (mPk 1)))) (mNx))
    (mRet (mD (mTup (mCons (mD (mOp oDiv (mPk 0) (mPk 2))) (mCons (mD (mOp oDiv (mPk 1) (mPk 2))) (mNil)))))))))
noncomputable def f_u_law_low2 : List D → FR := runF 5 g_u_law_low2
noncomputable def g_u_law_discount2 : M Fl :=
    mSeq (mSet 1 (mOp oAdd (mD (mC (.int 2))) (mD (mOp oMod (mD (mCl cInt (mCons (mPk 0) (mNil)))) (mD (mC (.int 9)))))))
    (mRet (mD (mCall 2 f_u_law_low2 (mCons (mD (mOp oMod (mD (mOp oDiv (mD (mCl cInt (mCons (mPk 0) (mNil)))) (mD (mC (.int 9))))) (mPk 1))) (mCons (mD (mVar 1)) (mNil))))))
noncomputable def f_u_law_discount2 : List D → FR := runF 2 g_u_law_discount2
noncomputable def g_u_law_fraction2 : M Fl :=
    mRet (mD (mCall 2 f_u_law_low2 (mCons (mD (mOp oSub (mD (mOp oMod (mD (mCl cInt (mCons (mPk 0) (mNil)))) (mD (mC (.int 13))))) (mD (mC (.int 6))))) (mCons (mD (mOp oAdd (mD (mC (.int 1))) (mD (mOp oMod (mD (mOp oDiv (mD (mCl cInt (mCons (mPk 0) (mNil)))) (mD (mC (.int 13))))) (mD (mC (.int 4))))))) (mNil)))))
noncomputable def f_u_law_fraction2 : List D → FR := runF 1 g_u_law_fraction2
noncomputable def g_u_law_game2 : M Fl :=
    mSeq (mSet 2 (mCall 2 f_u_law_draws (mCons (mD (mVar 0)) (mCons (mD (mOp oAdd (mD (mOp oAdd (mD (mC (.int 2))) (mPk 1))) (mD (mOp oMul (mPk 1) (mPk 1))))) (mNil)))))
    (mSeq (mSet 3 (mOp oAdd (mD (mC (.int 1))) (mD (mOp oMod (mD (mCl cInt (mCons (mD (mOp oIx (mPk 2) (mD (mC (.int 0))))) (mNil)))) (mPk 1)))))
    (mSeq (mSet 4 (mLst (mNil)))
    (mSeq (mFor (γN 5) (mRng1 (mCons (mPk 3) (mNil))) (mSeq (mSet 7 (mCall 1 f_u_law_fraction2 (mCons (mD (mOp oIx (mPk 2) (mD (mOp oAdd (mD (mC (.int 2))) (mPk 5))))) (mNil))))
    (mSeq (mIfS (mB (mOp oEq (mD (mOp oMod (mD (mCl cInt (mCons (mD (mOp oIx (mPk 2) (mD (mC (.int 1))))) (mNil)))) (mD (mC (.int 8))))) (mD (mC (.int 1))))) (mSet 7 (mCall 2 f_u_law_low2 (mCons (mD (mOp oAdd (mD (mOp oMul (mD (mOp oIx (mPk 7) (mD (mC (.int 0))))) (mD (mOp oPow (mD (mC (.int 10))) (mD (mC (.int 30))))))) (mD (mOp oMod (mD (mCl cInt (mCons (mPk 0) (mNil)))) (mD (mOp oPow (mD (mC (.int 10))) (mD (mC (.int 30))))))))) (mCons (mD (mOp oIx (mPk 7) (mD (mC (.int 1))))) (mNil))))) (mNx))
    (mApp 4 (mD (mVar 7))))))
    (mSeq (mSet 6 (mLst (mNil)))
    (mSeq (mFor (γN 5) (mRng1 (mCons (mPk 3) (mNil))) (mSeq (mSet 8 (mLc [9] (γN 9) (mRng1 (mCons (mPk 3) (mNil))) (mYes) (mD (mOp oMod (mD (mCl cInt (mCons (mD (mOp oIx (mPk 2) (mD (mOp oAdd (mD (mOp oAdd (mD (mOp oAdd (mD (mC (.int 2))) (mPk 3))) (mD (mOp oMul (mPk 3) (mPk 5))))) (mPk 9))))) (mNil)))) (mD (mC (.int 4)))))))
    (mSeq (mIfS (mB (mOp oEq (mD (mCl cSum (mCons (mPk 8) (mNil)))) (mD (mC (.int 0))))) (mPut 8 (mD (mOp oMod (mD (mCl cInt (mCons (mD (mOp oAdd (mPk 5) (mD (mC (.int 1))))) (mNil)))) (mPk 3))) (mD (mC (.int 1)))) (mNx))
    (mApp 6 (mD (mCl cTuple (mCons (mD (mLc [9] (γN 9) (mRng1 (mCons (mPk 3) (mNil))) (mB (mOp oGt (mD (mOp oIx (mPk 8) (mPk 9))) (mD (mC (.int 0))))) (mD (mTup (mCons (mD (mVar 9)) (mCons (mD (mCall 2 f_u_law_low2 (mCons (mD (mOp oIx (mPk 8) (mPk 9))) (mCons (mD (mCl cSum (mCons (mPk 8) (mNil)))) (mNil))))) (mNil))))))) (mNil))))))))
    (mRet (mD (mTup (mCons (mD (mCl cTuple (mCons (mPk 4) (mNil)))) (mCons (mD (mCl cTuple (mCons (mPk 6) (mNil)))) (mNil)))))))))))
noncomputable def f_u_law_game2 : List D → FR := runF 10 g_u_law_game2
noncomputable def g_u_law_set2 : M Fl :=
    mRet (mD (mCl cTuple (mCons (mD (mLc [2] (γN 2) (mRng1 (mCons (mPk 1) (mNil))) (mB (mOp oEq (mD (mOp oMod (mD (mCl cInt (mCons (mD (mOp oShr (mPk 0) (mPk 2))) (mNil)))) (mD (mC (.int 2))))) (mD (mC (.int 1))))) (mD (mVar 2)))) (mNil))))
noncomputable def f_u_law_set2 : List D → FR := runF 3 g_u_law_set2
noncomputable def g_u_law_is_ratio2 : M Fl :=
    mSeq (mIfS (mOrB (mNotB (mB (mCl cIsi (mCons (mPk 0) (mCons (mD (mC (.ty "tuple"))) (mNil)))))) (mB (mOp oNe (mD (mCl cLen (mCons (mPk 0) (mNil)))) (mD (mC (.int 2)))))) (mRet (mD (mC (.bl false)))) (mNx))
    (mSeq (mIfS (mOrB (mNotB (mB (mCall 1 f_u_law_is_integer (mCons (mD (mOp oIx (mPk 0) (mD (mC (.int 0))))) (mNil))))) (mOrB (mNotB (mB (mCall 1 f_u_law_is_integer (mCons (mD (mOp oIx (mPk 0) (mD (mC (.int 1))))) (mNil))))) (mB (mOp oLt (mD (mOp oIx (mPk 0) (mD (mC (.int 1))))) (mD (mC (.int 1))))))) (mRet (mD (mC (.bl false)))) (mNx))
    (mRet (mD (mOp (oEqA false) (mD (mCall 2 f_u_law_low2 (mCons (mD (mOp oIx (mPk 0) (mD (mC (.int 0))))) (mCons (mD (mOp oIx (mPk 0) (mD (mC (.int 1))))) (mNil))))) (mPk 0)))))
noncomputable def f_u_law_is_ratio2 : List D → FR := runF 1 g_u_law_is_ratio2
noncomputable def g_u_law_ratios2 : M Fl :=
    mSeq (mIfS (mOrB (mNotB (mB (mCl cIsi (mCons (mPk 0) (mCons (mD (mC (.ty "tuple"))) (mNil)))))) (mB (mOp oNe (mD (mCl cLen (mCons (mPk 0) (mNil)))) (mPk 1)))) (mRet (mD (mC (.bl false)))) (mNx))
    (mSeq (mFor (γN 2) (mIt (mD (mVar 0))) (mIfS (mNotB (mB (mCall 1 f_u_law_is_ratio2 (mCons (mD (mVar 2)) (mNil))))) (mRet (mD (mC (.bl false)))) (mNx)))
    (mRet (mD (mC (.bl true)))))
noncomputable def f_u_law_ratios2 : List D → FR := runF 3 g_u_law_ratios2
noncomputable def g_u_law_mul2 : M Fl :=
    mRet (mD (mCall 2 f_u_law_low2 (mCons (mD (mOp oMul (mD (mOp oIx (mPk 0) (mD (mC (.int 0))))) (mD (mOp oIx (mPk 1) (mD (mC (.int 0))))))) (mCons (mD (mOp oMul (mD (mOp oIx (mPk 0) (mD (mC (.int 1))))) (mD (mOp oIx (mPk 1) (mD (mC (.int 1))))))) (mNil)))))
noncomputable def f_u_law_mul2 : List D → FR := runF 2 g_u_law_mul2
noncomputable def g_u_law_add2 : M Fl :=
    mRet (mD (mCall 2 f_u_law_low2 (mCons (mD (mOp oAdd (mD (mOp oMul (mD (mOp oIx (mPk 0) (mD (mC (.int 0))))) (mD (mOp oIx (mPk 1) (mD (mC (.int 1))))))) (mD (mOp oMul (mD (mOp oIx (mPk 1) (mD (mC (.int 0))))) (mD (mOp oIx (mPk 0) (mD (mC (.int 1))))))))) (mCons (mD (mOp oMul (mD (mOp oIx (mPk 0) (mD (mC (.int 1))))) (mD (mOp oIx (mPk 1) (mD (mC (.int 1))))))) (mNil)))))
noncomputable def f_u_law_add2 : List D → FR := runF 2 g_u_law_add2
theorem gcd_loop2 {d n : D} : ∀ (b a : Nat) (s : Sl), ∃ k s', whN (mB (mOp oGt (mPk 3) (mD (mC (.int 0))))) (mSeq (mSet 4 (mOp oMod (mD (mCl cInt (mCons (mPk 2) (mNil)))) (mPk 3))) (mSeq (mSet 2 (mVar 3)) (mSet 3 (mVar 4)))) k
    [.fr n, .fr d, .fr (.int (a : Int)), .fr (.int (b : Int)), s] = .ok .nx [.fr n, .fr d, .fr (.int (Nat.gcd a b : Nat)), .fr (.int 0), s'] := fun b => by
  induction b using Nat.strongRecOn with
  | ind b ih =>
    intro a s
    by_cases h : b = 0
    · subst h
      exact ⟨1, s, by simp [whN]⟩
    · have hb : ((b : Nat) : Int) ≠ 0 := by omega
      obtain ⟨k, s', e⟩ := ih (a % b) (Nat.mod_lt _ (by omega)) b (.fr (.int ((a % b : Nat) : Int)))
      have hf : ((a : Nat) : Int).fmod (b : Int) = ((a % b : Nat) : Int) := by
        rw [Int.fmod_eq_emod_of_nonneg _ (by omega)]
        rfl
      have hp : 0 < b := by omega
      refine ⟨k + 1, s', ?_⟩
      rw [whN]
      simp [hp, oMod_int hb, hf, h]
      have hg : Nat.gcd a b = Nat.gcd b (a % b) := by rw [Nat.gcd_comm, Nat.gcd_rec, Nat.gcd_comm]
      rw [hg, ← e]
      simp
theorem low2_eq {n d : Int} (hd : d ≠ 0) : f_u_law_low2 [.int n, .int d] = .ok (enc (Rat.divInt n d)) := by
  obtain ⟨k, s', e⟩ := gcd_loop2 (d := .int d) (n := .int n) d.natAbs n.natAbs .un
  have hw := mWh_eq e (fun z => nomatch z)
  have hg : Int.gcd n d ≠ 0 := fun z => hd (Int.gcd_eq_zero_iff.mp z).2
  have gg : Nat.gcd n.natAbs d.natAbs = Int.gcd n d := rfl
  rw [gg] at hw
  by_cases h : d < 0
  · have hn := low_num (n := 0 - n) (d := 0 - d) (by omega)
    have hde := low_den (n := 0 - n) (d := 0 - d) (by omega)
    rw [if_neg (by omega)] at hn hde
    have g2 : Int.gcd (0 - n) (0 - d) = Int.gcd n d := by rw [Int.zero_sub, Int.zero_sub, Int.neg_gcd, Int.gcd_neg]
    have r2 : Rat.divInt (0 - n) (0 - d) = Rat.divInt n d := by rw [Int.zero_sub, Int.zero_sub, Rat.neg_divInt_neg]
    rw [g2, r2] at hn hde
    have d1 : oDiv (.int (0 - n)) (.int ((Int.gcd n d : Nat) : Int)) = _ := oDiv_int (by omega)
    have d2 : oDiv (.int (0 - d)) (.int ((Int.gcd n d : Nat) : Int)) = _ := oDiv_int (by omega)
    rw [hn] at d1
    rw [hde] at d2
    unfold enc
    generalize ((Int.gcd n d : Nat) : Int) = G at *
    have z1 : (0 : Int) - n = -n := Int.zero_sub n
    have z2 : (0 : Int) - d = -d := Int.zero_sub d
    rw [z1] at d1
    rw [z2] at d2
    simp [f_u_law_low2, g_u_law_low2, hw, h, d1, d2]
  · have hn := low_num (n := n) hd
    have hde := low_den (n := n) hd
    rw [if_neg h] at hn hde
    have d1 : oDiv (.int n) (.int ((Int.gcd n d : Nat) : Int)) = _ := oDiv_int (by omega)
    have d2 : oDiv (.int d) (.int ((Int.gcd n d : Nat) : Int)) = _ := oDiv_int (by omega)
    rw [hn] at d1
    rw [hde] at d2
    unfold enc
    generalize ((Int.gcd n d : Nat) : Int) = G at *
    have h' : ¬ (d < 0) := h
    simp [f_u_law_low2, g_u_law_low2, hw, h', d1, d2]
theorem add2_eq {p q : Rat} {a b : Nat} (hp : Sz a p) (hq : Sz b q) (h : a + b ≤ 130000000) : f_u_law_add2 [enc p, enc q] = .ok (enc (p + q)) := by
  have m1 : oMul (.int p.num) (.int (q.den : Int)) = _ := oMul_int (mk_nd hp hq h)
  have m2 : oMul (.int q.num) (.int (p.den : Int)) = _ := oMul_int (mk_nd hq hp (by omega))
  have m3 : oMul (.int (p.den : Int)) (.int (q.den : Int)) = _ := oMul_int (mk_dd hp hq h)
  have lo := low2_eq (n := p.num * q.den + q.num * p.den) (dens_ne p q)
  rw [← add_divInt] at lo
  unfold enc at lo ⊢
  simp [f_u_law_add2, g_u_law_add2, m1, m2, m3, lo]
theorem mul2_eq {p q : Rat} {a b : Nat} (hp : Sz a p) (hq : Sz b q) (h : a + b ≤ 130000000) : f_u_law_mul2 [enc p, enc q] = .ok (enc (p * q)) := by
  have m1 : oMul (.int p.num) (.int q.num) = _ := oMul_int (mk_nn hp hq h)
  have m3 : oMul (.int (p.den : Int)) (.int (q.den : Int)) = _ := oMul_int (mk_dd hp hq h)
  have lo := low2_eq (n := p.num * q.num) (dens_ne p q)
  rw [← mul_divInt] at lo
  unfold enc at lo ⊢
  simp [f_u_law_mul2, g_u_law_mul2, m1, m3, lo]
theorem is_ratio2_eq {q : Rat} : f_u_law_is_ratio2 [enc q] = .ok (.bl true) := by
  have h1 : ¬ ((q.den : Int) < 1) := by have := q.den_pos; omega
  have lo := low2_eq (n := q.num) (d := (q.den : Int)) (by have := q.den_pos; omega)
  rw [Rat.num_divInt_den] at lo
  have ea := eqA_enc (neg := false) (p := q) (q := q)
  have i0 : oIx (enc q) (.int 0) = some (.d (.int q.num)) := rfl
  have i1 : oIx (enc q) (.int 1) = some (.d (.int (q.den : Int))) := rfl
  have c1 : cIsi [enc q, .ty "tuple"] = some (.d (.bl true)) := rfl
  have c2 : cLen [enc q] = some (.d (.int 2)) := rfl
  generalize enc q = e at *
  simp [f_u_law_is_ratio2, g_u_law_is_ratio2, c1, c2, i0, i1, is_int, h1, lo, ea]
theorem ratios2_eq {l : List Rat} : f_u_law_ratios2 [.tup (l.map enc), .int (l.length : Int)] = .ok (.bl true) := by
  have key := for_inv (γ := γN 2) (g := (mIfS (mNotB (mB (mCall 1 f_u_law_is_ratio2 (mCons (mD (mVar 2)) (mNil))))) (mRet (mD (mC (.bl false)))) (mNx))) (all := l.map enc) (env := [.fr (.tup (l.map enc)), .fr (.int (l.length : Int)), .un])
    (fun i env => ∃ s, env = [.fr (.tup (l.map enc)), .fr (.int (l.length : Int)), s]) ⟨_, rfl⟩ (by
      rintro i x env hx ⟨s, rfl⟩
      rw [List.getElem?_map] at hx
      obtain ⟨q, hg, rfl⟩ := Option.map_eq_some_iff.mp hx
      have r := is_ratio2_eq (q := q)
      refine ⟨_, [.fr (.tup (l.map enc)), .fr (.int (l.length : Int)), .fr (enc q)], rfl, ?_, _, rfl⟩
      generalize enc q = e at *
      simp [r])
  obtain ⟨env', k1, s, rfl⟩ := key
  have ll : (l.map enc).length = l.length := List.length_map ..
  generalize l.map enc = le at *
  simp [f_u_law_ratios2, g_u_law_ratios2, ll, k1]
theorem fraction2_eq {x : Int} : ∃ (n d : Int), -6 ≤ n ∧ n ≤ 6 ∧ 1 ≤ d ∧ d ≤ 4 ∧ f_u_law_fraction2 [.int x] = .ok (enc (Rat.divInt n d)) := by
  have m13 : oMod (.int x) (.int 13) = _ := oMod_int (by decide)
  have d13 : oDiv (.int x) (.int 13) = _ := oDiv_int (by decide)
  have m4 : oMod (.int (x.fdiv 13)) (.int 4) = _ := oMod_int (by decide)
  have f13 := fm (i := x) (k := 13) (by decide)
  have f4 := fm (i := x.fdiv 13) (k := 4) (by decide)
  simp only [Int.cast_ofNat_Int] at f13 f4
  have b4 : 0 ≤ (x.fdiv 13).fmod 4 ∧ (x.fdiv 13).fmod 4 < 4 := by omega
  generalize (x.fdiv 13).fmod 4 = d at *
  have hd : (1 + d : Int) ≠ 0 := by omega
  have lo := low2_eq (n := x.fmod 13 - 6) hd
  exact ⟨x.fmod 13 - 6, 1 + d, by omega, by omega, by omega, by omega, by simp [f_u_law_fraction2, g_u_law_fraction2, m13, d13, m4, lo]⟩
theorem discount2_eq {x : Int} (h0 : 0 ≤ x) (h1 : x < 5040) : ∃ b : Rat, 0 ≤ b ∧ b < 1 ∧ Sz 4 b ∧ b.den ≤ 10 ∧ f_u_law_discount2 [.int x] = .ok (enc b) := by
  have m9 : oMod (.int x) (.int 9) = _ := oMod_int (by decide)
  have d9 : oDiv (.int x) (.int 9) = _ := oDiv_int (by decide)
  have f9 := fm (i := x) (k := 9) (by decide)
  simp only [Int.cast_ofNat_Int] at f9
  obtain ⟨w, hw⟩ := nat_of (i := 2 + x.fmod 9) (by omega)
  have hw1 : 2 ≤ w ∧ w ≤ 10 := by omega
  have mq : oMod (.int (x.fdiv 9)) (.int (w : Int)) = _ := oMod_int (by omega)
  have fq := fm (i := x.fdiv 9) (k := w) (by omega)
  have b1 := Int.emod_nonneg (x.fdiv 9) (by omega : (w : Int) ≠ 0)
  have b2 := Int.emod_lt_of_pos (x.fdiv 9) (by omega : 0 < (w : Int))
  rw [← fq] at b1 b2
  generalize (x.fdiv 9).fmod (w : Int) = n at *
  have lo := low2_eq (n := n) (d := (w : Int)) (by omega)
  have wp : (0 : Rat) < ((w : Int) : Rat) := by rw [show (0 : Rat) = ((0 : Int) : Rat) from rfl, Rat.intCast_lt_intCast]; omega
  refine ⟨Rat.divInt n w, ?_, ?_, divInt_sz (by omega) (by omega) (by omega), ?_, ?_⟩
  · exact Rat.divInt_nonneg b1 (by omega)
  · rw [Rat.divInt_eq_div, Rat.div_lt_iff wp, Rat.one_mul, Rat.intCast_lt_intCast]
    exact b2
  · have := (divInt_size (n := n) (d := (w : Int)) (by omega)).2
    rw [Int.natAbs_natCast] at this
    omega
  · have e : (2 : Int) + x.fmod 9 = (w : Int) := hw
    simp [f_u_law_discount2, g_u_law_discount2, m9, d9, e, mq, lo]
end Law
namespace Law
open PySem PySem.Spec PyProof.Rows L2 Evl Iv
/-- some number times q is whole -/
def Dv (N : Nat) (q : Rat) : Prop := ∃ z : Int, q * (N : Rat) = (z : Rat)
theorem Dv.add {N : Nat} {p q : Rat} (h : Dv N p) (k : Dv N q) : Dv N (p + q) := by
  obtain ⟨x, hx⟩ := h
  obtain ⟨y, hy⟩ := k
  exact ⟨x + y, by rw [Rat.intCast_add, ← hx, ← hy]; grind⟩
theorem Dv.sub {N : Nat} {p q : Rat} (h : Dv N p) (k : Dv N q) : Dv N (p - q) := by
  obtain ⟨x, hx⟩ := h
  obtain ⟨y, hy⟩ := k
  exact ⟨x - y, by rw [Rat.intCast_sub, ← hx, ← hy]; grind⟩
theorem Dv.mul {N M : Nat} {p q : Rat} (h : Dv N p) (k : Dv M q) : Dv (N * M) (p * q) := by
  obtain ⟨x, hx⟩ := h
  obtain ⟨y, hy⟩ := k
  have e : ((N * M : Nat) : Rat) = (N : Rat) * (M : Rat) := by exact_mod_cast rfl
  exact ⟨x * y, by rw [Rat.intCast_mul, ← hx, ← hy, e]; grind⟩
theorem Dv.times {N : Nat} (M : Nat) {q : Rat} (h : Dv N q) : Dv (N * M) q := by
  obtain ⟨x, hx⟩ := h
  have e : ((N * M : Nat) : Rat) = (N : Rat) * (M : Rat) := by exact_mod_cast rfl
  exact ⟨x * (M : Int), by rw [Rat.intCast_mul, ← hx, e]; show _ = q * (N : Rat) * (M : Rat); grind⟩
theorem Dv.int (N : Nat) (z : Int) : Dv N (z : Rat) := ⟨z * (N : Int), by rw [Rat.intCast_mul]; rfl⟩
theorem Dv.self (q : Rat) : Dv q.den q := ⟨q.num, by
  have h1 := Rat.num_divInt_den q
  rw [Rat.divInt_eq_div] at h1
  have hd : ((q.den : Int) : Rat) ≠ 0 := fun z => by
    have := q.den_nz
    have z2 : (q.den : Int) = 0 := Rat.intCast_inj.mp z
    omega
  have h2 := Rat.div_mul_cancel (a := (q.num : Rat)) hd
  rw [h1] at h2
  exact h2⟩
theorem Dv.divInt {n : Int} {d : Nat} (h : d ≠ 0) : Dv d (Rat.divInt n d) := ⟨n, by
  rw [Rat.divInt_eq_div]
  exact Rat.div_mul_cancel (fun z => by
    have z2 : (d : Int) = 0 := Rat.intCast_inj.mp z
    omega)⟩
theorem Dv.den {N : Nat} {q : Rat} (h : Dv N q) : q.den ∣ N := by
  obtain ⟨z, hz⟩ := h
  have hs := (Dv.self q).choose_spec
  obtain ⟨w, hw⟩ := Dv.self q
  have h1 : q * (q.den : Rat) = (q.num : Rat) := by
    have h1 := Rat.num_divInt_den q
    rw [Rat.divInt_eq_div] at h1
    have hd : ((q.den : Int) : Rat) ≠ 0 := fun z => by
      have := q.den_nz
      have z2 : (q.den : Int) = 0 := Rat.intCast_inj.mp z
      omega
    have h2 := Rat.div_mul_cancel (a := (q.num : Rat)) hd
    rw [h1] at h2
    exact h2
  have h2 : (q.num : Rat) * (N : Rat) = (z : Rat) * (q.den : Rat) := by rw [← h1, ← hz]; grind
  have h3 : q.num * (N : Int) = z * (q.den : Int) := by
    have e1 : ((q.num * (N : Int) : Int) : Rat) = (q.num : Rat) * (N : Rat) := by rw [Rat.intCast_mul]; rfl
    have e2 : ((z * (q.den : Int) : Int) : Rat) = (z : Rat) * (q.den : Rat) := by rw [Rat.intCast_mul]; rfl
    exact Rat.intCast_inj.mp (by rw [e1, e2, h2])
  have h4 : q.den ∣ q.num.natAbs * N := by
    have := congrArg Int.natAbs h3
    rw [Int.natAbs_mul, Int.natAbs_mul, Int.natAbs_natCast, Int.natAbs_natCast] at this
    rw [this]
    exact Nat.dvd_mul_left _ _
  exact q.reduced.symm.dvd_of_dvd_mul_left h4
theorem lcm_all {N : Nat} : ∀ (r : List Rat) (a : Nat), a ∣ N → (∀ q ∈ r, q.den ∣ N) → r.foldl (fun a q => Nat.lcm a q.den) a ∣ N
  | [], a, h, _ => h
  | q :: r, a, h, k => lcm_all r _ (Nat.lcm_dvd h (k q List.mem_cons_self)) fun x hx => k x (List.mem_cons_of_mem _ hx)
theorem lcmQ_lt {N : Nat} {r : List Rat} (h : ∀ q ∈ r, Dv N q) (h0 : 0 < N) (hN : N < 2 ^ 64) : lcmQ r < 2 ^ 64 := by
  have := Nat.le_of_dvd h0 (lcm_all r 1 (Nat.one_dvd _) fun q hq => (h q hq).den)
  unfold lcmQ
  omega
/-! ### games -/
/-- the sum of the probabilities -/
def sumP (r : List (Nat × Rat)) : Rat := r.foldr (fun p a => p.2 + a) 0
structure ROk (n : Nat) (r : List (Nat × Rat)) : Prop where
  lt : ∀ p ∈ r, p.1 < n
  asc : r.Pairwise fun a b => a.1 < b.1
  pos : ∀ p ∈ r, 0 < p.2
  sz : ∀ p ∈ r, Sz 8 p.2
  dv : ∃ W : Nat, 1 ≤ W ∧ W ≤ 100 ∧ ∀ p ∈ r, Dv W p.2
  one : sumP r = 1
structure GOk (n : Nat) (rs : List Rat) (rows : List (List (Nat × Rat))) : Prop where
  ne : 1 ≤ n
  n9 : n ≤ 24
  ls : rs.length = n
  lr : rows.length = n
  rew : ∀ q ∈ rs, Sz 110 q ∧ q.den ≤ 4
  row : ∀ r ∈ rows, ROk n r
theorem ROk.len {n : Nat} {r : List (Nat × Rat)} (h : ROk n r) : r.length ≤ n := by
  have nd : (r.map (·.1)).Nodup := by
    unfold List.Nodup
    rw [List.pairwise_map]
    exact h.asc.imp fun h => Nat.ne_of_lt h
  have := nd.length_le_of_subset (l₂ := List.range n) fun x hx => by
    obtain ⟨p, hp, rfl⟩ := List.mem_map.mp hx
    exact List.mem_range.mpr (h.lt p hp)
  rwa [List.length_map, List.length_range] at this
/-- a row by weights -/
def rowW (n : Nat) (w : Nat → Int) (W : Int) : List (Nat × Rat) := ((List.range n).filter fun t => decide (0 < w t)).map fun t => (t, Rat.divInt (w t) W)
theorem sumP_w {w : Nat → Int} {W : Int} (hW : W ≠ 0) : ∀ l : List Nat, (∀ t ∈ l, 0 ≤ w t) → sumP ((l.filter fun t => decide (0 < w t)).map fun t => (t, Rat.divInt (w t) W)) = Rat.divInt ((l.map w).sum) W
  | [], _ => by
    show (0 : Rat) = Rat.divInt 0 W
    rw [Rat.zero_divInt]
  | t :: l, h => by
    have ih := sumP_w hW l fun x hx => h x (List.mem_cons_of_mem _ hx)
    rw [List.map_cons, List.sum_cons]
    have ad : Rat.divInt (w t) W + Rat.divInt ((l.map w).sum) W = Rat.divInt (w t + (l.map w).sum) W := by
      rw [Rat.divInt_add_divInt _ _ hW hW, ← Int.add_mul, Rat.divInt_mul_right hW]
    by_cases hp : 0 < w t
    · rw [List.filter_cons_of_pos (by simpa using hp), List.map_cons]
      show Rat.divInt (w t) W + sumP _ = _
      rw [ih, ad]
    · have h0 : w t = 0 := by have := h t List.mem_cons_self; omega
      rw [List.filter_cons_of_neg (by simpa using hp), ih, h0, Int.zero_add]
theorem sum_nn {l : List Int} : (∀ x ∈ l, 0 ≤ x) → 0 ≤ l.sum ∧ ∀ x ∈ l, x ≤ l.sum := by
  induction l with
  | nil => exact fun _ => ⟨Int.le_refl _, (fun _ z => nomatch z)⟩
  | cons y l ih =>
    intro h
    obtain ⟨h1, h2⟩ := ih fun x hx => h x (List.mem_cons_of_mem _ hx)
    have h3 := h y List.mem_cons_self
    rw [List.sum_cons]
    refine ⟨by omega, fun x hx => ?_⟩
    rcases List.mem_cons.mp hx with z | z
    · omega
    · have := h2 x z; omega
theorem sum_le {l : List Int} {c : Int} : (∀ x ∈ l, x ≤ c) → l.sum ≤ (l.length : Int) * c := by
  induction l with
  | nil => intro _; simp
  | cons y l ih =>
    intro h
    have h1 := ih fun x hx => h x (List.mem_cons_of_mem _ hx)
    have h2 := h y List.mem_cons_self
    rw [List.sum_cons, List.length_cons, Int.natCast_add]
    show y + l.sum ≤ ((l.length : Int) + 1) * c
    rw [Int.add_mul, Int.one_mul]
    omega
theorem rowW_ok {n : Nat} {w : Nat → Int} {W : Int} (hn : n ≤ 24) (hw : ∀ t, t < n → 0 ≤ w t ∧ w t ≤ 3) (hW : W = ((List.range n).map w).sum) (hp : 1 ≤ W) : ROk n (rowW n w W) := by
  have W9 : W ≤ 72 := by
    have := sum_le (l := (List.range n).map w) (c := 3) fun x hx => by
      obtain ⟨t, ht, rfl⟩ := List.mem_map.mp hx
      exact (hw t (List.mem_range.mp ht)).2
    rw [← hW, List.length_map, List.length_range] at this
    omega
  have mem : ∀ p ∈ rowW n w W, p.1 < n ∧ 0 < w p.1 ∧ w p.1 ≤ 3 ∧ p.2 = Rat.divInt (w p.1) W := fun p hp => by
    obtain ⟨t, ht, rfl⟩ := List.mem_map.mp hp
    obtain ⟨h1, h2⟩ := List.mem_filter.mp ht
    have h1 := List.mem_range.mp h1
    exact ⟨h1, of_decide_eq_true h2, (hw t h1).2, rfl⟩
  have Wn : ((W.toNat : Nat) : Int) = W := by omega
  refine ⟨fun p hp => (mem p hp).1, ?_, fun p hp => ?_, fun p hp => ?_, ⟨W.toNat, by omega, by omega, fun p hp => ?_⟩, ?_⟩
  · unfold rowW
    rw [List.pairwise_map]
    exact List.pairwise_lt_range.filter _
  · obtain ⟨_, h1, _, e⟩ := mem p hp
    rw [e]
    have hp : (0 : Rat) < (W : Rat) := by rw [show (0 : Rat) = ((0 : Int) : Rat) from rfl, Rat.intCast_lt_intCast]; omega
    rw [Rat.divInt_eq_div, Rat.lt_div_iff hp, Rat.zero_mul, show (0 : Rat) = ((0 : Int) : Rat) from rfl, Rat.intCast_lt_intCast]
    exact h1
  · obtain ⟨_, h1, h2, e⟩ := mem p hp
    rw [e]
    exact divInt_sz (by omega) (by omega) (by omega)
  · obtain ⟨_, _, _, e⟩ := mem p hp
    rw [e, ← Wn]
    exact Dv.divInt (by omega)
  · unfold rowW
    rw [sumP_w (by omega) _ fun t ht => (hw t (List.mem_range.mp ht)).1, ← hW, Rat.divInt_self' (by omega)]
end Law
namespace Law
open PySem PySem.Spec PyProof.Rows L2 Evl Iv
theorem pow_30 : oPow (.int 10) (.int 30) = some (.d (.int 1000000000000000000000000000000)) := rfl
def wL (n : Nat) (w : Nat → Int) : List D := (List.range n).map fun t => D.int (w t)
theorem wL_sum {n : Nat} {w : Nat → Int} : cSum [.lst (wL n w)] = some (.d (.int ((List.range n).map w).sum)) := by
  have e : wL n w = ((List.range n).map w).map D.int := by unfold wL; rw [List.map_map]; rfl
  show (intsOf _).map _ = _
  rw [e, intsOf_map]
  rfl
theorem wL_set {n j : Nat} {w : Nat → Int} (hj : j < n) : (wL n w).set j (.int 1) = wL n fun t => if t = j then 1 else w t := by
  unfold wL
  refine List.ext_getElem? fun i => ?_
  by_cases e : j = i
  · subst e
    rw [List.getElem?_set_self (by simpa using hj), List.getElem?_map, List.getElem?_range hj]
    show some (D.int 1) = some (D.int (if j = j then 1 else w j))
    rw [if_pos rfl]
  · rw [List.getElem?_set_ne e, List.getElem?_map, List.getElem?_map]
    by_cases hi : i < n
    · rw [List.getElem?_range hi]
      show some (D.int (w i)) = some (D.int (if i = j then 1 else w i))
      rw [if_neg (fun z => e z.symm)]
    · rw [List.getElem?_eq_none (by rw [List.length_range]; omega)]
      rfl
/-- a row as data -/
def rowQ (r : List (Nat × Rat)) : D := rowD (r.map toD)
noncomputable def gmA : M Fl := (mSeq (mSet 7 (mCall 1 f_u_law_fraction2 (mCons (mD (mOp oIx (mPk 2) (mD (mOp oAdd (mD (mC (.int 2))) (mPk 5))))) (mNil))))
    (mSeq (mIfS (mB (mOp oEq (mD (mOp oMod (mD (mCl cInt (mCons (mD (mOp oIx (mPk 2) (mD (mC (.int 1))))) (mNil)))) (mD (mC (.int 8))))) (mD (mC (.int 1))))) (mSet 7 (mCall 2 f_u_law_low2 (mCons (mD (mOp oAdd (mD (mOp oMul (mD (mOp oIx (mPk 7) (mD (mC (.int 0))))) (mD (mOp oPow (mD (mC (.int 10))) (mD (mC (.int 30))))))) (mD (mOp oMod (mD (mCl cInt (mCons (mPk 0) (mNil)))) (mD (mOp oPow (mD (mC (.int 10))) (mD (mC (.int 30))))))))) (mCons (mD (mOp oIx (mPk 7) (mD (mC (.int 1))))) (mNil))))) (mNx))
    (mApp 4 (mD (mVar 7)))))
noncomputable def gmB : M Fl := (mSeq (mSet 8 (mLc [9] (γN 9) (mRng1 (mCons (mPk 3) (mNil))) (mYes) (mD (mOp oMod (mD (mCl cInt (mCons (mD (mOp oIx (mPk 2) (mD (mOp oAdd (mD (mOp oAdd (mD (mOp oAdd (mD (mC (.int 2))) (mPk 3))) (mD (mOp oMul (mPk 3) (mPk 5))))) (mPk 9))))) (mNil)))) (mD (mC (.int 4)))))))
    (mSeq (mIfS (mB (mOp oEq (mD (mCl cSum (mCons (mPk 8) (mNil)))) (mD (mC (.int 0))))) (mPut 8 (mD (mOp oMod (mD (mCl cInt (mCons (mD (mOp oAdd (mPk 5) (mD (mC (.int 1))))) (mNil)))) (mPk 3))) (mD (mC (.int 1)))) (mNx))
    (mApp 6 (mD (mCl cTuple (mCons (mD (mLc [9] (γN 9) (mRng1 (mCons (mPk 3) (mNil))) (mB (mOp oGt (mD (mOp oIx (mPk 8) (mPk 9))) (mD (mC (.int 0))))) (mD (mTup (mCons (mD (mVar 9)) (mCons (mD (mCall 2 f_u_law_low2 (mCons (mD (mOp oIx (mPk 8) (mPk 9))) (mCons (mD (mCl cSum (mCons (mPk 8) (mNil)))) (mNil))))) (mNil))))))) (mNil)))))))
theorem game2_rfl : g_u_law_game2 = mSeq (mSet 2 (mCall 2 f_u_law_draws (mCons (mD (mVar 0)) (mCons (mD (mOp oAdd (mD (mOp oAdd (mD (mC (.int 2))) (mPk 1))) (mD (mOp oMul (mPk 1) (mPk 1))))) (mNil)))))
    (mSeq (mSet 3 (mOp oAdd (mD (mC (.int 1))) (mD (mOp oMod (mD (mCl cInt (mCons (mD (mOp oIx (mPk 2) (mD (mC (.int 0))))) (mNil)))) (mPk 1)))))
    (mSeq (mSet 4 (mLst (mNil)))
    (mSeq (mFor (γN 5) (mRng1 (mCons (mPk 3) (mNil))) gmA)
    (mSeq (mSet 6 (mLst (mNil)))
    (mSeq (mFor (γN 5) (mRng1 (mCons (mPk 3) (mNil))) gmB)
    (mRet (mD (mTup (mCons (mD (mCl cTuple (mCons (mPk 4) (mNil)))) (mCons (mD (mCl cTuple (mCons (mPk 6) (mNil)))) (mNil))))))))))) := rfl
theorem gmA_eq {i : Int} {mo n s : Nat} {xs : List Int} {R : List D} (h1 : 1 < xs.length) (hs : 2 + s < xs.length) (hR : R.length < 90000) {s6 s7 s8 s9 : Sl} : ∃ q : Rat, Sz 110 q ∧ q.den ≤ 4 ∧
    gmA [.fr (.int i), .fr (nI mo), .fr (.lst (xs.map D.int)), .fr (nI n), .ow R, .fr (nI s), s6, s7, s8, s9] = .ok .nx [.fr (.int i), .fr (nI mo), .fr (.lst (xs.map D.int)), .fr (nI n), .ow (R ++ [enc q]), .fr (nI s), s6, .fr (enc q), s8, s9] := by
  have i1 : atI (xs.map D.int) 1 = some (.int (gt xs 1)) := at_int (k := 1) h1
  have is : atI (xs.map D.int) (2 + (s : Int)) = some (.int (gt xs (2 + s))) := by
    have := at_int (k := 2 + s) hs
    rwa [Int.natCast_add] at this
  obtain ⟨a, d, a1, a2, d1, d2, fr⟩ := fraction2_eq (x := gt xs (2 + s))
  have ad : oAdd (.int 2) (nI s) = some (.d (.int (2 + (s : Int)))) := rfl
  have m8 : oMod (.int (gt xs 1)) (.int 8) = _ := oMod_int (by decide)
  have dn := divInt_size (n := a) (d := d) (by omega)
  have dpos := (Rat.divInt a d).den_pos
  by_cases h : (gt xs 1).fmod 8 = 1
  · have m30 : oMod (.int i) (.int 1000000000000000000000000000000) = _ := oMod_int (by decide)
    have f30 := fm (i := i) (k := 1000000000000000000000000000000) (by decide)
    simp only [Int.cast_ofNat_Int] at f30
    have mu : oMul (.int (Rat.divInt a d).num) (.int 1000000000000000000000000000000) = _ := oMul_int (mulOk_of (a := 4) (b := 100) (by omega) (by decide) (by decide))
    obtain ⟨N, hN⟩ : ∃ N, N = (Rat.divInt a d).num * 1000000000000000000000000000000 + i.fmod 1000000000000000000000000000000 := ⟨_, rfl⟩
    have lo := low2_eq (n := N) (d := ((Rat.divInt a d).den : Int)) (by omega)
    have sz := divInt_size (n := N) (d := ((Rat.divInt a d).den : Int)) (by omega)
    rw [Int.natAbs_natCast] at sz
    have b104 : N.natAbs < 2 ^ 110 := by
      have e : (2 : Nat) ^ 110 = 1298074214633706907132624082305024 := by decide
      rw [e]
      omega
    refine ⟨Rat.divInt N ((Rat.divInt a d).den : Int), ⟨by omega, by
      have : (4 : Nat) < 2 ^ 110 := by decide
      omega⟩, by omega, ?_⟩
    have q0 : oIx (enc (Rat.divInt a d)) (.int 0) = some (.d (.int (Rat.divInt a d).num)) := rfl
    have q1 : oIx (enc (Rat.divInt a d)) (.int 1) = some (.d (.int ((Rat.divInt a d).den : Int))) := rfl
    rw [hN] at lo
    rw [hN]
    generalize enc (Rat.divInt ((Rat.divInt a d).num * 1000000000000000000000000000000 + i.fmod 1000000000000000000000000000000) ((Rat.divInt a d).den : Int)) = ee at *
    generalize enc (Rat.divInt a d) = e0 at *
    generalize xs.map D.int = xl at *
    generalize nI s = ss at *
    generalize nI n = nn at *
    generalize nI mo = mm at *
    simp [gmA, ad, is, fr, i1, m8, h, q0, q1, pow_30, mu, m30, lo, hR]
  · refine ⟨Rat.divInt a d, ⟨by
      have e : (6 : Nat) < 2 ^ 110 := by decide
      omega, by
      have e : (4 : Nat) < 2 ^ 110 := by decide
      omega⟩, by omega, ?_⟩
    generalize enc (Rat.divInt a d) = e0 at *
    generalize xs.map D.int = xl at *
    generalize nI s = ss at *
    generalize nI n = nn at *
    generalize nI mo = mm at *
    simp [gmA, ad, is, fr, i1, m8, h, hR]
theorem gmB_eq {i : Int} {mo n s : Nat} {xs : List Int} {R M : List D} (hn : 1 ≤ n) (hn9 : n ≤ 24) (hs : s < n) (hx : 2 + n + n * n ≤ xs.length) (hM : M.length < 90000) {s7 s8 s9 : Sl} : ∃ (r : List (Nat × Rat)) (t8 : Sl), ROk n r ∧
    gmB [.fr (.int i), .fr (nI mo), .fr (.lst (xs.map D.int)), .fr (nI n), .ow R, .fr (nI s), .ow M, s7, s8, s9] = .ok .nx [.fr (.int i), .fr (nI mo), .fr (.lst (xs.map D.int)), .fr (nI n), .ow R, .fr (nI s), .ow (M ++ [rowQ r]), s7, t8, .un] := by
  have hsm : small (n : Int) = true := small_nat (by omega)
  have h90 : (Iv.upTo 0 n).length ≤ 90000 := by rw [upTo_len]; omega
  have nn : n * s + n ≤ n * n := by
    have := Nat.mul_le_mul_left n (show s + 1 ≤ n from hs)
    rw [Nat.mul_add, Nat.mul_one] at this
    exact this
  have mns : oMul (nI n) (nI s) = some (.d (.int ((n : Int) * (s : Int)))) := oMul_int (mulOk_of (a := 16) (b := 16) (by omega) (by omega) (by decide))
  obtain ⟨w0, hw0⟩ : ∃ w0 : Nat → Int, w0 = fun t => (gt xs (2 + n + n * s + t)).fmod 4 := ⟨_, rfl⟩
  have w03 : ∀ t, 0 ≤ w0 t ∧ w0 t ≤ 3 := fun t => by
    have := fm (i := gt xs (2 + n + n * s + t)) (k := 4) (by decide)
    simp only [Int.cast_ofNat_Int] at this
    rw [hw0]
    dsimp only
    omega
  have c8 : compL [9] (γN 9) mYes (mD (mOp oMod (mD (mCl cInt (mCons (mD (mOp oIx (mPk 2) (mD (mOp oAdd (mD (mOp oAdd (mD (mOp oAdd (mD (mC (.int 2))) (mPk 3))) (mD (mOp oMul (mPk 3) (mPk 5))))) (mPk 9))))) (mNil)))) (mD (mC (.int 4))))) (Iv.upTo 0 n) [] [.fr (.int i), .fr (nI mo), .fr (.lst (xs.map D.int)), .fr (nI n), .ow R, .fr (nI s), .ow M, s7, s8, .un] = .ok (wL n w0) [.fr (.int i), .fr (nI mo), .fr (.lst (xs.map D.int)), .fr (nI n), .ow R, .fr (nI s), .ow M, s7, s8, .un] := by
    refine comp_n fun t ht => ?_
    have it := at_int (xs := xs) (k := 2 + n + n * s + t) (by omega)
    rw [Int.natCast_add, Int.natCast_add, Int.natCast_add, Int.natCast_mul, Int.cast_ofNat_Int] at it
    have m4 : oMod (.int (gt xs (2 + n + n * s + t))) (.int 4) = _ := oMod_int (by decide)
    have ad1 : oAdd (.int 2) (nI n) = some (.d (.int (2 + (n : Int)))) := rfl
    refine ⟨[.fr (.int i), .fr (nI mo), .fr (.lst (xs.map D.int)), .fr (nI n), .ow R, .fr (nI s), .ow M, s7, s8, .fr (.int (t : Int))], ?_, rfl⟩
    rw [hw0]
    generalize xs.map D.int = xl at *
    generalize nI s = ss at *
    generalize nI n = n' at *
    simp [ad1, mns, it, m4]
  -- the weights as they stand at last
  obtain ⟨w, w3, wp, hw⟩ : ∃ w : Nat → Int, (∀ t, t < n → 0 ≤ w t ∧ w t ≤ 3) ∧ 1 ≤ ((List.range n).map w).sum ∧ ∀ g : Iv.M Fl, (mSeq (mIfS (mB (mOp oEq (mD (mCl cSum (mCons (mPk 8) (mNil)))) (mD (mC (.int 0))))) (mPut 8 (mD (mOp oMod (mD (mCl cInt (mCons (mD (mOp oAdd (mPk 5) (mD (mC (.int 1))))) (mNil)))) (mPk 3))) (mD (mC (.int 1)))) (mNx)) g) [.fr (.int i), .fr (nI mo), .fr (.lst (xs.map D.int)), .fr (nI n), .ow R, .fr (nI s), .ow M, s7, .ow (wL n w0), .un] = g [.fr (.int i), .fr (nI mo), .fr (.lst (xs.map D.int)), .fr (nI n), .ow R, .fr (nI s), .ow M, s7, .ow (wL n w), .un] := by
    have sm := wL_sum (n := n) (w := w0)
    have nneg := sum_nn (l := (List.range n).map w0) fun x hx => by
      obtain ⟨t, _, rfl⟩ := List.mem_map.mp hx
      exact (w03 t).1
    by_cases h0 : ((List.range n).map w0).sum = 0
    · obtain ⟨j, hj⟩ := nat_of (i := ((s : Int) + 1).fmod (n : Int)) (by rw [fm (by omega)]; exact Int.emod_nonneg _ (by omega))
      have hjn : j < n := by
        have h := fm (i := (s : Int) + 1) (k := n) (by omega)
        have h2 := Int.emod_lt_of_pos ((s : Int) + 1) (by omega : 0 < (n : Int))
        omega
      have mn : oMod (.int ((s : Int) + 1)) (nI n) = some (.d (.int (j : Int))) := by
        have := oMod_int (i := (s : Int) + 1) (j := (n : Int)) (by omega)
        rw [hj] at this
        exact this
      have ad : oAdd (nI s) (.int 1) = some (.d (.int ((s : Int) + 1))) := rfl
      have ixn : ixN (wL n w0).length (j : Int) = some j := by
        unfold wL
        rw [List.length_map, List.length_range]
        unfold ixN
        rw [if_pos (by omega), if_pos (by omega)]
        rfl
      have st := wL_set (w := w0) hjn
      refine ⟨fun t => if t = j then 1 else w0 t, fun t _ => ?_, ?_, fun g => ?_⟩
      · show 0 ≤ (if t = j then (1 : Int) else w0 t) ∧ (if t = j then (1 : Int) else w0 t) ≤ 3
        by_cases e : t = j
        · rw [if_pos e]; omega
        · rw [if_neg e]; exact w03 t
      · have := sum_nn (l := (List.range n).map fun t => if t = j then 1 else w0 t) fun x hx => by
          obtain ⟨t, _, rfl⟩ := List.mem_map.mp hx
          by_cases e : t = j
          · rw [if_pos e]; decide
          · rw [if_neg e]; exact (w03 t).1
        exact this.2 1 (List.mem_map.mpr ⟨j, List.mem_range.mpr hjn, by rw [if_pos rfl]⟩)
      · rw [← st]
        generalize xs.map D.int = xl at *
        generalize nI s = ss at *
        generalize nI n = n' at *
        generalize wL n w0 = wl at *
        simp [sm, h0, ad, mn, ixn]
    · refine ⟨w0, fun t _ => w03 t, by omega, fun g => ?_⟩
      generalize xs.map D.int = xl at *
      generalize nI s = ss at *
      generalize nI n = n' at *
      generalize wL n w0 = wl at *
      simp [sm, h0]
  obtain ⟨W, hW⟩ : ∃ W, W = ((List.range n).map w).sum := ⟨_, rfl⟩
  rw [← hW] at wp
  have sm := wL_sum (n := n) (w := w)
  rw [← hW] at sm
  have c9 : compL [9] (γN 9) (mB (mOp oGt (mD (mOp oIx (mPk 8) (mPk 9))) (mD (mC (.int 0))))) (mD (mTup (mCons (mD (mVar 9)) (mCons (mD (mCall 2 f_u_law_low2 (mCons (mD (mOp oIx (mPk 8) (mPk 9))) (mCons (mD (mCl cSum (mCons (mPk 8) (mNil)))) (mNil))))) (mNil))))) (Iv.upTo 0 n) [] [.fr (.int i), .fr (nI mo), .fr (.lst (xs.map D.int)), .fr (nI n), .ow R, .fr (nI s), .ow M, s7, .ow (wL n w), .un] = .ok (((List.range n).filter fun t => decide (0 < w t)).map fun t => pD (toD (t, Rat.divInt (w t) W))) [.fr (.int i), .fr (nI mo), .fr (.lst (xs.map D.int)), .fr (nI n), .ow R, .fr (nI s), .ow M, s7, .ow (wL n w), .un] := by
    refine comp_if fun t ht => ?_
    have ix : atI (wL n w) (t : Int) = some (.int (w t)) := atR ht
    refine ⟨[.fr (.int i), .fr (nI mo), .fr (.lst (xs.map D.int)), .fr (nI n), .ow R, .fr (nI s), .ow M, s7, .ow (wL n w), .fr (.int (t : Int))], ?_, fun hp => ?_, fun _ => rfl⟩
    · generalize xs.map D.int = xl at *
      generalize wL n w = wl at *
      simp [ix]
    · have lo := low2_eq (n := w t) (d := W) (by omega)
      refine ⟨[.fr (.int i), .fr (nI mo), .fr (.lst (xs.map D.int)), .fr (nI n), .ow R, .fr (nI s), .ow M, s7, .ow (wL n w), .fr (.int (t : Int))], ?_, rfl⟩
      generalize xs.map D.int = xl at *
      generalize wL n w = wl at *
      simp [ix, sm, lo, pD, toD, nI]
  have rr : rowQ (rowW n w W) = .tup (((List.range n).filter fun t => decide (0 < w t)).map fun t => pD (toD (t, Rat.divInt (w t) W))) := by
    unfold rowQ rowD rowW
    rw [List.map_map, List.map_map]
    rfl
  refine ⟨rowW n w W, .ow (wL n w), rowW_ok hn9 w3 hW wp, ?_⟩
  rw [rr]
  have s1 : gmB [.fr (.int i), .fr (nI mo), .fr (.lst (xs.map D.int)), .fr (nI n), .ow R, .fr (nI s), .ow M, s7, s8, s9] = (mSeq (mIfS (mB (mOp oEq (mD (mCl cSum (mCons (mPk 8) (mNil)))) (mD (mC (.int 0))))) (mPut 8 (mD (mOp oMod (mD (mCl cInt (mCons (mD (mOp oAdd (mPk 5) (mD (mC (.int 1))))) (mNil)))) (mPk 3))) (mD (mC (.int 1)))) (mNx)) (mApp 6 (mD (mCl cTuple (mCons (mD (mLc [9] (γN 9) (mRng1 (mCons (mPk 3) (mNil))) (mB (mOp oGt (mD (mOp oIx (mPk 8) (mPk 9))) (mD (mC (.int 0))))) (mD (mTup (mCons (mD (mVar 9)) (mCons (mD (mCall 2 f_u_law_low2 (mCons (mD (mOp oIx (mPk 8) (mPk 9))) (mCons (mD (mCl cSum (mCons (mPk 8) (mNil)))) (mNil))))) (mNil))))))) (mNil)))))) [.fr (.int i), .fr (nI mo), .fr (.lst (xs.map D.int)), .fr (nI n), .ow R, .fr (nI s), .ow M, s7, .ow (wL n w0), .un] := by
    unfold gmB
    rw [mSeq_eq]
    have : mSet 8 (mLc [9] (γN 9) (mRng1 (mCons (mPk 3) (mNil))) (mYes) (mD (mOp oMod (mD (mCl cInt (mCons (mD (mOp oIx (mPk 2) (mD (mOp oAdd (mD (mOp oAdd (mD (mOp oAdd (mD (mC (.int 2))) (mPk 3))) (mD (mOp oMul (mPk 3) (mPk 5))))) (mPk 9))))) (mNil)))) (mD (mC (.int 4)))))) [.fr (.int i), .fr (nI mo), .fr (.lst (xs.map D.int)), .fr (nI n), .ow R, .fr (nI s), .ow M, s7, s8, s9] = .ok .nx [.fr (.int i), .fr (nI mo), .fr (.lst (xs.map D.int)), .fr (nI n), .ow R, .fr (nI s), .ow M, s7, .ow (wL n w0), .un] := by
      generalize xs.map D.int = xl at *
      generalize wL n w0 = wl at *
      unfold nI at *
      simp [hsm, h90, c8]
    rw [this]
  rw [s1, hw]
  generalize (((List.range n).filter fun t => decide (0 < w t)).map fun t => pD (toD (t, Rat.divInt (w t) W))) = rl at *
  generalize xs.map D.int = xl at *
  generalize wL n w = wl at *
  unfold nI at *
  simp [hsm, h90, c9, hM]
theorem game2_eq {i : Int} {B mo : Nat} (hi : i.natAbs < 2 ^ B) (hB : B ≤ 100000000) (h1 : 1 ≤ mo) (h9 : mo ≤ 8) : ∃ (n : Nat) (rs : List Rat) (rows : List (List (Nat × Rat))), n ≤ mo ∧ GOk n rs rows ∧ f_u_law_game2 [.int i, nI mo] = .ok (gamD rs rows) := by
  have mm8 : mo * mo ≤ 64 := by have := Nat.mul_le_mul h9 h9; omega
  obtain ⟨xs, hx, e⟩ := draws_eq (n := 2 + mo + mo * mo) hi hB (by omega)
  rw [Int.natCast_add, Int.natCast_add, Int.natCast_mul, Int.cast_ofNat_Int] at e
  have xl := hx.1
  have mmul : oMul (nI mo) (nI mo) = some (.d (.int ((mo : Int) * (mo : Int)))) := oMul_int (mulOk_of (a := 16) (b := 16) (by omega) (by omega) (by decide))
  have ad : oAdd (.int 2) (nI mo) = some (.d (.int (2 + (mo : Int)))) := rfl
  have i0 : atI (xs.map D.int) 0 = some (.int (gt xs 0)) := at_int (k := 0) (by omega)
  have mn : oMod (.int (gt xs 0)) (nI mo) = some (.d (.int ((gt xs 0).fmod mo))) := oMod_int (by omega)
  have fmo := fm (i := gt xs 0) (k := mo) (by omega)
  have b1 := Int.emod_nonneg (gt xs 0) (by omega : (mo : Int) ≠ 0)
  have b2 := Int.emod_lt_of_pos (gt xs 0) (by omega : 0 < (mo : Int))
  obtain ⟨n, hn⟩ := nat_of (i := 1 + (gt xs 0).fmod mo) (by omega)
  have hnm : 1 ≤ n ∧ n ≤ mo := by omega
  have hnn : n * n ≤ mo * mo := Nat.mul_le_mul hnm.2 hnm.2
  have hsm : small (n : Int) = true := small_nat (by omega)
  have k1 := for_inv (γ := γN 5) (g := gmA) (all := Iv.upTo 0 n) (env := [.fr (.int i), .fr (nI mo), .fr (.lst (xs.map D.int)), .fr (nI n), .ow [], .un, .un, .un, .un, .un])
    (fun k env => ∃ (rs : List Rat) (s5 s7 : Sl), rs.length = k ∧ (∀ q ∈ rs, Sz 110 q ∧ q.den ≤ 4) ∧ env = [.fr (.int i), .fr (nI mo), .fr (.lst (xs.map D.int)), .fr (nI n), .ow (rs.map enc), s5, .un, s7, .un, .un]) ⟨[], .un, .un, rfl, (fun _ z => nomatch z), rfl⟩ (by
      rintro k x env hx' ⟨rs, s5, s7, h1, h2, rfl⟩
      have hk : k < n := by
        have := (List.getElem?_eq_some_iff.mp hx').1
        rwa [upTo_len] at this
      rw [upN, List.getElem?_map, List.getElem?_range hk] at hx'
      cases hx'
      obtain ⟨q, q1, q2, e⟩ := gmA_eq (i := i) (mo := mo) (n := n) (s := k) (xs := xs) (R := rs.map enc) (by omega) (by omega) (by rw [List.length_map]; omega) (s6 := .un) (s7 := s7) (s8 := .un) (s9 := .un)
      refine ⟨_, _, rfl, e, rs ++ [q], .fr (nI k), .fr (enc q), by rw [List.length_append, h1]; rfl, fun y hy => ?_, by rw [List.map_append]; rfl⟩
      rcases List.mem_append.mp hy with z | z
      · exact h2 y z
      · rw [List.mem_singleton.mp z]; exact ⟨q1, q2⟩)
  obtain ⟨env', k1, rs, s5, s7, r1, r2, rfl⟩ := k1
  rw [upTo_len] at r1
  have k2 := for_inv (γ := γN 5) (g := gmB) (all := Iv.upTo 0 n) (env := [.fr (.int i), .fr (nI mo), .fr (.lst (xs.map D.int)), .fr (nI n), .ow (rs.map enc), s5, .ow [], s7, .un, .un])
    (fun k env => ∃ (rows : List (List (Nat × Rat))) (s5 s8 s9 : Sl), rows.length = k ∧ (∀ r ∈ rows, ROk n r) ∧ env = [.fr (.int i), .fr (nI mo), .fr (.lst (xs.map D.int)), .fr (nI n), .ow (rs.map enc), s5, .ow ((rowsD rows).map rowD), s7, s8, s9]) ⟨[], s5, .un, .un, rfl, (fun _ z => nomatch z), rfl⟩ (by
      rintro k x env hx' ⟨rows, s5, s8, s9, h1, h2, rfl⟩
      have hk : k < n := by
        have := (List.getElem?_eq_some_iff.mp hx').1
        rwa [upTo_len] at this
      rw [upN, List.getElem?_map, List.getElem?_range hk] at hx'
      cases hx'
      obtain ⟨r, t8, q1, e⟩ := gmB_eq (i := i) (mo := mo) (n := n) (s := k) (xs := xs) (R := rs.map enc) (M := (rowsD rows).map rowD) (by omega) (by omega) hk (by omega) (by unfold rowsD; rw [List.length_map, List.length_map]; omega) (s7 := s7) (s8 := s8) (s9 := s9)
      refine ⟨_, _, rfl, e, rows ++ [r], .fr (nI k), t8, .un, by rw [List.length_append, h1]; rfl, fun y hy => ?_, ?_⟩
      · rcases List.mem_append.mp hy with z | z
        · exact h2 y z
        · rw [List.mem_singleton.mp z]; exact q1
      · unfold rowsD
        rw [List.map_append, List.map_append]
        rfl)
  obtain ⟨env', k2, rows, t5, s8, s9, w1, w2, rfl⟩ := k2
  rw [upTo_len] at w1
  refine ⟨n, rs, rows, hnm.2, ⟨hnm.1, by omega, r1, w1, r2, w2⟩, ?_⟩
  unfold f_u_law_game2 gamD
  rw [game2_rfl]
  unfold nI at *
  generalize rs.map enc = rl at *
  generalize (rowsD rows).map rowD = ml at *
  generalize xs.map D.int = xd at *
  generalize gmA = ga at *
  generalize gmB = gb at *
  simp [ad, mmul, e, i0, mn, hn, hsm, k1, k2]
theorem set2_eq {x : Int} {n : Nat} (hn : n ≤ 1000) (h0 : 0 ≤ x) : ∃ S : List Nat, S.Pairwise (· < ·) ∧ (∀ s ∈ S, s < n) ∧ f_u_law_set2 [.int x, nI n] = .ok (.tup (S.map nI)) := by
  have hsm : small (n : Int) = true := small_nat (by omega)
  have h90 : (Iv.upTo 0 n).length ≤ 90000 := by rw [upTo_len]; omega
  have c : compL [2] (γN 2) (mB (mOp oEq (mD (mOp oMod (mD (mCl cInt (mCons (mD (mOp oShr (mPk 0) (mPk 2))) (mNil)))) (mD (mC (.int 2))))) (mD (mC (.int 1))))) (mD (mVar 2)) (Iv.upTo 0 n) [] [.fr (.int x), .fr (nI n), .un] = .ok (((List.range n).filter fun k => ((x / 2 ^ k).fmod 2 == 1)).map nI) [.fr (.int x), .fr (nI n), .un] := by
    refine comp_if fun k hk => ?_
    have sh : oShr (.int x) (.int (k : Int)) = some (.d (.int (x / 2 ^ k))) := by
      unfold oShr oI
      dsimp only
      rw [if_pos (by simp)]
      rfl
    have m2 : oMod (.int (x / 2 ^ k)) (.int 2) = _ := oMod_int (by decide)
    exact ⟨[.fr (.int x), .fr (nI n), .fr (.int (k : Int))], by simp [sh, m2], fun _ => ⟨[.fr (.int x), .fr (nI n), .fr (.int (k : Int))], rfl, rfl⟩, fun _ => rfl⟩
  refine ⟨(List.range n).filter fun k => ((x / 2 ^ k).fmod 2 == 1), List.pairwise_lt_range.filter _, fun s hs => List.mem_range.mp (List.mem_filter.mp hs).1, ?_⟩
  unfold nI at c ⊢
  simp only [f_u_law_set2, g_u_law_set2, runF_eq, stE_eq]
  generalize (((List.range n).filter fun k => ((x / 2 ^ k).fmod 2 == 1)).map fun x : Nat => D.int (x : Int)) = sl at *
  simp [hsm, h90, c]
end Law

set_option Elab.async false
set_option linter.all false
set_option maxRecDepth 100000
set_option maxHeartbeats 4000000
/-! Positions in a list, dicts made of them. -/
namespace Law
open PySem PySem.Spec PyProof.Rows L2 Evl Iv
/-! ### positions -/
def pos : List Nat → Nat → Nat
  | [], _ => 0
  | y :: l, x => if y = x then 0 else pos l x + 1
theorem pos_lt : ∀ {l : List Nat} {x : Nat}, x ∈ l → pos l x < l.length
  | y :: l, x, h => by
    unfold pos
    by_cases e : y = x
    · rw [if_pos e, List.length_cons]; omega
    · rw [if_neg e, List.length_cons]
      have := pos_lt (l := l) (x := x) (by
        rcases List.mem_cons.mp h with z | z
        · exact absurd z.symm e
        · exact z)
      omega
theorem get_pos : ∀ {l : List Nat} {x : Nat}, x ∈ l → l[pos l x]? = some x
  | y :: l, x, h => by
    unfold pos
    by_cases e : y = x
    · rw [if_pos e, e]; rfl
    · rw [if_neg e, List.getElem?_cons_succ]
      exact get_pos (by
        rcases List.mem_cons.mp h with z | z
        · exact absurd z.symm e
        · exact z)
theorem pos_get : ∀ {l : List Nat} {i x : Nat}, l.Nodup → l[i]? = some x → pos l x = i
  | [], _, _, _, h => by cases h
  | y :: l, i, x, nd, h => by
    unfold pos
    rw [List.nodup_cons] at nd
    cases i with
    | zero =>
      have e : y = x := Option.some.inj h
      rw [if_pos e]
    | succ i =>
      rw [List.getElem?_cons_succ] at h
      have hm := List.mem_of_getElem? h
      rw [if_neg (fun e => nd.1 (by rw [e]; exact hm)), pos_get nd.2 h]
theorem look_pos : ∀ {l : List Nat} {x : Nat} {ds : List D}, ds.length = l.length → x ∈ l → lookD (l.map kI) ds (kI x) = ds[pos l x]?
  | y :: l, x, [], hl, _ => by cases hl
  | y :: l, x, d :: ds, hl, h => by
    show (if kI y = kI x then some d else lookD (l.map kI) ds (kI x)) = _
    unfold pos
    by_cases e : y = x
    · rw [if_pos (congrArg kI e), if_pos e]; rfl
    · have : ¬ kI y = kI x := fun z => by
        have := Sum.inl.inj z
        omega
      rw [if_neg this, if_neg e, List.getElem?_cons_succ]
      exact look_pos (by simpa using hl) (by
        rcases List.mem_cons.mp h with z | z
        · exact absurd z.symm e
        · exact z)
theorem compD_app {vs : List Nat} {γ : D → En → Option En} {fk fv : M D} {env : En} {key : D → Key} {val : D → D} : ∀ {items : List D} {ks : List Key} {ds : List D},
    (∀ x ∈ items, ∃ e1 dk e2 e3, γ x env = some e1 ∧ fk e1 = .ok dk e2 ∧ keyD dk = some (key x) ∧ fv e2 = .ok (val x) e3 ∧ wipeE e3 vs = env) → (ks ++ items.map key).Nodup → compD vs γ mYes fk fv items ks ds env = .ok (ks ++ items.map key, ds ++ items.map val) env
  | [], ks, ds, _, _ => by unfold compD; simp
  | x :: items, ks, ds, h, nd => by
    obtain ⟨e1, dk, e2, e3, h1, h2, h3, h4, h5⟩ := h x List.mem_cons_self
    have nd' := nd
    rw [List.map_cons] at nd
    have nk : ∀ k' ∈ ks, k' ≠ key x := fun k' hk => (List.nodup_append.mp nd).2.2 k' hk (key x) List.mem_cons_self
    have pd : putD (key x) (val x) ks ds = (ks ++ [key x], ds ++ [val x]) := by
      unfold putD
      rw [any_none nk]
      rfl
    unfold compD
    rw [h1]
    dsimp only [mYes]
    rw [h2]
    dsimp only
    rw [h4]
    dsimp only
    rw [h3]
    dsimp only
    rw [pd, h5]
    dsimp only
    rw [compD_app (fun y hy => h y (List.mem_cons_of_mem _ hy)) (by rw [List.append_assoc]; exact nd)]
    rw [List.append_assoc, List.append_assoc]
    rfl
/-- the first step may freeze what it reads -/
theorem compL_map1 {α : Type} {enc : α → D} {vs : List Nat} {γ : D → En → Option En} {cond : M Bool} {elt : M D} {env0 env : En} {h : α → D} {xs : List α} (hne : xs ≠ []) (H : ∀ x ∈ xs, ∀ e, e = env0 ∨ e = env → ∃ e1 e2 e3, γ (enc x) e = some e1 ∧ cond e1 = .ok true e2 ∧ elt e2 = .ok (h x) e3 ∧ wipeE e3 vs = env) {acc : List D} :
    compL vs γ cond elt (xs.map enc) acc env0 = .ok (acc ++ xs.map h) env := by
  match xs, hne with
  | x :: xs, _ =>
    obtain ⟨e1, e2, e3, h1, h2, h3, h4⟩ := H x List.mem_cons_self env0 (.inl rfl)
    rw [List.map_cons]
    unfold compL
    rw [h1]
    dsimp only
    rw [h2]
    dsimp only
    rw [h3]
    dsimp only
    rw [h4, compL_map fun y hy => H y (List.mem_cons_of_mem _ hy) env (.inr rfl)]
    rw [List.map_cons, List.append_assoc]
    rfl
def nums (n : Nat) : List D := (List.range n).map nI
end Law

set_option Elab.async false
set_option linter.all false
set_option maxRecDepth 100000
set_option maxHeartbeats 4000000
/-! What is earned until a game leaves a set of states. -/
namespace Law
open PySem PySem.Spec PyProof.Rows L2 Evl Iv
noncomputable def g_equation_row : M Fl :=
    mSeq (mSet 4 (mOp oRep (mD (mLst (mCons (mD (mTup (mCons (mD (mC (.int 0))) (mCons (mD (mC (.int 1))) (mNil))))) (mNil)))) (mD (mCl cLenK (mCons (mPk 1) (mNil))))))
    (mSeq (mPut 4 (mPk 2) (mD (mTup (mCons (mD (mC (.int 1))) (mCons (mD (mC (.int 1))) (mNil))))))
    (mSeq (mFor (γT 2 (γCons (γN 5) (γCons (γN 6) (γNil)))) (mIt (mD (mVar 0))) (mIfS (mB (mOp (oInK false) (mPk 5) (mPk 1))) (mSeq (mSet 7 (mOp oGetK (mPk 1) (mPk 5)))
    (mPut 4 (mPk 7) (mD (mCall 2 f_subtract (mCons (mD (mOp oIx (mPk 4) (mPk 7))) (mCons (mD (mCall 2 f_multiply (mCons (mD (mVar 3)) (mCons (mD (mVar 6)) (mNil))))) (mNil))))))) (mNx)))
    (mRet (mD (mCl cTuple (mCons (mPk 4) (mNil)))))))
noncomputable def f_equation_row : List D → FR := runF 8 g_equation_row
noncomputable def g_leaving_weight : M Fl :=
    mSeq (mSet 3 (mTup (mCons (mD (mC (.int 0))) (mCons (mD (mC (.int 1))) (mNil)))))
    (mSeq (mFor (γT 2 (γCons (γN 4) (γCons (γN 5) (γNil)))) (mIt (mD (mVar 0))) (mIfS (mB (mOp (oInK true) (mPk 4) (mPk 1))) (mSet 3 (mCall 2 f_add (mCons (mD (mVar 3)) (mCons (mD (mVar 5)) (mNil))))) (mNx)))
    (mRet (mD (mCall 2 f_multiply (mCons (mD (mVar 2)) (mCons (mD (mVar 3)) (mNil)))))))
noncomputable def f_leaving_weight : List D → FR := runF 6 g_leaving_weight
noncomputable def g_leave_values : M Fl :=
    mSeq (mAsg (γT 2 (γCons (γN 6) (γCons (γN 7) (γNil)))) (mD (mVar 0)))
    (mSeq (mSet 3 (mDc [10] (γN 10) (mRng1 (mCons (mD (mCl cLen (mCons (mPk 1) (mNil)))) (mNil))) (mYes) (mD (mOp oIx (mPk 1) (mPk 10))) (mD (mVar 10))))
    (mSeq (mSet 4 (mCl cTuple (mCons (mD (mLc [11] (γN 11) (mIt (mD (mVar 1))) (mYes) (mD (mCall 4 f_equation_row (mCons (mD (mOp oIx (mPk 7) (mPk 11))) (mCons (mD (mVar 3)) (mCons (mD (mOp oGetK (mPk 3) (mPk 11))) (mCons (mD (mVar 2)) (mNil))))))))) (mNil))))
    (mSeq (mSet 5 (mCl cTuple (mCons (mD (mLc [11] (γN 11) (mIt (mD (mVar 1))) (mYes) (mD (mTup (mCons (mD (mOp oIx (mPk 6) (mPk 11))) (mCons (mD (mCall 3 f_leaving_weight (mCons (mD (mOp oIx (mPk 7) (mPk 11))) (mCons (mD (mVar 3)) (mCons (mD (mVar 2)) (mNil)))))) (mNil))))))) (mNil))))
    (mSeq (mAsg (γT 2 (γCons (γN 8) (γCons (γN 9) (γNil)))) (mD (mCall 2 f_solve (mCons (mD (mVar 4)) (mCons (mD (mVar 5)) (mNil))))))
    (mRet (mD (mVar 9)))))))
noncomputable def f_leave_values : List D → FR := runF 12 g_leave_values
noncomputable def g_u_law_step2 : M Fl :=
    mSeq (mSet 5 (mTup (mCons (mD (mC (.int 0))) (mCons (mD (mC (.int 1))) (mNil)))))
    (mSeq (mSet 6 (mTup (mCons (mD (mC (.int 0))) (mCons (mD (mC (.int 1))) (mNil)))))
    (mSeq (mFor (γN 7) (mIt (mD (mOp oIx (mD (mOp oIx (mPk 0) (mD (mC (.int 1))))) (mPk 1)))) (mSeq (mSet 8 (mTup (mCons (mD (mTup (mCons (mD (mC (.int 0))) (mCons (mD (mC (.int 1))) (mNil))))) (mCons (mD (mTup (mCons (mD (mC (.int 1))) (mCons (mD (mC (.int 1))) (mNil))))) (mNil)))))
    (mSeq (mFor (γN 9) (mRng1 (mCons (mD (mCl cLen (mCons (mPk 2) (mNil)))) (mNil))) (mIfS (mB (mOp (oEqA false) (mD (mOp oIx (mPk 2) (mPk 9))) (mD (mOp oIx (mPk 7) (mD (mC (.int 0))))))) (mSet 8 (mOp oIx (mPk 3) (mPk 9))) (mNx)))
    (mSeq (mSet 5 (mCall 2 f_u_law_add2 (mCons (mD (mVar 5)) (mCons (mD (mCall 2 f_u_law_mul2 (mCons (mD (mOp oIx (mPk 7) (mD (mC (.int 1))))) (mCons (mD (mOp oIx (mPk 8) (mD (mC (.int 0))))) (mNil))))) (mNil)))))
    (mSet 6 (mCall 2 f_u_law_add2 (mCons (mD (mVar 6)) (mCons (mD (mCall 2 f_u_law_mul2 (mCons (mD (mOp oIx (mPk 7) (mD (mC (.int 1))))) (mCons (mD (mOp oIx (mPk 8) (mD (mC (.int 1))))) (mNil))))) (mNil)))))))))
    (mRet (mD (mTup (mCons (mD (mCall 2 f_u_law_add2 (mCons (mD (mOp oIx (mD (mOp oIx (mPk 0) (mD (mC (.int 0))))) (mPk 1))) (mCons (mD (mCall 2 f_u_law_mul2 (mCons (mD (mVar 4)) (mCons (mD (mVar 5)) (mNil))))) (mNil))))) (mCons (mD (mCall 2 f_u_law_mul2 (mCons (mD (mVar 4)) (mCons (mD (mVar 6)) (mNil))))) (mNil))))))))
noncomputable def f_u_law_step2 : List D → FR := runF 10 g_u_law_step2
noncomputable def g_u_law_leaves2 : M Fl :=
    mSeq (mIfS (mOrB (mNotB (mB (mCl cIsi (mCons (mPk 3) (mCons (mD (mC (.ty "tuple"))) (mNil)))))) (mB (mOp oNe (mD (mCl cLen (mCons (mPk 3) (mNil)))) (mD (mCl cLen (mCons (mPk 1) (mNil))))))) (mRet (mD (mC (.bl false)))) (mNx))
    (mSeq (mFor (γN 4) (mIt (mD (mVar 3))) (mIfS (mNotB (mB (mCall 2 f_u_law_ratios2 (mCons (mD (mVar 4)) (mCons (mD (mC (.int 2))) (mNil)))))) (mRet (mD (mC (.bl false)))) (mNx)))
    (mSeq (mFor (γN 5) (mRng1 (mCons (mD (mCl cLen (mCons (mPk 1) (mNil)))) (mNil))) (mIfS (mB (mOp (oEqA true) (mD (mOp oIx (mPk 3) (mPk 5))) (mD (mCall 5 f_u_law_step2 (mCons (mD (mVar 0)) (mCons (mD (mOp oIx (mPk 1) (mPk 5))) (mCons (mD (mVar 1)) (mCons (mD (mVar 3)) (mCons (mD (mVar 2)) (mNil)))))))))) (mRet (mD (mC (.bl false)))) (mNx)))
    (mRet (mD (mC (.bl true))))))
noncomputable def f_u_law_leaves2 : List D → FR := runF 6 g_u_law_leaves2
open Dt
/-! ### expectations -/
def exS (r : List (Nat × Rat)) (g : Nat → Rat) : Rat := r.foldr (fun p a => p.2 * g p.1 + a) 0
theorem exS_app {g : Nat → Rat} {p : Nat × Rat} : ∀ r : List (Nat × Rat), exS (r ++ [p]) g = exS r g + p.2 * g p.1
  | [] => by show p.2 * g p.1 + 0 = 0 + p.2 * g p.1; grind
  | q :: r => by
    show q.2 * g q.1 + exS (r ++ [p]) g = q.2 * g q.1 + exS r g + p.2 * g p.1
    rw [exS_app r]
    grind
theorem exS_congr {g h : Nat → Rat} : ∀ {r : List (Nat × Rat)}, (∀ p ∈ r, g p.1 = h p.1) → exS r g = exS r h
  | [], _ => rfl
  | q :: r, e => by
    show q.2 * g q.1 + exS r g = q.2 * h q.1 + exS r h
    rw [e q List.mem_cons_self, exS_congr fun p hp => e p (List.mem_cons_of_mem _ hp)]
theorem exS_add {g h : Nat → Rat} : ∀ {r : List (Nat × Rat)}, exS r g + exS r h = exS r fun t => g t + h t
  | [] => by show (0 : Rat) + 0 = 0; grind
  | q :: r => by
    show q.2 * g q.1 + exS r g + (q.2 * h q.1 + exS r h) = q.2 * (g q.1 + h q.1) + exS r fun t => g t + h t
    rw [← exS_add (r := r)]
    grind
theorem exS_le {g h : Nat → Rat} : ∀ {r : List (Nat × Rat)}, (∀ p ∈ r, 0 < p.2) → (∀ p ∈ r, g p.1 ≤ h p.1) → exS r g ≤ exS r h
  | [], _, _ => Rat.le_refl
  | q :: r, hp, hg => by
    have h1 := exS_le (r := r) (fun p hp' => hp p (List.mem_cons_of_mem _ hp')) fun p hp' => hg p (List.mem_cons_of_mem _ hp')
    have h2 := Rat.mul_le_mul_of_nonneg_left (hg q List.mem_cons_self) (Rat.le_of_lt (hp q List.mem_cons_self))
    show q.2 * g q.1 + exS r g ≤ q.2 * h q.1 + exS r h
    grind
theorem exS_const {c : Rat} : ∀ {r : List (Nat × Rat)}, exS r (fun _ => c) = sumP r * c
  | [] => by show (0 : Rat) = 0 * c; grind
  | q :: r => by
    show q.2 * c + exS r (fun _ => c) = (q.2 + sumP r) * c
    rw [exS_const]
    grind
/-- the probability of a move to t -/
def prT (r : List (Nat × Rat)) (t : Nat) : Rat := exS r fun u => if u = t then 1 else 0
theorem sumN_add {f g : Nat → Rat} : ∀ {n : Nat}, sumN n (fun l => f l + g l) = sumN n f + sumN n g
  | 0 => by unfold sumN; grind
  | n + 1 => by
    unfold sumN
    rw [sumN_add]
    grind
theorem getD_pos {S : List Nat} {t : Nat} (h : t ∈ S) : S.getD (pos S t) 0 = t := by
  rw [List.getD_eq_getElem?_getD, get_pos h]
  rfl
theorem asc_nd {S : List Nat} (h : S.Pairwise (· < ·)) : S.Nodup := h.imp fun h => Nat.ne_of_lt h
theorem getD_mem {S : List Nat} {l : Nat} (h : l < S.length) : S.getD l 0 ∈ S := by
  rw [List.getD_eq_getElem?_getD, List.getElem?_eq_getElem h]
  exact List.getElem_mem h
theorem pos_getD {S : List Nat} (nd : S.Nodup) {l : Nat} (h : l < S.length) : pos S (S.getD l 0) = l := by
  refine pos_get nd ?_
  rw [List.getD_eq_getElem?_getD, List.getElem?_eq_getElem h]
  rfl
/-- the sum over the set, and the sum over the row -/
theorem ex_sum {S : List Nat} (nd : S.Nodup) {y : Nat → Rat} : ∀ r : List (Nat × Rat), sumN S.length (fun l => prT r (S.getD l 0) * y l) = exS r fun t => if t ∈ S then y (pos S t) else 0
  | [] => sumN_zero fun l _ => by show (0 : Rat) * y l = 0; grind
  | q :: r => by
    have e : ∀ l, l < S.length → prT (q :: r) (S.getD l 0) * y l = q.2 * ((if q.1 = S.getD l 0 then 1 else 0) * y l) + prT r (S.getD l 0) * y l := fun l _ => by
      show (q.2 * (if q.1 = S.getD l 0 then 1 else 0) + prT r (S.getD l 0)) * y l = _
      grind
    rw [sumN_congr e, sumN_add, ex_sum nd r, sumN_mul]
    show _ = q.2 * (if q.1 ∈ S then y (pos S q.1) else 0) + exS r fun t => if t ∈ S then y (pos S t) else 0
    congr 2
    by_cases hq : q.1 ∈ S
    · rw [if_pos hq, sumN_one (i := pos S q.1) (pos_lt hq) fun l hl hne => by
        have : ¬ q.1 = S.getD l 0 := fun z => hne (by rw [z, pos_getD nd hl])
        rw [if_neg this, Rat.zero_mul], getD_pos hq, if_pos rfl, Rat.one_mul]
    · rw [if_neg hq]
      exact sumN_zero fun l hl => by
        have : ¬ q.1 = S.getD l 0 := fun z => hq (by rw [z]; exact getD_mem hl)
        rw [if_neg this, Rat.zero_mul]
/-! ### the equations have one solution -/
def dl (i l : Nat) : Rat := if i = l then 1 else 0
def eqR (S : List Nat) (b : Rat) (row : List (Nat × Rat)) (own : Nat) : List Rat := (List.range S.length).map fun l => dl own l - b * prT row (S.getD l 0)
def eqA (S : List Nat) (b : Rat) (rows : List (List (Nat × Rat))) : List (List Rat) := S.map fun s => eqR S b (rows.getD s []) (pos S s)
def outP (S : List Nat) (row : List (Nat × Rat)) : Rat := exS row fun t => if t ∈ S then 0 else 1
def eqB (S : List Nat) (b : Rat) (rs : List Rat) (rows : List (List (Nat × Rat))) : List (List Rat) := S.map fun s => [rs.getD s 0, b * outP S (rows.getD s [])]
theorem ent_eqA {S : List Nat} (nd : S.Nodup) {b : Rat} {rows : List (List (Nat × Rat))} {i l : Nat} (hi : i < S.length) (hl : l < S.length) : ent (eqA S b rows) i l = dl i l - b * prT (rows.getD (S.getD i 0) []) (S.getD l 0) := by
  unfold ent eqA
  have hg : S[i]? = some (S.getD i 0) := by rw [List.getD_eq_getElem?_getD, List.getElem?_eq_getElem hi]; rfl
  rw [List.getD_eq_getElem?_getD (l := S.map _), List.getElem?_map, hg]
  show (eqR S b (rows.getD (S.getD i 0) []) (pos S (S.getD i 0))).getD l 0 = _
  rw [pos_getD nd hi]
  unfold eqR
  rw [List.getD_eq_getElem?_getD, List.getElem?_map, List.getElem?_range hl]
  rfl
theorem sum_dl {n i : Nat} {y : Nat → Rat} (hi : i < n) : sumN n (fun l => dl i l * y l) = y i := by
  rw [sumN_one hi fun l hl hne => by unfold dl; rw [if_neg (fun z => hne z.symm), Rat.zero_mul]]
  unfold dl
  rw [if_pos rfl, Rat.one_mul]
/-- a row of the equations, told by the expectation -/
theorem row_tell {S : List Nat} (nd : S.Nodup) {b : Rat} {rows : List (List (Nat × Rat))} {i : Nat} {y : Nat → Rat} (hi : i < S.length) : sumN S.length (fun l => ent (eqA S b rows) i l * y l) = y i - b * exS (rows.getD (S.getD i 0) []) fun t => if t ∈ S then y (pos S t) else 0 := by
  have e : ∀ l, l < S.length → ent (eqA S b rows) i l * y l = dl i l * y l + (-b) * (prT (rows.getD (S.getD i 0) []) (S.getD l 0) * y l) := fun l hl => by
    rw [ent_eqA nd hi hl]
    grind
  rw [sumN_congr e, sumN_add, sum_dl hi, sumN_mul, ex_sum nd]
  grind
theorem arg_max {y : Nat → Rat} : ∀ n, 0 < n → ∃ i, i < n ∧ ∀ l, l < n → y l ≤ y i
  | 1, _ => ⟨0, by decide, fun l hl => by
    obtain rfl : l = 0 := by omega
    exact Rat.le_refl⟩
  | n + 2, _ => by
    obtain ⟨i, hi, h⟩ := arg_max (y := y) (n + 1) (by omega)
    by_cases hc : y i ≤ y (n + 1)
    · exact ⟨n + 1, by omega, fun l hl => by
        by_cases e : l = n + 1
        · rw [e]; exact Rat.le_refl
        · exact Rat.le_trans (h l (by omega)) hc⟩
    · exact ⟨i, by omega, fun l hl => by
        by_cases e : l = n + 1
        · rw [e]; exact (Rat.le_total ..).resolve_right fun z => hc z
        · exact h l (by omega)⟩
theorem GOk.at_ {n s : Nat} {rs : List Rat} {rows : List (List (Nat × Rat))} (g : GOk n rs rows) (h : s < n) : ROk n (rows.getD s []) := by
  have hl : s < rows.length := by rw [g.lr]; exact h
  rw [List.getD_eq_getElem?_getD, List.getElem?_eq_getElem hl]
  exact g.row _ (List.getElem_mem hl)
theorem reg_half {S : List Nat} (nd : S.Nodup) {b : Rat} {n : Nat} {rs : List Rat} {rows : List (List (Nat × Rat))} (g : GOk n rs rows) (hS : ∀ s ∈ S, s < n) (b0 : 0 ≤ b) (b1 : b < 1) {z : Nat → Rat} (hz : ∀ i, i < S.length → sumN S.length (fun l => ent (eqA S b rows) i l * z l) = 0) : ∀ l, l < S.length → z l ≤ 0 := fun l hl => by
  obtain ⟨i, hi, hm⟩ := arg_max (y := z) S.length (by omega)
  refine Rat.le_trans (hm l hl) ?_
  by_cases hp : z i ≤ 0
  · exact hp
  · exfalso
    have hp : 0 < z i := Rat.not_le.mp hp
    have e := hz i hi
    rw [row_tell nd hi] at e
    have hs := hS _ (getD_mem hi)
    have hr := g.at_ hs
    generalize rows.getD (S.getD i 0) [] = row at *
    have h1 : exS row (fun t => if t ∈ S then z (pos S t) else 0) ≤ exS row fun _ => z i := exS_le hr.pos fun p _ => by
      by_cases hq : p.1 ∈ S
      · rw [if_pos hq]; exact hm _ (pos_lt hq)
      · rw [if_neg hq]; exact Rat.le_of_lt hp
    rw [exS_const, hr.one, Rat.one_mul] at h1
    have h2 := Rat.mul_le_mul_of_nonneg_left h1 b0
    have h3 : b * z i < 1 * z i := Rat.mul_lt_mul_of_pos_right b1 hp
    generalize exS row (fun t => if t ∈ S then z (pos S t) else 0) = ee at *
    have : z i = b * ee := by grind
    rw [Rat.one_mul] at h3
    rw [← this] at h2
    exact absurd h3 (Rat.not_lt.mpr h2)
theorem sumN_neg {f : Nat → Rat} {n : Nat} : sumN n (fun l => -(f l)) = -(sumN n f) := by
  have := sumN_mul (a := -1) (f := f) (n := n)
  rw [sumN_congr (g := fun l => -1 * f l) fun l _ => by grind, this]
  grind
theorem reg_eqA {S : List Nat} (nd : S.Nodup) {b : Rat} {n : Nat} {rs : List Rat} {rows : List (List (Nat × Rat))} (g : GOk n rs rows) (hS : ∀ s ∈ S, s < n) (b0 : 0 ≤ b) (b1 : b < 1) : Reg S.length (eqA S b rows) := fun z hz l hl => by
  have h1 := reg_half nd g hS b0 b1 hz l hl
  have h2 := reg_half nd g hS b0 b1 (z := fun l => -(z l)) (fun i hi => by
    have := hz i hi
    rw [sumN_congr (g := fun l => -(ent (eqA S b rows) i l * z l)) fun l _ => by grind, sumN_neg, this]
    grind) l hl
  have h2 : -(z l) ≤ 0 := h2
  exact Rat.le_antisymm h1 (by grind)
end Law
namespace Law
open PySem PySem.Spec PyProof.Rows L2 Evl Iv
open Dt
theorem prT_none {r : List (Nat × Rat)} {t : Nat} (h : ∀ p ∈ r, p.1 ≠ t) : prT r t = 0 := by
  unfold prT
  rw [exS_congr (h := fun _ => 0) fun p hp => if_neg (h p hp), exS_const, Rat.mul_zero]
theorem prT_one {r : List (Nat × Rat)} {q : Nat × Rat} (asc : r.Pairwise fun a b => a.1 < b.1) (h : q ∈ r) : prT r q.1 = q.2 := by
  induction r with
  | nil => cases h
  | cons p r ih =>
    rw [List.pairwise_cons] at asc
    show p.2 * (if p.1 = q.1 then 1 else 0) + prT r q.1 = q.2
    rcases List.mem_cons.mp h with z | z
    · rw [z, if_pos rfl, prT_none fun x hx => Nat.ne_of_gt (asc.1 x hx), Rat.mul_one]
      grind
    · rw [if_neg (Nat.ne_of_lt (asc.1 q z)), ih asc.2 z]
      grind
theorem prT_cases {n : Nat} {r : List (Nat × Rat)} (h : ROk n r) (t : Nat) : prT r t = 0 ∨ ∃ q ∈ r, prT r t = q.2 := by
  by_cases e : ∃ q ∈ r, q.1 = t
  · obtain ⟨q, hq, rfl⟩ := e
    exact .inr ⟨q, hq, prT_one h.asc hq⟩
  · exact .inl (prT_none fun p hp z => e ⟨p, hp, z⟩)
theorem dl_sz {i l : Nat} : Sz 1 (dl i l) := by
  unfold dl
  by_cases h : i = l
  · rw [if_pos h]; exact sz_one
  · rw [if_neg h]; exact sz_zero
theorem dl_dv {i l N : Nat} : Dv N (dl i l) := by
  unfold dl
  by_cases h : i = l
  · rw [if_pos h]; exact Dv.int N 1
  · rw [if_neg h]; exact Dv.int N 0
theorem exS_sz {r : List (Nat × Rat)} {g : Nat → Rat} {b : Nat} (h : ∀ p ∈ r, Sz b (p.2 * g p.1)) : Sz ((b + 1) * r.length + 1) (exS r g) := by
  induction r with
  | nil => exact sz_zero
  | cons p r ih =>
    have h1 := (h p List.mem_cons_self).add (ih fun q hq => h q (List.mem_cons_of_mem _ hq))
    refine h1.mono ?_
    rw [List.length_cons, Nat.mul_succ]
    omega
theorem exS_dv {r : List (Nat × Rat)} {g : Nat → Rat} {N : Nat} (h : ∀ p ∈ r, Dv N (p.2 * g p.1)) : Dv N (exS r g) := by
  induction r with
  | nil => exact Dv.int N 0
  | cons p r ih => exact (h p List.mem_cons_self).add (ih fun q hq => h q (List.mem_cons_of_mem _ hq))
theorem outP_sz {S : List Nat} {n : Nat} {r : List (Nat × Rat)} (h : ROk n r) : Sz (10 * r.length + 1) (outP S r) := exS_sz (b := 9) fun p hp => by
  by_cases e : p.1 ∈ S
  · rw [if_pos e, Rat.mul_zero]; exact sz_zero.mono (by decide)
  · rw [if_neg e, Rat.mul_one]; exact (h.sz p hp).mono (by decide)
theorem outP_dv {S : List Nat} {W : Nat} {r : List (Nat × Rat)} (h : ∀ p ∈ r, Dv W p.2) : Dv W (outP S r) := exS_dv fun p hp => by
  by_cases e : p.1 ∈ S
  · rw [if_pos e, Rat.mul_zero]; exact Dv.int W 0
  · rw [if_neg e, Rat.mul_one]; exact h p hp
/-- a discount -/
structure BOk (b : Rat) : Prop where
  h0 : 0 ≤ b
  h1 : b < 1
  sz : Sz 4 b
  dn : b.den ≤ 10
theorem sys_leave {S : List Nat} (asc : S.Pairwise (· < ·)) {b : Rat} {n : Nat} {rs : List Rat} {rows : List (List (Nat × Rat))} (g : GOk n rs rows) (hS : ∀ s ∈ S, s < n) (hb : BOk b) : Sys S.length 2 300 (eqA S b rows) (eqB S b rs rows) := by
  have Sl : S.length ≤ n := by
    have := (asc_nd asc).length_le_of_subset (l₂ := List.range n) fun x hx => List.mem_range.mpr (hS x hx)
    rwa [List.length_range] at this
  have n9 := g.n9
  have rowA : ∀ i, i < S.length → ∃ s, S[i]? = some s ∧ s < n ∧ (eqA S b rows).getD i [] = eqR S b (rows.getD s []) (pos S s) ∧ (eqB S b rs rows).getD i [] = [rs.getD s 0, b * outP S (rows.getD s [])] := fun i hi => by
    have hg : S[i]? = some S[i] := List.getElem?_eq_getElem hi
    refine ⟨S[i], hg, hS _ (List.getElem_mem hi), ?_, ?_⟩
    · unfold eqA
      rw [List.getD_eq_getElem?_getD, List.getElem?_map, hg]
      rfl
    · unfold eqB
      rw [List.getD_eq_getElem?_getD, List.getElem?_map, hg]
      rfl
  have rsz : ∀ s, s < n → Sz 110 (rs.getD s 0) ∧ (rs.getD s 0).den ≤ 4 := fun s hs => by
    rw [List.getD_eq_getElem?_getD, List.getElem?_eq_getElem (by rw [g.ls]; exact hs)]
    exact g.rew _ (List.getElem_mem _)
  refine ⟨List.length_map .., List.length_map .., fun r hr => ?_, fun r hr => ?_, fun i hi q hq => ?_, fun i hi => ?_, by omega, by decide, ?_, by decide⟩
  · obtain ⟨s, _, rfl⟩ := List.mem_map.mp hr
    unfold eqR
    rw [List.length_map, List.length_range]
  · obtain ⟨s, _, rfl⟩ := List.mem_map.mp hr
    rfl
  · obtain ⟨s, _, hs, e1, e2⟩ := rowA i hi
    have hr := g.at_ hs
    rw [e1, e2] at hq
    rcases List.mem_append.mp hq with z | z
    · obtain ⟨l, _, rfl⟩ := List.mem_map.mp z
      have h1 : Sz 12 (b * prT (rows.getD s []) (S.getD l 0)) := by
        rcases prT_cases hr (S.getD l 0) with e | ⟨p, hp, e⟩
        · rw [e, Rat.mul_zero]; exact sz_zero.mono (by decide)
        · rw [e]; exact hb.sz.mul (hr.sz p hp)
      exact (dl_sz.sub h1).mono (by decide)
    · rcases List.mem_cons.mp z with z | z
      · rw [z]; exact (rsz s hs).1.mono (by decide)
      · rw [List.mem_singleton.mp z]
        have := hr.len
        exact (hb.sz.mul (outP_sz hr)).mono (by omega)
  · obtain ⟨s, _, hs, e1, e2⟩ := rowA i hi
    have hr := g.at_ hs
    obtain ⟨W, W1, W2, hW⟩ := hr.dv
    have bd := Dv.self b
    have bp := b.den_pos
    have rd := Dv.self (rs.getD s 0)
    have rp := (rs.getD s 0).den_pos
    have rl := (rsz s hs).2
    have bl := hb.dn
    have N1 : b.den * W * (rs.getD s 0).den ≤ 10 * 100 * 4 := Nat.mul_le_mul (Nat.mul_le_mul bl W2) rl
    have N0 : 0 < b.den * W * (rs.getD s 0).den := Nat.mul_pos (Nat.mul_pos bp W1) rp
    refine lcmQ_lt (N := b.den * W * (rs.getD s 0).den) (fun q hq => ?_) N0 (by omega)
    rw [e1, e2] at hq
    rcases List.mem_append.mp hq with z | z
    · obtain ⟨l, _, rfl⟩ := List.mem_map.mp z
      refine Dv.times _ (dl_dv.sub ?_)
      rcases prT_cases hr (S.getD l 0) with e | ⟨p, hp, e⟩
      · rw [e, Rat.mul_zero]; exact Dv.int _ 0
      · rw [e]; exact bd.mul (hW p hp)
    · rcases List.mem_cons.mp z with z | z
      · rw [z, Nat.mul_comm]; exact Dv.times _ rd
      · rw [List.mem_singleton.mp z]
        exact Dv.times _ (bd.mul (outP_dv hW))
  · have : (300 + 70) * S.length ≤ 370 * 24 := Nat.mul_le_mul_left _ (by omega)
    omega
/-! ### the rows of the equations -/
theorem rep_one {d : D} : ∀ n : Nat, (List.replicate n [d]).flatten = (List.range n).map fun _ => d
  | 0 => rfl
  | n + 1 => by
    rw [List.replicate_succ', List.flatten_append, rep_one n, List.range_succ, List.map_append]
    rfl
def eqL (K : Nat) (f : Nat → Rat) : List D := (List.range K).map fun l => enc (f l)
theorem eqL_set {K j : Nat} {f : Nat → Rat} {q : Rat} (hj : j < K) : (eqL K f).set j (enc q) = eqL K fun l => if l = j then q else f l := by
  unfold eqL
  refine List.ext_getElem? fun i => ?_
  by_cases e : j = i
  · subst e
    rw [List.getElem?_set_self (by simpa using hj), List.getElem?_map, List.getElem?_range hj]
    show some (enc q) = some (enc (if j = j then q else f j))
    rw [if_pos rfl]
  · rw [List.getElem?_set_ne e, List.getElem?_map, List.getElem?_map]
    by_cases hi : i < K
    · rw [List.getElem?_range hi]
      show some (enc (f i)) = some (enc (if i = j then q else f i))
      rw [if_neg (fun z => e z.symm)]
    · rw [List.getElem?_eq_none (by rw [List.length_range]; omega)]
      rfl
theorem eqL_at {K j : Nat} {f : Nat → Rat} (hj : j < K) : atI (eqL K f) (j : Int) = some (enc (f j)) := atR hj
theorem ix_eqL {K j : Nat} {f : Nat → Rat} (hj : j < K) : ixN (eqL K f).length (j : Int) = some j := by
  unfold eqL
  rw [List.length_map, List.length_range]
  unfold ixN
  rw [if_pos (by omega), if_pos (by omega)]
  rfl
theorem eqL_congr {K : Nat} {f g : Nat → Rat} (h : ∀ l, l < K → f l = g l) : eqL K f = eqL K g := List.map_congr_left fun l hl => by rw [h l (List.mem_range.mp hl)]
def colD (S : List Nat) : D := .dct (S.map kI) (nums S.length)
theorem in_col {neg : Bool} {S : List Nat} {t : Nat} : oInK neg (nI t) (colD S) = some (.d (.bl (if neg then !decide (t ∈ S) else decide (t ∈ S)))) := by
  show some (Sv.d (.bl (if neg then !(lookD (S.map kI) (nums S.length) (kI t)).isSome else (lookD (S.map kI) (nums S.length) (kI t)).isSome))) = _
  have : (lookD (S.map kI) (nums S.length) (kI t)).isSome = decide (t ∈ S) := by
    by_cases h : t ∈ S
    · rw [look_pos (by unfold nums; simp) h]
      unfold nums
      rw [List.getElem?_map, List.getElem?_range (pos_lt h), decide_eq_true h]
      rfl
    · rw [look_none (fun k hk z => h (by
        obtain ⟨y, hy, rfl⟩ := List.mem_map.mp hk
        have := Sum.inl.inj z
        rwa [show t = y by omega])), decide_eq_false h]
      rfl
  rw [this]
theorem get_col {S : List Nat} {t : Nat} (h : t ∈ S) : oGetK (colD S) (nI t) = some (.d (nI (pos S t))) := by
  show (lookD (S.map kI) (nums S.length) (kI t)).map Sv.d = _
  rw [look_pos (by unfold nums; simp) h]
  unfold nums
  rw [List.getElem?_map, List.getElem?_range (pos_lt h)]
  rfl
theorem equation_eq {S : List Nat} (nd : S.Nodup) (hS : S.length ≤ 24) {b : Rat} (hb : BOk b) {n : Nat} {r : List (Nat × Rat)} (hr : ROk n r) (hn : n ≤ 24) {own : Nat} (ho : own < S.length) : f_equation_row [rowQ r, colD S, nI own, enc b] = .ok (qT (eqR S b r own)) := by
  have rl := hr.len
  have key := for_inv (γ := γT 2 (γCons (γN 5) (γCons (γN 6) (γNil)))) (g := (mIfS (mB (mOp (oInK false) (mPk 5) (mPk 1))) (mSeq (mSet 7 (mOp oGetK (mPk 1) (mPk 5)))
    (mPut 4 (mPk 7) (mD (mCall 2 f_subtract (mCons (mD (mOp oIx (mPk 4) (mPk 7))) (mCons (mD (mCall 2 f_multiply (mCons (mD (mVar 3)) (mCons (mD (mVar 6)) (mNil))))) (mNil))))))) (mNx)))
    (all := (r.map toD).map pD) (env := [.fr (rowQ r), .fr (colD S), .fr (nI own), .fr (enc b), .ow (eqL S.length (dl own)), .un, .un, .un])
    (fun i env => ∃ s5 s6 s7, env = [.fr (rowQ r), .fr (colD S), .fr (nI own), .fr (enc b), .ow (eqL S.length fun l => dl own l - b * prT (r.take i) (S.getD l 0)), s5, s6, s7])
    ⟨.un, .un, .un, by
      congr 5
      refine congrArg Sl.ow (eqL_congr fun l _ => ?_)
      show dl own l = dl own l - b * 0
      rw [Rat.mul_zero]
      grind⟩ (by
      rintro i x env hx ⟨s5, s6, s7, rfl⟩
      rw [List.getElem?_map, List.getElem?_map] at hx
      obtain ⟨p', hg', rfl⟩ := Option.map_eq_some_iff.mp hx
      obtain ⟨p, hg, rfl⟩ := Option.map_eq_some_iff.mp hg'
      have hp := List.mem_of_getElem? hg
      have hi := (List.getElem?_eq_some_iff.mp hg).1
      have tk : ∀ t, prT (r.take (i + 1)) t = prT (r.take i) t + p.2 * (if p.1 = t then 1 else 0) := fun t => by
        rw [List.take_succ, hg]
        exact exS_app _
      have ic := in_col (neg := false) (S := S) (t := p.1)
      by_cases hS' : p.1 ∈ S
      · have gc := get_col hS'
        have hl := pos_lt hS'
        have z0 : prT (r.take i) p.1 = 0 := prT_none fun q hq => by
          obtain ⟨j, hj, e⟩ := List.getElem_of_mem hq
          rw [List.length_take] at hj
          rw [List.getElem_take] at e
          have := List.pairwise_iff_getElem.mp hr.asc j i (by omega) hi (by omega)
          have e2 : r[i] = p := by rw [List.getElem?_eq_getElem hi] at hg; exact Option.some.inj hg
          rw [e, e2] at this
          omega
        have at_ : atI (eqL S.length fun l => dl own l - b * prT (r.take i) (S.getD l 0)) ((pos S p.1 : Nat) : Int) = some (enc (dl own (pos S p.1))) := by
          rw [eqL_at hl, getD_pos hS', z0, Rat.mul_zero]
          congr 2
          grind
        have ixn := ix_eqL (f := fun l => dl own l - b * prT (r.take i) (S.getD l 0)) hl
        have mu := mul_eq (p := b) (q := p.2) hb.sz (hr.sz p hp) (by decide)
        have su := sub_eq (p := dl own (pos S p.1)) (q := b * p.2) dl_sz (hb.sz.mul (hr.sz p hp)) (by decide)
        have st := eqL_set (f := fun l => dl own l - b * prT (r.take i) (S.getD l 0)) (q := dl own (pos S p.1) - b * p.2) hl
        have en : eqL S.length (fun l => dl own l - b * prT (r.take (i + 1)) (S.getD l 0)) = eqL S.length fun l => if l = pos S p.1 then dl own (pos S p.1) - b * p.2 else dl own l - b * prT (r.take i) (S.getD l 0) := eqL_congr fun l hl' => by
          rw [tk]
          by_cases e : l = pos S p.1
          · rw [if_pos e, e, getD_pos hS', if_pos rfl, z0]
            grind
          · have : ¬ p.1 = S.getD l 0 := fun z => e (by rw [z, pos_getD nd hl'])
            rw [if_neg e, if_neg this]
            grind
        refine ⟨_, [.fr (rowQ r), .fr (colD S), .fr (nI own), .fr (enc b), .ow (eqL S.length fun l => dl own l - b * prT (r.take (i + 1)) (S.getD l 0)), .fr (nI p.1), .fr (enc p.2), .fr (nI (pos S p.1))], rfl, ?_, _, _, _, rfl⟩
        rw [en, ← st]
        have np : nI (pos S p.1) = .int ((pos S p.1 : Nat) : Int) := rfl
        rw [np] at gc ⊢
        show (mIfS _ _ _) [.fr (rowQ r), .fr (colD S), .fr (nI own), .fr (enc b), .ow (eqL S.length fun l => dl own l - b * prT (r.take i) (S.getD l 0)), .fr (nI p.1), .fr (enc p.2), s7] = _
        generalize (eqL S.length fun l => dl own l - b * prT (r.take i) (S.getD l 0)) = el at *
        generalize rowQ r = rq at *
        generalize colD S = cS at *
        generalize nI own = no at *
        generalize nI p.1 = n1 at *
        generalize enc (dl own (pos S p.1) - b * p.2) = ea at *
        generalize enc (dl own (pos S p.1)) = eb at *
        generalize enc (b * p.2) = ec at *
        generalize enc b = ed at *
        generalize enc p.2 = ee at *
        simp [ic, hS', gc, at_, mu, su, ixn]
      · have en : eqL S.length (fun l => dl own l - b * prT (r.take (i + 1)) (S.getD l 0)) = eqL S.length fun l => dl own l - b * prT (r.take i) (S.getD l 0) := eqL_congr fun l hl' => by
          rw [tk, if_neg (fun z => hS' (by rw [z]; exact getD_mem hl'))]
          grind
        refine ⟨_, [.fr (rowQ r), .fr (colD S), .fr (nI own), .fr (enc b), .ow (eqL S.length fun l => dl own l - b * prT (r.take (i + 1)) (S.getD l 0)), .fr (nI p.1), .fr (enc p.2), s7], rfl, ?_, _, _, _, rfl⟩
        rw [en]
        show (mIfS _ _ _) [.fr (rowQ r), .fr (colD S), .fr (nI own), .fr (enc b), .ow (eqL S.length fun l => dl own l - b * prT (r.take i) (S.getD l 0)), .fr (nI p.1), .fr (enc p.2), s7] = _
        generalize (eqL S.length fun l => dl own l - b * prT (r.take i) (S.getD l 0)) = el at *
        generalize rowQ r = rq at *
        generalize colD S = cS at *
        generalize nI own = no at *
        generalize nI p.1 = n1 at *
        generalize enc b = ed at *
        generalize enc p.2 = ee at *
        simp [ic, hS'])
  obtain ⟨env', k1, s5, s6, s7, rfl⟩ := key
  rw [List.length_map, List.length_map, List.take_length] at k1
  have lc : cLenK [colD S] = some (.d (.int (S.length : Int))) := by
    show some (Sv.d (D.int ((S.map kI).length : Nat))) = _
    rw [List.length_map]
  have rp : oRep (.lst [enc 0]) (.int (S.length : Int)) = some (.l ((List.range S.length).map fun _ => enc 0)) := by
    show (if _ then _ else _) = _
    rw [if_pos ⟨by decide, by omega, by omega⟩, Int.toNat_natCast, rep_one]
  have z1 : ((List.range S.length).map fun _ => enc 0) = eqL S.length fun _ => 0 := rfl
  rw [z1] at rp
  have st0 := eqL_set (f := fun _ => 0) (q := 1) ho
  have e0 : (eqL S.length fun l => if l = own then (1 : Rat) else 0) = eqL S.length (dl own) := eqL_congr fun l _ => by
    unfold dl
    by_cases h : l = own
    · rw [if_pos h, if_pos h.symm]
    · rw [if_neg h, if_neg (fun z => h z.symm)]
  rw [e0] at st0
  have ix0 := ix_eqL (f := fun _ => 0) ho
  have it : itemsOf (rowQ r) = some ((r.map toD).map pD) := rfl
  have fin : qT (eqR S b r own) = .tup (eqL S.length fun l => dl own l - b * prT r (S.getD l 0)) := by
    unfold qT eqR eqL
    rw [List.map_map]
    rfl
  rw [fin]
  unfold nI at *
  generalize (eqL S.length fun l => dl own l - b * prT r (S.getD l 0)) = el at *
  rw [← st0] at k1
  generalize (eqL S.length fun _ => 0) = e00 at *
  generalize (r.map toD).map pD = rp' at *
  generalize rowQ r = rq at *
  generalize colD S = cS at *
  generalize enc b = eb at *
  simp [f_equation_row, g_equation_row, lc, enc_zero, enc_one, rp, ix0, it, k1]
end Law
namespace Law
open PySem PySem.Spec PyProof.Rows L2 Evl Iv
open Dt
theorem weight_eq {S : List Nat} {b : Rat} (hb : BOk b) {n : Nat} {r : List (Nat × Rat)} (hr : ROk n r) (hn : n ≤ 24) : f_leaving_weight [rowQ r, colD S, enc b] = .ok (enc (b * outP S r)) := by
  have rl := hr.len
  have osz : ∀ i, Sz (10 * i + 1) (outP S (r.take i)) := fun i => by
    have : Sz (10 * (r.take i).length + 1) (outP S (r.take i)) := exS_sz (b := 9) fun p hp => by
      have hp := List.mem_of_mem_take hp
      by_cases e : p.1 ∈ S
      · rw [if_pos e, Rat.mul_zero]; exact sz_zero.mono (by decide)
      · rw [if_neg e, Rat.mul_one]; exact (hr.sz p hp).mono (by decide)
    refine this.mono ?_
    rw [List.length_take]
    omega
  have key := for_inv (γ := γT 2 (γCons (γN 4) (γCons (γN 5) (γNil)))) (g := (mIfS (mB (mOp (oInK true) (mPk 4) (mPk 1))) (mSet 3 (mCall 2 f_add (mCons (mD (mVar 3)) (mCons (mD (mVar 5)) (mNil))))) (mNx)))
    (all := (r.map toD).map pD) (env := [.fr (rowQ r), .fr (colD S), .fr (enc b), .fr (enc 0), .un, .un])
    (fun i env => ∃ s4 s5, env = [.fr (rowQ r), .fr (colD S), .fr (enc b), .fr (enc (outP S (r.take i))), s4, s5]) ⟨.un, .un, rfl⟩ (by
      rintro i x env hx ⟨s4, s5, rfl⟩
      rw [List.getElem?_map, List.getElem?_map] at hx
      obtain ⟨p', hg', rfl⟩ := Option.map_eq_some_iff.mp hx
      obtain ⟨p, hg, rfl⟩ := Option.map_eq_some_iff.mp hg'
      have hp := List.mem_of_getElem? hg
      have hi := (List.getElem?_eq_some_iff.mp hg).1
      have tk : outP S (r.take (i + 1)) = outP S (r.take i) + p.2 * (if p.1 ∈ S then 0 else 1) := by
        rw [List.take_succ, hg]
        exact exS_app _
      have ic := in_col (neg := true) (S := S) (t := p.1)
      have ad := add_eq (p := outP S (r.take i)) (q := p.2) (osz i) (hr.sz p hp) (by omega)
      refine ⟨_, [.fr (rowQ r), .fr (colD S), .fr (enc b), .fr (enc (outP S (r.take (i + 1)))), .fr (nI p.1), .fr (enc p.2)], rfl, ?_, _, _, rfl⟩
      show (mIfS _ _ _) [.fr (rowQ r), .fr (colD S), .fr (enc b), .fr (enc (outP S (r.take i))), .fr (nI p.1), .fr (enc p.2)] = _
      by_cases hS : p.1 ∈ S
      · have e : outP S (r.take (i + 1)) = outP S (r.take i) := by rw [tk, if_pos hS]; grind
        rw [e]
        generalize rowQ r = rq at *
        generalize colD S = cS at *
        generalize nI p.1 = n1 at *
        simp [ic, hS]
      · have e : outP S (r.take (i + 1)) = outP S (r.take i) + p.2 := by rw [tk, if_neg hS]; grind
        rw [e]
        generalize enc (outP S (r.take i) + p.2) = ea at *
        generalize enc (outP S (r.take i)) = ec at *
        generalize enc p.2 = ep at *
        generalize rowQ r = rq at *
        generalize colD S = cS at *
        generalize nI p.1 = n1 at *
        simp [ic, hS, ad])
  obtain ⟨env', k1, s4, s5, rfl⟩ := key
  rw [List.length_map, List.length_map, List.take_length] at k1
  have it : itemsOf (rowQ r) = some ((r.map toD).map pD) := rfl
  have mu := mul_eq (p := b) (q := outP S r) hb.sz (outP_sz hr) (by omega)
  generalize (r.map toD).map pD = rp' at *
  generalize rowQ r = rq at *
  generalize colD S = cS at *
  generalize enc (b * outP S r) = e1 at *
  generalize enc (outP S r) = e2 at *
  generalize enc b = e3 at *
  simp [f_leaving_weight, g_leaving_weight, enc_zero, it, k1, mu]
theorem ix_rows {rows : List (List (Nat × Rat))} {n s : Nat} (lr : rows.length = n) (h : s < n) : oIx (.tup ((rowsD rows).map rowD)) (nI s) = some (.d (rowQ (rows.getD s []))) := by
  show (atI ((rowsD rows).map rowD) (s : Int)).map Sv.d = _
  have hl : s < rows.length := by omega
  unfold rowsD
  rw [atI_nat', List.getElem?_map, List.getElem?_map, List.getElem?_eq_getElem hl, List.getD_eq_getElem?_getD, List.getElem?_eq_getElem hl]
  rfl
theorem ix_rews {rs : List Rat} {n s : Nat} (ls : rs.length = n) (h : s < n) : oIx (.tup (rs.map enc)) (nI s) = some (.d (enc (rs.getD s 0))) := by
  show (atI (rs.map enc) (s : Int)).map Sv.d = _
  have hl : s < rs.length := by omega
  rw [atI_nat', List.getElem?_map, List.getElem?_eq_getElem hl, List.getD_eq_getElem?_getD, List.getElem?_eq_getElem hl]
  rfl
def setD' (S : List Nat) : D := .tup (S.map nI)
theorem col_comp {S : List Nat} (nd : S.Nodup) {a0 a2 a6 a7 : D} {s4 s5 s8 s9 s11 : Sl} : compD [10] (γN 10) mYes (mD (mOp oIx (mPk 1) (mPk 10))) (mD (mVar 10)) (Iv.upTo 0 S.length) [] [] [.fr a0, .fr (setD' S), .fr a2, .un, s4, s5, .fr a6, .fr a7, s8, s9, .un, s11] = .ok (S.map kI, nums S.length) [.fr a0, .fr (setD' S), .fr a2, .un, s4, s5, .fr a6, .fr a7, s8, s9, .un, s11] := by
  have ek : (Iv.upTo 0 S.length).map (fun d => match d with | .int i => kI (S.getD i.toNat 0) | _ => kI 0) = S.map kI := by
    rw [upN, List.map_map]
    refine List.ext_getElem? fun j => ?_
    rw [List.getElem?_map, List.getElem?_map]
    by_cases hj : j < S.length
    · rw [List.getElem?_range hj, List.getElem?_eq_getElem hj]
      show some (kI (S.getD j 0)) = _
      rw [List.getD_eq_getElem?_getD, List.getElem?_eq_getElem hj]
      rfl
    · rw [List.getElem?_eq_none (by rw [List.length_range]; omega), List.getElem?_eq_none (by omega)]
      rfl
  have := compD_app (vs := [10]) (γ := γN 10) (fk := mD (mOp oIx (mPk 1) (mPk 10))) (fv := mD (mVar 10)) (env := [.fr a0, .fr (setD' S), .fr a2, .un, s4, s5, .fr a6, .fr a7, s8, s9, .un, s11])
    (key := fun d => match d with | .int i => kI (S.getD i.toNat 0) | _ => kI 0) (val := id) (items := Iv.upTo 0 S.length) (ks := []) (ds := []) (fun x hx => by
      rw [upN] at hx
      obtain ⟨j, hj, rfl⟩ := List.mem_map.mp hx
      have hj := List.mem_range.mp hj
      have at_ : oIx (setD' S) (nI j) = some (.d (nI (S.getD j 0))) := by
        show (atI (S.map nI) (j : Int)).map Sv.d = _
        rw [atI_nat', List.getElem?_map, List.getD_eq_getElem?_getD, List.getElem?_eq_getElem hj]
        rfl
      refine ⟨[.fr a0, .fr (setD' S), .fr a2, .un, s4, s5, .fr a6, .fr a7, s8, s9, .fr (nI j), s11], nI (S.getD j 0), [.fr a0, .fr (setD' S), .fr a2, .un, s4, s5, .fr a6, .fr a7, s8, s9, .fr (nI j), s11], [.fr a0, .fr (setD' S), .fr a2, .un, s4, s5, .fr a6, .fr a7, s8, s9, .fr (nI j), s11], rfl, ?_, rfl, rfl, rfl⟩
      generalize setD' S = kk at *
      generalize nI (S.getD j 0) = kj at *
      generalize nI j = jj at *
      simp [at_])
    (by
      rw [List.nil_append, ek]
      unfold List.Nodup
      rw [List.pairwise_map]
      exact nd.imp fun h z => h (by have := Sum.inl.inj z; omega))
  rw [this, ek, List.nil_append, List.nil_append, List.map_id, upN]
  rfl
/-- leave_values: the pairs that the equations give -/
theorem leave_eq {S : List Nat} (asc : S.Pairwise (· < ·)) {b : Rat} {n : Nat} {rs : List Rat} {rows : List (List (Nat × Rat))} (g : GOk n rs rows) (hS : ∀ s ∈ S, s < n) (hb : BOk b) :
    ∃ X : List (List Rat), X.length = S.length ∧ (∀ r ∈ X, r.length = 2) ∧ (∀ r ∈ X, ∀ q ∈ r, Sz (370 * 24 + 1) q) ∧ f_leave_values [gamD rs rows, setD' S, enc b] = .ok (matD X) ∧
      ∀ k, k < S.length → ent X k 0 = rs.getD (S.getD k 0) 0 + b * exS (rows.getD (S.getD k 0) []) (fun t => if t ∈ S then ent X (pos S t) 0 else 0) ∧ ent X k 1 = b * exS (rows.getD (S.getD k 0) []) fun t => if t ∈ S then ent X (pos S t) 1 else 1 := by
  have nd := asc_nd asc
  have n9 := g.n9
  have Sl : S.length ≤ n := by
    have := nd.length_le_of_subset (l₂ := List.range n) fun x hx => List.mem_range.mpr (hS x hx)
    rwa [List.length_range] at this
  obtain ⟨X, x1, x2, x3, x4, x5⟩ := solve_reg (sys_leave asc g hS hb) (reg_eqA nd g hS hb.h0 hb.h1)
  refine ⟨X, x1, x2, fun r hr q hq => (x3 r hr q hq).mono (by
    have : (300 + 70) * S.length ≤ 370 * 24 := Nat.mul_le_mul_left _ (by omega)
    omega), ?_, fun k hk => ?_⟩
  · obtain ⟨gm, hgm⟩ : ∃ gm, gm = gamD rs rows := ⟨_, rfl⟩
    have u0 : ∀ env : En, γT 2 (γCons (γN 6) (γCons (γN 7) (γNil))) gm env = some ((env.set 6 (.fr (.tup (rs.map enc)))).set 7 (.fr (.tup ((rowsD rows).map rowD)))) := fun env => by rw [hgm]; rfl
    have lS : cLen [setD' S] = some (.d (.int (S.length : Int))) := by
      show some (Sv.d (D.int ((S.map nI).length : Nat))) = _
      rw [List.length_map]
    have hsm : small (S.length : Int) = true := small_nat (by omega)
    have h90 : (Iv.upTo 0 S.length).length ≤ 90000 := by rw [upTo_len]; omega
    have it : itemsOf (setD' S) = some (S.map nI) := rfl
    have s90 : (S.map nI).length ≤ 90000 := by rw [List.length_map]; omega
    have cc : ∀ s4 s5 s8 s9 s11, compD [10] (γN 10) mYes (mD (mOp oIx (mPk 1) (mPk 10))) (mD (mVar 10)) (Iv.upTo 0 S.length) [] [] [.fr gm, .fr (setD' S), .fr (enc b), .un, s4, s5, .fr (.tup (rs.map enc)), .fr (.tup ((rowsD rows).map rowD)), s8, s9, .un, s11] = _ := fun s4 s5 s8 s9 s11 => col_comp nd
    obtain ⟨mr, hmr⟩ : ∃ mr : D, mr = .tup ((rowsD rows).map rowD) := ⟨_, rfl⟩
    obtain ⟨rr, hrr⟩ : ∃ rr : D, rr = .tup (rs.map enc) := ⟨_, rfl⟩
    rw [← hmr, ← hrr] at u0
    have ixr : ∀ s, s < n → oIx mr (nI s) = some (.d (rowQ (rows.getD s []))) := fun s hs => by rw [hmr]; exact ix_rows g.lr hs
    have ixw : ∀ s, s < n → oIx rr (nI s) = some (.d (enc (rs.getD s 0))) := fun s hs => by rw [hrr]; exact ix_rews g.ls hs
    by_cases hne : S = []
    · have f0 : matD X = matD X := rfl
      have eA : matD (eqA S b rows) = .tup [] := by rw [hne]; rfl
      have eB : matD (eqB S b rs rows) = .tup [] := by rw [hne]; rfl
      rw [eA, eB] at x4
      have km : S.map kI = [] := by rw [hne]; rfl
      have sm : S.map nI = [] := by rw [hne]; rfl
      have nm : nums S.length = [] := by rw [hne]; rfl
      rw [sm] at it
      simp only [← hmr, ← hrr, km, nm] at cc
      rw [← hgm]
      generalize matD X = mX at *
      generalize setD' S = sS at *
      generalize enc b = eb at *
      clear hgm hmr hrr
      simp [f_leave_values, g_leave_values, u0, lS, hsm, h90, cc, it, x4, compL]
    · have c4 : ∀ s4 s5 s8 s9, compL [11] (γN 11) mYes (mD (mCall 4 f_equation_row (mCons (mD (mOp oIx (mPk 7) (mPk 11))) (mCons (mD (mVar 3)) (mCons (mD (mOp oGetK (mPk 3) (mPk 11))) (mCons (mD (mVar 2)) (mNil))))))) (S.map nI) [] [.fr gm, .fr (setD' S), .fr (enc b), .od (S.map kI) (nums S.length), s4, s5, .fr rr, .fr mr, s8, s9, .un, .un] = .ok ((eqA S b rows).map qT) [.fr gm, .fr (setD' S), .fr (enc b), .fr (colD S), s4, s5, .fr rr, .fr mr, s8, s9, .un, .un] := fun s4 s5 s8 s9 => by
        have := compL_map1 (enc := nI) (h := fun s => qT (eqR S b (rows.getD s []) (pos S s))) (vs := [11]) (γ := γN 11) (cond := mYes) (elt := mD (mCall 4 f_equation_row (mCons (mD (mOp oIx (mPk 7) (mPk 11))) (mCons (mD (mVar 3)) (mCons (mD (mOp oGetK (mPk 3) (mPk 11))) (mCons (mD (mVar 2)) (mNil))))))) (env0 := [.fr gm, .fr (setD' S), .fr (enc b), .od (S.map kI) (nums S.length), s4, s5, .fr rr, .fr mr, s8, s9, .un, .un]) (env := [.fr gm, .fr (setD' S), .fr (enc b), .fr (colD S), s4, s5, .fr rr, .fr mr, s8, s9, .un, .un]) (xs := S) (acc := []) hne (fun s hs e he => by
          have e1 := ixr s (hS s hs)
          have e2 := get_col hs
          have e3 := equation_eq nd (by omega) hb (g.at_ (hS s hs)) n9 (pos_lt hs)
          refine ⟨e.set 11 (.fr (nI s)), _, [.fr gm, .fr (setD' S), .fr (enc b), .fr (colD S), s4, s5, .fr rr, .fr mr, s8, s9, .un, .fr (nI s)], rfl, rfl, ?_, rfl⟩
          unfold colD at *
          generalize S.map kI = ks at *
          generalize nums S.length = ds at *
          generalize qT (eqR S b (rows.getD s []) (pos S s)) = qe at *
          generalize rowQ (rows.getD s []) = rq at *
          generalize nI (pos S s) = np at *
          generalize nI s = ns at *
          generalize setD' S = sS at *
          generalize enc b = eb at *
          rcases he with rfl | rfl <;> simp [e1, e2, e3])
        rw [this, List.nil_append]
        unfold eqA
        rw [List.map_map]
        rfl
      have c5 : ∀ s4 s5 s8 s9, compL [11] (γN 11) mYes (mD (mTup (mCons (mD (mOp oIx (mPk 6) (mPk 11))) (mCons (mD (mCall 3 f_leaving_weight (mCons (mD (mOp oIx (mPk 7) (mPk 11))) (mCons (mD (mVar 3)) (mCons (mD (mVar 2)) (mNil)))))) (mNil))))) (S.map nI) [] [.fr gm, .fr (setD' S), .fr (enc b), .fr (colD S), s4, s5, .fr rr, .fr mr, s8, s9, .un, .un] = .ok ((eqB S b rs rows).map qT) [.fr gm, .fr (setD' S), .fr (enc b), .fr (colD S), s4, s5, .fr rr, .fr mr, s8, s9, .un, .un] := fun s4 s5 s8 s9 => by
        have := compL_map (enc := nI) (h := fun s => qT [rs.getD s 0, b * outP S (rows.getD s [])]) (vs := [11]) (γ := γN 11) (cond := mYes) (elt := mD (mTup (mCons (mD (mOp oIx (mPk 6) (mPk 11))) (mCons (mD (mCall 3 f_leaving_weight (mCons (mD (mOp oIx (mPk 7) (mPk 11))) (mCons (mD (mVar 3)) (mCons (mD (mVar 2)) (mNil)))))) (mNil))))) (env := [.fr gm, .fr (setD' S), .fr (enc b), .fr (colD S), s4, s5, .fr rr, .fr mr, s8, s9, .un, .un]) (xs := S) (acc := []) (fun s hs => by
          have e1 := ixr s (hS s hs)
          have e2 := ixw s (hS s hs)
          have e3 := weight_eq (S := S) hb (g.at_ (hS s hs)) n9
          refine ⟨[.fr gm, .fr (setD' S), .fr (enc b), .fr (colD S), s4, s5, .fr rr, .fr mr, s8, s9, .un, .fr (nI s)], _, [.fr gm, .fr (setD' S), .fr (enc b), .fr (colD S), s4, s5, .fr rr, .fr mr, s8, s9, .un, .fr (nI s)], rfl, rfl, ?_, rfl⟩
          have q2 : qT [rs.getD s 0, b * outP S (rows.getD s [])] = .tup [enc (rs.getD s 0), enc (b * outP S (rows.getD s []))] := rfl
          rw [q2]
          generalize enc (b * outP S (rows.getD s [])) = e5 at *
          generalize enc (rs.getD s 0) = e6 at *
          generalize rowQ (rows.getD s []) = rq at *
          generalize nI s = ns at *
          generalize setD' S = sS at *
          generalize colD S = cS at *
          generalize enc b = eb at *
          simp [e1, e2, e3])
        rw [this, List.nil_append]
        unfold eqB
        rw [List.map_map]
        rfl
      have fA : matD (eqA S b rows) = .tup ((eqA S b rows).map qT) := rfl
      have fB : matD (eqB S b rs rows) = .tup ((eqB S b rs rows).map qT) := rfl
      rw [fA, fB] at x4
      simp only [← hmr, ← hrr] at cc
      rw [← hgm]
      generalize (eqA S b rows).map qT = qA at *
      generalize (eqB S b rs rows).map qT = qB at *
      generalize matD X = mX at *
      generalize S.map nI = sn at *
      generalize setD' S = sS at *
      generalize colD S = cS at *
      generalize S.map kI = ks at *
      generalize nums S.length = ds at *
      generalize enc b = eb at *
      clear hgm hmr hrr
      simp [f_leave_values, g_leave_values, u0, lS, hsm, h90, cc, it, s90, c4, c5, x4]
  · have hg : S[k]? = some (S.getD k 0) := by rw [List.getD_eq_getElem?_getD, List.getElem?_eq_getElem hk]; rfl
    have eb : ∀ j, ent (eqB S b rs rows) k j = [rs.getD (S.getD k 0) 0, b * outP S (rows.getD (S.getD k 0) [])].getD j 0 := fun j => by
      unfold ent eqB
      rw [List.getD_eq_getElem?_getD (l := S.map _), List.getElem?_map, hg]
      rfl
    have t0 := x5 k hk 0 (by decide)
    have t1 := x5 k hk 1 (by decide)
    rw [row_tell nd hk, eb] at t0 t1
    have t0 : _ = rs.getD (S.getD k 0) 0 := t0
    have t1 : _ = b * outP S (rows.getD (S.getD k 0) []) := t1
    refine ⟨by grind, ?_⟩
    have e : outP S (rows.getD (S.getD k 0) []) + exS (rows.getD (S.getD k 0) []) (fun t => if t ∈ S then ent X (pos S t) 1 else 0) = exS (rows.getD (S.getD k 0) []) fun t => if t ∈ S then ent X (pos S t) 1 else 1 := by
      unfold outP
      rw [exS_add]
      refine exS_congr fun p _ => ?_
      by_cases h : p.1 ∈ S
      · rw [if_pos h, if_pos h, if_pos h]; grind
      · rw [if_neg h, if_neg h, if_neg h]; grind
    rw [← e]
    grind
end Law
namespace Law
open PySem PySem.Spec PyProof.Rows L2 Evl Iv
open Dt
def BX : Nat := 370 * 24 + 1
/-- what the law's own step comes to -/
def gE (S : List Nat) (X : List (List Rat)) (t : Nat) : Rat := if t ∈ S then ent X (pos S t) 0 else 0
def gF (S : List Nat) (X : List (List Rat)) (t : Nat) : Rat := if t ∈ S then ent X (pos S t) 1 else 1
structure XOk (S : List Nat) (X : List (List Rat)) : Prop where
  len : X.length = S.length
  two : ∀ r ∈ X, r.length = 2
  sz : ∀ r ∈ X, ∀ q ∈ r, Sz BX q
def laterD (S : List Nat) (X : List (List Rat)) (t : Nat) : D := .tup [enc (gE S X t), enc (gF S X t)]
theorem ent_sz {S : List Nat} {X : List (List Rat)} (h : XOk S X) {k j : Nat} : Sz BX (ent X k j) := by
  unfold ent
  rw [List.getD_eq_getElem?_getD, List.getD_eq_getElem?_getD]
  cases e : X[k]? with
  | none => exact sz_zero.mono (by decide)
  | some r =>
    show Sz BX (r[j]?.getD 0)
    cases e2 : r[j]? with
    | none => exact sz_zero.mono (by decide)
    | some q => exact h.sz r (List.mem_of_getElem? e) q (List.mem_of_getElem? e2)
theorem gE_sz {S : List Nat} {X : List (List Rat)} (h : XOk S X) (t : Nat) : Sz BX (gE S X t) := by
  unfold gE
  by_cases e : t ∈ S
  · rw [if_pos e]; exact ent_sz h
  · rw [if_neg e]; exact sz_zero.mono (by decide)
theorem gF_sz {S : List Nat} {X : List (List Rat)} (h : XOk S X) (t : Nat) : Sz BX (gF S X t) := by
  unfold gF
  by_cases e : t ∈ S
  · rw [if_pos e]; exact ent_sz h
  · rw [if_neg e]; exact sz_one.mono (by decide)
theorem row_two {S : List Nat} {X : List (List Rat)} (h : XOk S X) {k : Nat} (hk : k < S.length) : X[k]? = some [ent X k 0, ent X k 1] := by
  have hl : k < X.length := by rw [h.len]; exact hk
  have hg : X[k]? = some X[k] := List.getElem?_eq_getElem hl
  have h2 := h.two _ (List.getElem_mem hl)
  unfold ent
  rw [hg, List.getD_eq_getElem?_getD (l := X), hg]
  match X[k], h2 with
  | [a, b], _ => rfl
theorem ix_X {S : List Nat} {X : List (List Rat)} (h : XOk S X) {k : Nat} (hk : k < S.length) : oIx (matD X) (nI k) = some (.d (.tup [enc (ent X k 0), enc (ent X k 1)])) := by
  show (atI (X.map qT) (k : Int)).map Sv.d = _
  rw [atI_nat', List.getElem?_map, row_two h hk]
  rfl
theorem ix_S {S : List Nat} {k : Nat} (hk : k < S.length) : oIx (setD' S) (nI k) = some (.d (nI (S.getD k 0))) := by
  show (atI (S.map nI) (k : Int)).map Sv.d = _
  rw [atI_nat', List.getElem?_map, List.getD_eq_getElem?_getD, List.getElem?_eq_getElem hk]
  rfl
theorem later_go {S : List Nat} (nd : S.Nodup) (hS : S.length ≤ 24) {X : List (List Rat)} (h : XOk S X) {a0 a1 a4 : D} {p : Nat × D} {s5 s6 s9 : Sl} : ∃ t9, forL (γN 9) (mIfS (mB (mOp (oEqA false) (mD (mOp oIx (mPk 2) (mPk 9))) (mD (mOp oIx (mPk 7) (mD (mC (.int 0))))))) (mSet 8 (mOp oIx (mPk 3) (mPk 9))) (mNx)) (Iv.upTo 0 S.length) [.fr a0, .fr a1, .fr (setD' S), .fr (matD X), .fr a4, s5, s6, .fr (pD p), .fr (.tup [enc 0, enc 1]), s9] = .ok .nx [.fr a0, .fr a1, .fr (setD' S), .fr (matD X), .fr a4, s5, s6, .fr (pD p), .fr (laterD S X p.1), t9] := by
  have key := for_inv (γ := γN 9) (g := (mIfS (mB (mOp (oEqA false) (mD (mOp oIx (mPk 2) (mPk 9))) (mD (mOp oIx (mPk 7) (mD (mC (.int 0))))))) (mSet 8 (mOp oIx (mPk 3) (mPk 9))) (mNx))) (all := Iv.upTo 0 S.length) (env := [.fr a0, .fr a1, .fr (setD' S), .fr (matD X), .fr a4, s5, s6, .fr (pD p), .fr (.tup [enc 0, enc 1]), s9])
    (fun i env => ∃ t9, env = [.fr a0, .fr a1, .fr (setD' S), .fr (matD X), .fr a4, s5, s6, .fr (pD p), .fr (if p.1 ∈ S.take i then laterD S X p.1 else .tup [enc 0, enc 1]), t9]) ⟨s9, by simp⟩ (by
      rintro i x env hx ⟨t9, rfl⟩
      have hi : i < S.length := by
        have := (List.getElem?_eq_some_iff.mp hx).1
        rwa [upTo_len] at this
      rw [upN, List.getElem?_map, List.getElem?_range hi] at hx
      cases hx
      have e1 := ix_S hi
      have e2 := ix_X h hi
      have e3 : oIx (pD p) (.int 0) = some (.d (nI p.1)) := rfl
      have e4 : oEqA false (nI (S.getD i 0)) (nI p.1) = some (.d (.bl (((S.getD i 0 : Nat) : Int) == (p.1 : Int)))) := rfl
      have tk : p.1 ∈ S.take (i + 1) ↔ p.1 ∈ S.take i ∨ p.1 = S.getD i 0 := by
        rw [List.take_succ, List.mem_append, List.getElem?_eq_getElem hi, List.getD_eq_getElem?_getD, List.getElem?_eq_getElem hi]
        simp
      refine ⟨_, [.fr a0, .fr a1, .fr (setD' S), .fr (matD X), .fr a4, s5, s6, .fr (pD p), .fr (if p.1 ∈ S.take (i + 1) then laterD S X p.1 else .tup [enc 0, enc 1]), .fr (nI i)], rfl, ?_, _, rfl⟩
      by_cases e : S.getD i 0 = p.1
      · have l1 : laterD S X p.1 = .tup [enc (ent X i 0), enc (ent X i 1)] := by
          unfold laterD gE gF
          have hm : p.1 ∈ S := by rw [← e]; exact getD_mem hi
          have hp : pos S p.1 = i := by rw [← e]; exact pos_getD nd hi
          rw [if_pos hm, if_pos hm, hp]
        rw [if_pos (tk.mpr (.inr e.symm)), l1]
        have e5 : (((S.getD i 0 : Nat) : Int) == (p.1 : Int)) = true := by rw [e]; simp
        rw [e5] at e4
        generalize (D.tup [enc (ent X i 0), enc (ent X i 1)]) = ld at *
        generalize matD X = mX at *
        generalize setD' S = sS at *
        generalize nI (S.getD i 0) = nS at *
        generalize nI i = ni at *
        generalize nI p.1 = np at *
        generalize pD p = pp at *
        simp [e1, e2, e3, e4]
      · have n1 : (if p.1 ∈ S.take (i + 1) then laterD S X p.1 else .tup [enc 0, enc 1]) = (if p.1 ∈ S.take i then laterD S X p.1 else .tup [enc 0, enc 1]) := by
          by_cases hm : p.1 ∈ S.take i
          · rw [if_pos hm, if_pos (tk.mpr (.inl hm))]
          · rw [if_neg hm, if_neg (fun z => (tk.mp z).elim hm fun z => e z.symm)]
        rw [n1]
        have e5 : (((S.getD i 0 : Nat) : Int) == (p.1 : Int)) = false := beq_eq_false_iff_ne.mpr (by omega)
        rw [e5] at e4
        generalize (if p.1 ∈ S.take i then laterD S X p.1 else .tup [enc 0, enc 1]) = ld at *
        generalize matD X = mX at *
        generalize setD' S = sS at *
        generalize nI (S.getD i 0) = nS at *
        generalize nI i = ni at *
        generalize nI p.1 = np at *
        generalize pD p = pp at *
        simp [e1, e3, e4])
  obtain ⟨env', k1, t9, rfl⟩ := key
  rw [upTo_len, List.take_length] at k1
  refine ⟨t9, ?_⟩
  rw [k1]
  have : (if p.1 ∈ S then laterD S X p.1 else .tup [enc 0, enc 1]) = laterD S X p.1 := by
    by_cases hm : p.1 ∈ S
    · rw [if_pos hm]
    · rw [if_neg hm]
      unfold laterD gE gF
      rw [if_neg hm, if_neg hm]
  rw [this]
theorem step2_eq {S : List Nat} (nd : S.Nodup) (hS : S.length ≤ 24) {X : List (List Rat)} (h : XOk S X) {b : Rat} (hb : BOk b) {n s : Nat} {rs : List Rat} {rows : List (List (Nat × Rat))} (g : GOk n rs rows) (hs : s < n) :
    f_u_law_step2 [gamD rs rows, nI s, setD' S, matD X, enc b] = .ok (.tup [enc (rs.getD s 0 + b * exS (rows.getD s []) (gE S X)), enc (b * exS (rows.getD s []) (gF S X))]) := by
  have hr := g.at_ hs
  have n9 := g.n9
  have rl := hr.len
  have rsz : Sz 110 (rs.getD s 0) := by
    rw [List.getD_eq_getElem?_getD, List.getElem?_eq_getElem (by rw [g.ls]; exact hs)]
    exact (g.rew _ (List.getElem_mem _)).1
  have ixm : oIx (gamD rs rows) (.int 1) = some (.d (.tup ((rowsD rows).map rowD))) := rfl
  have ixr : oIx (gamD rs rows) (.int 0) = some (.d (.tup (rs.map enc))) := rfl
  have ixs := ix_rows g.lr hs
  have ixw := ix_rews g.ls hs
  generalize rows.getD s [] = r at *
  have lS : cLen [setD' S] = some (.d (.int (S.length : Int))) := by
    show some (Sv.d (D.int ((S.map nI).length : Nat))) = _
    rw [List.length_map]
  have hsm : small (S.length : Int) = true := small_nat (by omega)
  have szE : ∀ i, Sz ((8 + BX + 1) * i + 1) (exS (r.take i) (gE S X)) := fun i => by
    have := exS_sz (r := r.take i) (g := gE S X) (b := 8 + BX) fun p hp => (hr.sz p (List.mem_of_mem_take hp)).mul (gE_sz h p.1)
    exact this.mono (Nat.add_le_add_right (Nat.mul_le_mul_left _ (by rw [List.length_take]; omega)) _)
  have szF : ∀ i, Sz ((8 + BX + 1) * i + 1) (exS (r.take i) (gF S X)) := fun i => by
    have := exS_sz (r := r.take i) (g := gF S X) (b := 8 + BX) fun p hp => (hr.sz p (List.mem_of_mem_take hp)).mul (gF_sz h p.1)
    exact this.mono (Nat.add_le_add_right (Nat.mul_le_mul_left _ (by rw [List.length_take]; omega)) _)
  have BXv : BX = 8881 := rfl
  have key := for_inv (γ := γN 7) (g := (mSeq (mSet 8 (mTup (mCons (mD (mTup (mCons (mD (mC (.int 0))) (mCons (mD (mC (.int 1))) (mNil))))) (mCons (mD (mTup (mCons (mD (mC (.int 1))) (mCons (mD (mC (.int 1))) (mNil))))) (mNil)))))
    (mSeq (mFor (γN 9) (mRng1 (mCons (mD (mCl cLen (mCons (mPk 2) (mNil)))) (mNil))) (mIfS (mB (mOp (oEqA false) (mD (mOp oIx (mPk 2) (mPk 9))) (mD (mOp oIx (mPk 7) (mD (mC (.int 0))))))) (mSet 8 (mOp oIx (mPk 3) (mPk 9))) (mNx)))
    (mSeq (mSet 5 (mCall 2 f_u_law_add2 (mCons (mD (mVar 5)) (mCons (mD (mCall 2 f_u_law_mul2 (mCons (mD (mOp oIx (mPk 7) (mD (mC (.int 1))))) (mCons (mD (mOp oIx (mPk 8) (mD (mC (.int 0))))) (mNil))))) (mNil)))))
    (mSet 6 (mCall 2 f_u_law_add2 (mCons (mD (mVar 6)) (mCons (mD (mCall 2 f_u_law_mul2 (mCons (mD (mOp oIx (mPk 7) (mD (mC (.int 1))))) (mCons (mD (mOp oIx (mPk 8) (mD (mC (.int 1))))) (mNil))))) (mNil))))))))) (all := (r.map toD).map pD)
    (env := [.fr (gamD rs rows), .fr (nI s), .fr (setD' S), .fr (matD X), .fr (enc b), .fr (enc 0), .fr (enc 0), .un, .un, .un])
    (fun i env => ∃ s7 s8 s9, env = [.fr (gamD rs rows), .fr (nI s), .fr (setD' S), .fr (matD X), .fr (enc b), .fr (enc (exS (r.take i) (gE S X))), .fr (enc (exS (r.take i) (gF S X))), s7, s8, s9]) ⟨.un, .un, .un, rfl⟩ (by
      rintro i x env hx ⟨s7, s8, s9, rfl⟩
      rw [List.getElem?_map, List.getElem?_map] at hx
      obtain ⟨p', hg', rfl⟩ := Option.map_eq_some_iff.mp hx
      obtain ⟨p, hg, rfl⟩ := Option.map_eq_some_iff.mp hg'
      have hp := List.mem_of_getElem? hg
      have hi := (List.getElem?_eq_some_iff.mp hg).1
      obtain ⟨t9, lg⟩ := later_go nd hS h (a0 := gamD rs rows) (a1 := nI s) (a4 := enc b) (p := toD p) (s5 := .fr (enc (exS (r.take i) (gE S X)))) (s6 := .fr (enc (exS (r.take i) (gF S X)))) (s9 := s9)
      have tp : (toD p).1 = p.1 := rfl
      rw [tp] at lg
      have k1 : oIx (pD (toD p)) (.int 1) = some (.d (enc p.2)) := rfl
      have k2 : oIx (laterD S X p.1) (.int 0) = some (.d (enc (gE S X p.1))) := rfl
      have k3 : oIx (laterD S X p.1) (.int 1) = some (.d (enc (gF S X p.1))) := rfl
      have m1 := mul2_eq (p := p.2) (q := gE S X p.1) (hr.sz p hp) (gE_sz h p.1) (by omega)
      have m2 := mul2_eq (p := p.2) (q := gF S X p.1) (hr.sz p hp) (gF_sz h p.1) (by omega)
      have bi : (8 + BX + 1) * i ≤ (8 + BX + 1) * 24 := Nat.mul_le_mul_left _ (by omega)
      have a1 := add2_eq (p := exS (r.take i) (gE S X)) (q := p.2 * gE S X p.1) (szE i) ((hr.sz p hp).mul (gE_sz h p.1)) (by omega)
      have a2 := add2_eq (p := exS (r.take i) (gF S X)) (q := p.2 * gF S X p.1) (szF i) ((hr.sz p hp).mul (gF_sz h p.1)) (by omega)
      have t1 : exS (r.take (i + 1)) (gE S X) = exS (r.take i) (gE S X) + p.2 * gE S X p.1 := by rw [List.take_succ, hg]; exact exS_app _
      have t2 : exS (r.take (i + 1)) (gF S X) = exS (r.take i) (gF S X) + p.2 * gF S X p.1 := by rw [List.take_succ, hg]; exact exS_app _
      refine ⟨_, [.fr (gamD rs rows), .fr (nI s), .fr (setD' S), .fr (matD X), .fr (enc b), .fr (enc (exS (r.take (i + 1)) (gE S X))), .fr (enc (exS (r.take (i + 1)) (gF S X))), .fr (pD (toD p)), .fr (laterD S X p.1), t9], rfl, ?_, _, _, _, rfl⟩
      rw [t1, t2]
      generalize enc (exS (r.take i) (gE S X) + p.2 * gE S X p.1) = f1 at *
      generalize enc (exS (r.take i) (gF S X) + p.2 * gF S X p.1) = f2 at *
      generalize enc (exS (r.take i) (gE S X)) = f3 at *
      generalize enc (exS (r.take i) (gF S X)) = f4 at *
      generalize enc (p.2 * gE S X p.1) = f5 at *
      generalize enc (p.2 * gF S X p.1) = f6 at *
      generalize enc (gE S X p.1) = f7 at *
      generalize enc (gF S X p.1) = f8 at *
      generalize enc p.2 = f9 at *
      generalize laterD S X p.1 = f10 at *
      generalize pD (toD p) = f11 at *
      generalize enc b = f12 at *
      generalize matD X = f13 at *
      generalize setD' S = f14 at *
      generalize gamD rs rows = f15 at *
      generalize nI s = f16 at *
      simp [enc_zero, enc_one, lS, hsm, lg, k1, k2, k3, m1, m2, a1, a2])
  obtain ⟨env', k1, s7, s8, s9, rfl⟩ := key
  rw [List.length_map, List.length_map, List.take_length] at k1
  have it : itemsOf (rowQ r) = some ((r.map toD).map pD) := rfl
  have bl : (8 + BX + 1) * r.length ≤ (8 + BX + 1) * 24 := Nat.mul_le_mul_left _ (by omega)
  have zE := szE r.length
  have zF := szF r.length
  rw [List.take_length] at zE zF
  have m1 := mul2_eq (p := b) (q := exS r (gE S X)) hb.sz zE (by omega)
  have m2 := mul2_eq (p := b) (q := exS r (gF S X)) hb.sz zF (by omega)
  have a1 := add2_eq (p := rs.getD s 0) (q := b * exS r (gE S X)) rsz (hb.sz.mul zE) (by omega)
  generalize enc (rs.getD s 0 + b * exS r (gE S X)) = f1 at *
  generalize enc (b * exS r (gE S X)) = f2 at *
  generalize enc (b * exS r (gF S X)) = f3 at *
  generalize enc (exS r (gE S X)) = f4 at *
  generalize enc (exS r (gF S X)) = f5 at *
  generalize enc (rs.getD s 0) = f6 at *
  generalize enc b = f7 at *
  generalize (r.map toD).map pD = rp at *
  generalize rowQ r = f8 at *
  generalize matD X = f13 at *
  generalize setD' S = f14 at *
  generalize (.tup ((rowsD rows).map rowD) : D) = f17 at *
  generalize (.tup (rs.map enc) : D) = f18 at *
  generalize gamD rs rows = f15 at *
  generalize nI s = f16 at *
  simp [f_u_law_step2, g_u_law_step2, enc_zero, ixm, ixs, it, k1, ixr, ixw, m1, m2, a1]
/-- the pairs keep the equations -/
def Keeps (S : List Nat) (X : List (List Rat)) (b : Rat) (rs : List Rat) (rows : List (List (Nat × Rat))) : Prop := ∀ k, k < S.length → ent X k 0 = rs.getD (S.getD k 0) 0 + b * exS (rows.getD (S.getD k 0) []) (gE S X) ∧ ent X k 1 = b * exS (rows.getD (S.getD k 0) []) (gF S X)
theorem leaves2_eq {S : List Nat} (asc : S.Pairwise (· < ·)) {X : List (List Rat)} (h : XOk S X) {b : Rat} (hb : BOk b) {n : Nat} {rs : List Rat} {rows : List (List (Nat × Rat))} (g : GOk n rs rows) (hS : ∀ s ∈ S, s < n) (kp : Keeps S X b rs rows) :
    f_u_law_leaves2 [gamD rs rows, setD' S, enc b, matD X] = .ok (.bl true) := by
  have nd := asc_nd asc
  have n9 := g.n9
  have Sl : S.length ≤ n := by
    have := nd.length_le_of_subset (l₂ := List.range n) fun x hx => List.mem_range.mpr (hS x hx)
    rwa [List.length_range] at this
  have lS : cLen [setD' S] = some (.d (.int (S.length : Int))) := by
    show some (Sv.d (D.int ((S.map nI).length : Nat))) = _
    rw [List.length_map]
  have lX : cLen [matD X] = some (.d (.int (S.length : Int))) := by
    show some (Sv.d (D.int ((X.map qT).length : Nat))) = _
    rw [List.length_map, h.len]
  have isX : cIsi [matD X, .ty "tuple"] = some (.d (.bl true)) := rfl
  have hsm : small (S.length : Int) = true := small_nat (by omega)
  have k1 := for_inv (γ := γN 4) (g := (mIfS (mNotB (mB (mCall 2 f_u_law_ratios2 (mCons (mD (mVar 4)) (mCons (mD (mC (.int 2))) (mNil)))))) (mRet (mD (mC (.bl false)))) (mNx))) (all := X.map qT) (env := [.fr (gamD rs rows), .fr (setD' S), .fr (enc b), .fr (matD X), .un, .un])
    (fun i env => ∃ s4, env = [.fr (gamD rs rows), .fr (setD' S), .fr (enc b), .fr (matD X), s4, .un]) ⟨.un, rfl⟩ (by
      rintro i x env hx ⟨s4, rfl⟩
      rw [List.getElem?_map] at hx
      obtain ⟨r, hg, rfl⟩ := Option.map_eq_some_iff.mp hx
      have h2 := h.two r (List.mem_of_getElem? hg)
      have rt := ratios2_eq (l := r)
      rw [h2] at rt
      have rt : f_u_law_ratios2 [qT r, .int 2] = .ok (.bl true) := rt
      refine ⟨_, [.fr (gamD rs rows), .fr (setD' S), .fr (enc b), .fr (matD X), .fr (qT r), .un], rfl, ?_, _, rfl⟩
      generalize qT r = qr at *
      generalize gamD rs rows = f15 at *
      simp [rt])
  obtain ⟨env1, e1, t4, rfl⟩ := k1
  have k2 := for_inv (γ := γN 5) (g := (mIfS (mB (mOp (oEqA true) (mD (mOp oIx (mPk 3) (mPk 5))) (mD (mCall 5 f_u_law_step2 (mCons (mD (mVar 0)) (mCons (mD (mOp oIx (mPk 1) (mPk 5))) (mCons (mD (mVar 1)) (mCons (mD (mVar 3)) (mCons (mD (mVar 2)) (mNil)))))))))) (mRet (mD (mC (.bl false)))) (mNx))) (all := Iv.upTo 0 S.length) (env := [.fr (gamD rs rows), .fr (setD' S), .fr (enc b), .fr (matD X), t4, .un])
    (fun i env => ∃ s5, env = [.fr (gamD rs rows), .fr (setD' S), .fr (enc b), .fr (matD X), t4, s5]) ⟨.un, rfl⟩ (by
      rintro i x env hx ⟨s5, rfl⟩
      have hi : i < S.length := by
        have := (List.getElem?_eq_some_iff.mp hx).1
        rwa [upTo_len] at this
      rw [upN, List.getElem?_map, List.getElem?_range hi] at hx
      cases hx
      have q1 := ix_S hi
      have q2 := ix_X h hi
      have st := step2_eq nd (by omega) h hb g (hS _ (getD_mem hi))
      obtain ⟨w1, w2⟩ := kp i hi
      rw [← w1, ← w2] at st
      have eq := eqA_pair (p := ent X i 0) (q := ent X i 1)
      refine ⟨_, [.fr (gamD rs rows), .fr (setD' S), .fr (enc b), .fr (matD X), t4, .fr (nI i)], rfl, ?_, _, rfl⟩
      generalize (D.tup [enc (ent X i 0), enc (ent X i 1)]) = pr at *
      generalize nI (S.getD i 0) = nS at *
      generalize nI i = ni at *
      generalize gamD rs rows = f15 at *
      generalize setD' S = f14 at *
      generalize matD X = f13 at *
      generalize enc b = f12 at *
      simp [q1, q2, st, eq])
  obtain ⟨env2, e2, t5, rfl⟩ := k2
  have it : itemsOf (matD X) = some (X.map qT) := rfl
  generalize X.map qT = xq at *
  generalize gamD rs rows = f15 at *
  generalize setD' S = f14 at *
  generalize matD X = f13 at *
  generalize enc b = f12 at *
  simp [f_u_law_leaves2, g_u_law_leaves2, isX, lX, lS, it, e1, hsm, e2]
/-- leave_values, as the law asks it -/
theorem leave_all {S : List Nat} (asc : S.Pairwise (· < ·)) {b : Rat} {n : Nat} {rs : List Rat} {rows : List (List (Nat × Rat))} (g : GOk n rs rows) (hS : ∀ s ∈ S, s < n) (hb : BOk b) :
    ∃ X : List (List Rat), XOk S X ∧ Keeps S X b rs rows ∧ f_leave_values [gamD rs rows, setD' S, enc b] = .ok (matD X) ∧ f_u_law_leaves2 [gamD rs rows, setD' S, enc b, matD X] = .ok (.bl true) := by
  obtain ⟨X, x1, x2, x3, x4, x5⟩ := leave_eq asc g hS hb
  have xo : XOk S X := ⟨x1, x2, x3⟩
  have kp : Keeps S X b rs rows := x5
  exact ⟨X, xo, kp, x4, leaves2_eq asc xo hb g hS kp⟩
end Law

set_option Elab.async false
set_option linter.all false
set_option maxHeartbeats 4000000
set_option maxRecDepth 100000
namespace Law
open PySem PySem.Spec PyProof.Rows L2 Evl Iv
/-! ### excursions: the functions of the program -/
noncomputable def g_leave_table : M Fl :=
    mSeq (mAsg (γT 2 (γCons (γN 6) (γCons (γN 7) (γNil)))) (mD (mVar 0)))
    (mSeq (mSet 3 (mOp oRep (mD (mLst (mCons (mD (mTup (mCons (mD (mTup (mCons (mD (mC (.int 0))) (mCons (mD (mC (.int 1))) (mNil))))) (mCons (mD (mTup (mCons (mD (mC (.int 1))) (mCons (mD (mC (.int 1))) (mNil))))) (mNil))))) (mNil)))) (mD (mCl cLen (mCons (mPk 6) (mNil))))))
    (mSeq (mSet 4 (mCall 3 f_leave_values (mCons (mD (mVar 0)) (mCons (mD (mVar 1)) (mCons (mD (mVar 2)) (mNil))))))
    (mSeq (mFor (γN 5) (mRng1 (mCons (mD (mCl cLen (mCons (mPk 1) (mNil)))) (mNil))) (mPut 3 (mD (mOp oIx (mPk 1) (mPk 5))) (mD (mOp oIx (mPk 4) (mPk 5)))))
    (mRet (mD (mVar 3))))))
noncomputable def f_leave_table : List D → FR := runF 8 g_leave_table
noncomputable def g_expected : M Fl :=
    mRet (mD (mCall 1 f_total (mCons (mD (mLc [2, 3] (γT 2 (γCons (γN 2) (γCons (γN 3) (γNil)))) (mIt (mD (mVar 0))) (mYes) (mD (mCall 2 f_multiply (mCons (mD (mVar 3)) (mCons (mD (mOp oIx (mPk 1) (mPk 2))) (mNil))))))) (mNil))))
noncomputable def f_expected : List D → FR := runF 4 g_expected
noncomputable def g_played : M Fl :=
    mSeq (mAsg (γT 2 (γCons (γN 4) (γCons (γN 5) (γNil)))) (mD (mVar 0)))
    (mRet (mD (mCall 2 f_add (mCons (mD (mOp oIx (mPk 4) (mPk 1))) (mCons (mD (mCall 2 f_multiply (mCons (mD (mVar 3)) (mCons (mD (mCall 2 f_expected (mCons (mD (mOp oIx (mPk 5) (mPk 1))) (mCons (mD (mVar 2)) (mNil))))) (mNil))))) (mNil))))))
noncomputable def f_played : List D → FR := runF 6 g_played
noncomputable def g_excursion_by : M Fl :=
    mSeq (mSet 4 (mCall 4 f_played (mCons (mD (mVar 0)) (mCons (mD (mVar 1)) (mCons (mD (mLc [6] (γN 6) (mIt (mD (mVar 2))) (mYes) (mD (mOp oIx (mPk 6) (mD (mC (.int 0))))))) (mCons (mD (mVar 3)) (mNil)))))))
    (mSeq (mSet 5 (mCall 2 f_expected (mCons (mD (mOp oIx (mD (mOp oIx (mPk 0) (mD (mC (.int 1))))) (mPk 1))) (mCons (mD (mLc [6] (γN 6) (mIt (mD (mVar 2))) (mYes) (mD (mOp oIx (mPk 6) (mD (mC (.int 1))))))) (mNil)))))
    (mRet (mD (mTup (mCons (mD (mVar 4)) (mCons (mD (mCall 2 f_multiply (mCons (mD (mVar 3)) (mCons (mD (mVar 5)) (mNil))))) (mNil)))))))
noncomputable def f_excursion_by : List D → FR := runF 7 g_excursion_by
noncomputable def g_excursion : M Fl :=
    mRet (mD (mCall 4 f_excursion_by (mCons (mD (mVar 0)) (mCons (mD (mVar 1)) (mCons (mD (mCall 3 f_leave_table (mCons (mD (mVar 0)) (mCons (mD (mVar 2)) (mCons (mD (mVar 3)) (mNil)))))) (mCons (mD (mVar 3)) (mNil)))))))
noncomputable def f_excursion : List D → FR := runF 4 g_excursion
/-! ### a list of what is known for each state -/
def funL (n : Nat) (f : Nat → D) : List D := (List.range n).map f
theorem funL_len {n : Nat} {f : Nat → D} : (funL n f).length = n := by unfold funL; rw [List.length_map, List.length_range]
theorem funL_at {n j : Nat} {f : Nat → D} (hj : j < n) : atI (funL n f) (j : Int) = some (f j) := by
  rw [atI_nat']
  unfold funL
  rw [List.getElem?_map, List.getElem?_range hj]
  rfl
theorem funL_congr {n : Nat} {f g : Nat → D} (h : ∀ l, l < n → f l = g l) : funL n f = funL n g := List.map_congr_left fun l hl => h l (List.mem_range.mp hl)
theorem funL_set {n j : Nat} {f : Nat → D} {d : D} (hj : j < n) : (funL n f).set j d = funL n fun t => if t = j then d else f t := by
  refine List.ext_getElem? fun i => ?_
  rw [List.getElem?_set]
  unfold funL
  rw [List.length_map, List.length_range, List.getElem?_map, List.getElem?_map]
  by_cases h : j = i
  · subst h
    rw [if_pos rfl, if_pos hj, List.getElem?_range hj]
    simp
  · rw [if_neg h]
    by_cases hi : i < n
    · rw [List.getElem?_range hi]
      simp [Ne.symm h, show ¬ i = j from fun z => h z.symm]
    · rw [List.getElem?_eq_none (by rw [List.length_range]; omega)]
      rfl
theorem funL_ix {n j : Nat} {f : Nat → D} (hj : j < n) : ixN (funL n f).length (j : Int) = some j := by
  have := ix_eqL (f := fun _ => 0) hj
  rw [funL_len]
  unfold eqL at this
  rwa [List.length_map, List.length_range] at this
theorem sumQ_exS {g : Nat → Rat} : ∀ r : List (Nat × Rat), sumQ (r.map fun p => p.2 * g p.1) = exS r g
  | [] => rfl
  | p :: r => by
    have ih := sumQ_exS (g := g) r
    unfold sumQ at *
    rw [List.map_cons, List.foldl_cons, fold_shift, ih]
    show exS r g + (0 + p.2 * g p.1) = p.2 * g p.1 + exS r g
    grind
theorem expected_eq {n : Nat} {r : List (Nat × Rat)} (hr : ROk n r) (hn : n ≤ 24) {g : Nat → Rat} {B : Nat} (hg : ∀ t, Sz B (g t)) (hB : B ≤ 100000) : f_expected [rowQ r, .lst (funL n fun t => enc (g t))] = .ok (enc (exS r g)) := by
  have rl := hr.len
  have it : itemsOf (rowQ r) = some (r.map fun p => pD (toD p)) := by
    show some ((r.map toD).map pD) = _
    rw [List.map_map]
    rfl
  have rl9 : (r.map fun p => pD (toD p)).length ≤ 90000 := by rw [List.length_map]; omega
  have cm := compL_map (enc := fun p => pD (toD p)) (vs := [2, 3]) (γ := γT 2 (γCons (γN 2) (γCons (γN 3) (γNil)))) (cond := mYes) (elt := mD (mCall 2 f_multiply (mCons (mD (mVar 3)) (mCons (mD (mOp oIx (mPk 1) (mPk 2))) (mNil))))) (env := [.fr (rowQ r), .fr (.lst (funL n fun t => enc (g t))), .un, .un]) (h := fun p : Nat × Rat => enc (p.2 * g p.1)) (xs := r) (acc := []) (fun p hp => by
    have ix : oIx (.lst (funL n fun t => enc (g t))) (nI p.1) = some (.d (enc (g p.1))) := by
      show (atI _ _).map Sv.d = _
      rw [funL_at (hr.lt p hp)]
      rfl
    have mu := mul_eq (p := p.2) (q := g p.1) (hr.sz p hp) (hg p.1) (by omega)
    refine ⟨[.fr (rowQ r), .fr (.lst (funL n fun t => enc (g t))), .fr (nI p.1), .fr (enc p.2)], [.fr (rowQ r), .fr (.lst (funL n fun t => enc (g t))), .fr (nI p.1), .fr (enc p.2)], [.fr (rowQ r), .fr (.lst (funL n fun t => enc (g t))), .fr (nI p.1), .fr (enc p.2)], rfl, rfl, ?_, rfl⟩
    generalize funL n (fun t => enc (g t)) = f1 at *
    generalize rowQ r = f2 at *
    generalize enc (p.2 * g p.1) = f3 at *
    generalize enc p.2 = f4 at *
    generalize enc (g p.1) = f5 at *
    generalize nI p.1 = f6 at *
    simp [ix, mu])
  rw [List.nil_append] at cm
  have el : (r.map fun p => enc (p.2 * g p.1)) = (r.map fun p : Nat × Rat => p.2 * g p.1).map enc := by rw [List.map_map]; rfl
  have b1 : (8 + B + 1) * ((r.map fun p : Nat × Rat => p.2 * g p.1).length + 1) ≤ 120000000 := by
    rw [List.length_map]
    have := Nat.mul_le_mul (show 8 + B + 1 ≤ 100009 by omega) (show r.length + 1 ≤ 25 by omega)
    omega
  have tot := total_eq (c := D.lst) (.inl rfl) (qs := r.map fun p => p.2 * g p.1) (B := 8 + B) b1 fun x hx => by
    obtain ⟨p, hp, rfl⟩ := List.mem_map.mp hx
    exact (hr.sz p hp).mul (hg p.1)
  rw [sumQ_exS, ← el] at tot
  generalize (r.map fun p => pD (toD p)) = f1 at *
  generalize (r.map fun p => enc (p.2 * g p.1)) = f2 at *
  generalize funL n (fun t => enc (g t)) = f3 at *
  generalize rowQ r = f4 at *
  simp [f_expected, g_expected, it, rl9, cm, tot]
theorem exS_sz' {n : Nat} {r : List (Nat × Rat)} (hr : ROk n r) (hn : n ≤ 24) {g : Nat → Rat} {B : Nat} (hg : ∀ t, Sz B (g t)) : Sz ((8 + B + 1) * 24 + 1) (exS r g) := by
  have rl := hr.len
  have := exS_sz (r := r) (g := g) (b := 8 + B) fun p hp => (hr.sz p hp).mul (hg p.1)
  exact this.mono (Nat.add_le_add_right (Nat.mul_le_mul_left _ (by omega)) _)
theorem rew_sz {n s : Nat} {rs : List Rat} {rows : List (List (Nat × Rat))} (g : GOk n rs rows) (hs : s < n) : Sz 110 (rs.getD s 0) := by
  rw [List.getD_eq_getElem?_getD, List.getElem?_eq_getElem (by rw [g.ls]; exact hs)]
  exact (g.rew _ (List.getElem_mem _)).1
theorem played_eq {n s : Nat} {rs : List Rat} {rows : List (List (Nat × Rat))} (g : GOk n rs rows) (hs : s < n) {b : Rat} (hb : BOk b) {f : Nat → Rat} {B : Nat} (hf : ∀ t, Sz B (f t)) (hB : B ≤ 100000) :
    f_played [gamD rs rows, nI s, .lst (funL n fun t => enc (f t)), enc b] = .ok (enc (rs.getD s 0 + b * exS (rows.getD s []) f)) := by
  have hr := g.at_ hs
  have n9 := g.n9
  have rsz := rew_sz g hs
  have ixs := ix_rows g.lr hs
  have ixw := ix_rews g.ls hs
  have ex := expected_eq hr n9 hf hB
  have xz := exS_sz' hr n9 hf
  generalize rows.getD s [] = r at *
  have mu := mul_eq (p := b) (q := exS r f) hb.sz xz (by omega)
  have ad := add_eq (p := rs.getD s 0) (q := b * exS r f) rsz (hb.sz.mul xz) (by omega)
  have u0 : ∀ env : En, γT 2 (γCons (γN 4) (γCons (γN 5) (γNil))) (gamD rs rows) env = some ((env.set 4 (.fr (.tup (rs.map enc)))).set 5 (.fr (.tup ((rowsD rows).map rowD)))) := fun env => rfl
  generalize enc (rs.getD s 0 + b * exS r f) = f1 at *
  generalize enc (b * exS r f) = f2 at *
  generalize enc (exS r f) = f3 at *
  generalize enc (rs.getD s 0) = f4 at *
  generalize enc b = f5 at *
  generalize rowQ r = f6 at *
  generalize (.tup ((rowsD rows).map rowD) : D) = f7 at *
  generalize (.tup (rs.map enc) : D) = f8 at *
  generalize gamD rs rows = f9 at *
  generalize funL n (fun t => enc (f t)) = f10 at *
  generalize nI s = f11 at *
  simp [f_played, g_played, u0, ixs, ixw, ex, mu, ad]
/-- the pair of a player who is outside -/
def outD : D := .tup [enc 0, enc 1]
theorem rep_fun {n : Nat} (hn : n ≤ 100) {d : D} : oRep (.lst [d]) (.int (n : Int)) = some (.l (funL n fun _ => d)) := by
  show (if _ then _ else _) = _
  rw [if_pos ⟨by simp, by omega, by omega⟩, Int.toNat_natCast, rep_one]
  rfl
theorem later_out {S : List Nat} {X : List (List Rat)} {t : Nat} (h : t ∉ S) : laterD S X t = outD := by
  unfold laterD gE gF outD
  rw [if_neg h, if_neg h]
theorem later_in {S : List Nat} {X : List (List Rat)} {t : Nat} (h : t ∈ S) : laterD S X t = .tup [enc (ent X (pos S t) 0), enc (ent X (pos S t) 1)] := by
  unfold laterD gE gF
  rw [if_pos h, if_pos h]
noncomputable def tabF (S : List Nat) (X : List (List Rat)) (i t : Nat) : D := if t ∈ S ∧ pos S t < i then laterD S X t else outD
theorem table_eq {S : List Nat} (asc : S.Pairwise (· < ·)) {b : Rat} {n : Nat} {rs : List Rat} {rows : List (List (Nat × Rat))} (g : GOk n rs rows) (hS : ∀ s ∈ S, s < n) {X : List (List Rat)} (h : XOk S X) (lv : f_leave_values [gamD rs rows, setD' S, enc b] = .ok (matD X)) :
    f_leave_table [gamD rs rows, setD' S, enc b] = .ok (.lst (funL n (laterD S X))) := by
  have nd := asc_nd asc
  have n9 := g.n9
  have Sl : S.length ≤ n := by
    have := nd.length_le_of_subset (l₂ := List.range n) fun x hx => List.mem_range.mpr (hS x hx)
    rwa [List.length_range] at this
  have lS : cLen [setD' S] = some (.d (.int (S.length : Int))) := by
    show some (Sv.d (D.int ((S.map nI).length : Nat))) = _
    rw [List.length_map]
  have lR : cLen [.tup (rs.map enc)] = some (.d (.int (n : Int))) := by
    show some (Sv.d (D.int ((rs.map enc).length : Nat))) = _
    rw [List.length_map, g.ls]
  have hsm : small (S.length : Int) = true := small_nat (by omega)
  have key := for_inv (γ := γN 5) (g := (mPut 3 (mD (mOp oIx (mPk 1) (mPk 5))) (mD (mOp oIx (mPk 4) (mPk 5))))) (all := Iv.upTo 0 S.length) (env := [.fr (gamD rs rows), .fr (setD' S), .fr (enc b), .ow (funL n fun _ => outD), .fr (matD X), .un, .fr (.tup (rs.map enc)), .fr (.tup ((rowsD rows).map rowD))])
    (fun i env => ∃ s5, env = [.fr (gamD rs rows), .fr (setD' S), .fr (enc b), .ow (funL n (tabF S X i)), .fr (matD X), s5, .fr (.tup (rs.map enc)), .fr (.tup ((rowsD rows).map rowD))]) ⟨.un, by
      have : funL n (tabF S X 0) = funL n fun _ => outD := funL_congr fun l _ => by
        unfold tabF
        rw [if_neg (fun z => absurd z.2 (Nat.not_lt_zero _))]
      rw [this]⟩ (by
      rintro i x env hx ⟨s5, rfl⟩
      have hi : i < S.length := by
        have := (List.getElem?_eq_some_iff.mp hx).1
        rwa [upTo_len] at this
      rw [upN, List.getElem?_map, List.getElem?_range hi] at hx
      cases hx
      have q1 := ix_S hi
      have q2 := ix_X h hi
      have hm := getD_mem hi
      have hl := hS _ hm
      have ixn := funL_ix (f := tabF S X i) hl
      have st := funL_set (f := tabF S X i) (d := .tup [enc (ent X i 0), enc (ent X i 1)]) hl
      have en : funL n (tabF S X (i + 1)) = funL n fun t => if t = S.getD i 0 then .tup [enc (ent X i 0), enc (ent X i 1)] else tabF S X i t := funL_congr fun t _ => by
        have pg := pos_getD nd hi
        by_cases e : t = S.getD i 0
        · rw [if_pos e, e]
          unfold tabF
          rw [if_pos ⟨hm, by omega⟩, later_in hm, pg]
        · rw [if_neg e]
          unfold tabF
          by_cases e2 : t ∈ S ∧ pos S t < i
          · rw [if_pos e2, if_pos ⟨e2.1, by omega⟩]
          · rw [if_neg e2, if_neg]
            rintro ⟨z1, z2⟩
            have : pos S t = i := by
              by_cases z3 : pos S t < i
              · exact absurd ⟨z1, z3⟩ e2
              · omega
            exact e (by rw [← this, getD_pos z1])
      refine ⟨_, [.fr (gamD rs rows), .fr (setD' S), .fr (enc b), .ow (funL n (tabF S X (i + 1))), .fr (matD X), .fr (nI i), .fr (.tup (rs.map enc)), .fr (.tup ((rowsD rows).map rowD))], rfl, ?_, _, rfl⟩
      rw [en, ← st]
      have np : nI (S.getD i 0) = .int ((S.getD i 0 : Nat) : Int) := rfl
      rw [np] at q1
      show (mPut _ _ _) [.fr (gamD rs rows), .fr (setD' S), .fr (enc b), .ow (funL n (tabF S X i)), .fr (matD X), .fr (nI i), .fr (.tup (rs.map enc)), .fr (.tup ((rowsD rows).map rowD))] = _
      generalize funL n (tabF S X i) = f1 at *
      generalize (D.tup [enc (ent X i 0), enc (ent X i 1)]) = pr at *
      generalize (.tup ((rowsD rows).map rowD) : D) = f7 at *
      generalize (.tup (rs.map enc) : D) = f8 at *
      generalize gamD rs rows = f15 at *
      generalize setD' S = f14 at *
      generalize matD X = f13 at *
      generalize enc b = f12 at *
      generalize nI i = f11 at *
      generalize S.getD i 0 = f10 at *
      simp [q1, q2, ixn])
  obtain ⟨env', k1, s5, rfl⟩ := key
  rw [upTo_len] at k1
  have fin : funL n (tabF S X S.length) = funL n (laterD S X) := funL_congr fun t _ => by
    unfold tabF
    by_cases e : t ∈ S
    · rw [if_pos ⟨e, pos_lt e⟩]
    · rw [if_neg (fun z => e z.1), later_out e]
  rw [fin] at k1
  have rp := rep_fun (n := n) (d := outD) (by omega)
  have od : outD = .tup [.tup [.int 0, .int 1], .tup [.int 1, .int 1]] := rfl
  have u0 : ∀ env : En, γT 2 (γCons (γN 6) (γCons (γN 7) (γNil))) (gamD rs rows) env = some ((env.set 6 (.fr (.tup (rs.map enc)))).set 7 (.fr (.tup ((rowsD rows).map rowD)))) := fun env => rfl
  rw [od] at rp
  generalize hf0 : funL n (fun _ => outD) = f0 at *
  rw [od] at hf0
  rw [hf0] at rp
  generalize funL n (laterD S X) = f1 at *
  generalize (.tup ((rowsD rows).map rowD) : D) = f7 at *
  generalize (.tup (rs.map enc) : D) = f8 at *
  generalize gamD rs rows = f15 at *
  generalize setD' S = f14 at *
  generalize matD X = f13 at *
  generalize enc b = f12 at *
  simp [f_leave_table, g_leave_table, u0, lR, rp, lv, lS, hsm, k1]
theorem by_eq {S : List Nat} {b : Rat} (hb : BOk b) {n s : Nat} {rs : List Rat} {rows : List (List (Nat × Rat))} (g : GOk n rs rows) (hs : s < n) {X : List (List Rat)} (h : XOk S X) :
    f_excursion_by [gamD rs rows, nI s, .lst (funL n (laterD S X)), enc b] = .ok (.tup [enc (rs.getD s 0 + b * exS (rows.getD s []) (gE S X)), enc (b * exS (rows.getD s []) (gF S X))]) := by
  have n9 := g.n9
  have hr := g.at_ hs
  have BXv : BX = 8881 := rfl
  have pl := played_eq g hs hb (f := gE S X) (gE_sz h) (by omega)
  have ex := expected_eq hr n9 (g := gF S X) (gF_sz h) (by omega)
  have xz : Sz 213361 (exS (rows.getD s []) (gF S X)) := (exS_sz' hr n9 (gF_sz h)).mono (by decide)
  have mu := mul_eq (p := b) (q := exS (rows.getD s []) (gF S X)) hb.sz xz (by omega)
  have ixm : oIx (gamD rs rows) (.int 1) = some (.d (.tup ((rowsD rows).map rowD))) := rfl
  have ixs := ix_rows g.lr hs
  have l9 : (funL n (laterD S X)).length ≤ 90000 := by rw [funL_len]; omega
  have c1 : ∀ s4 s5, compL [6] (γN 6) mYes (mD (mOp oIx (mPk 6) (mD (mC (.int 0))))) (funL n (laterD S X)) [] [.fr (gamD rs rows), .fr (nI s), .fr (.lst (funL n (laterD S X))), .fr (enc b), s4, s5, .un] = .ok (funL n fun t => enc (gE S X t)) [.fr (gamD rs rows), .fr (nI s), .fr (.lst (funL n (laterD S X))), .fr (enc b), s4, s5, .un] := fun s4 s5 => by
    have := compL_map (enc := laterD S X) (vs := [6]) (γ := γN 6) (cond := mYes) (elt := mD (mOp oIx (mPk 6) (mD (mC (.int 0))))) (env := [.fr (gamD rs rows), .fr (nI s), .fr (.lst (funL n (laterD S X))), .fr (enc b), s4, s5, .un]) (h := fun t => enc (gE S X t)) (xs := List.range n) (acc := []) (fun t ht => by
      refine ⟨[.fr (gamD rs rows), .fr (nI s), .fr (.lst (funL n (laterD S X))), .fr (enc b), s4, s5, .fr (laterD S X t)], _, [.fr (gamD rs rows), .fr (nI s), .fr (.lst (funL n (laterD S X))), .fr (enc b), s4, s5, .fr (laterD S X t)], rfl, rfl, ?_, rfl⟩
      have k2 : oIx (laterD S X t) (.int 0) = some (.d (enc (gE S X t))) := rfl
      generalize laterD S X t = f1 at *
      generalize enc (gE S X t) = f2 at *
      simp [k2])
    rw [List.nil_append] at this
    exact this
  have c2 : ∀ s4 s5, compL [6] (γN 6) mYes (mD (mOp oIx (mPk 6) (mD (mC (.int 1))))) (funL n (laterD S X)) [] [.fr (gamD rs rows), .fr (nI s), .fr (.lst (funL n (laterD S X))), .fr (enc b), s4, s5, .un] = .ok (funL n fun t => enc (gF S X t)) [.fr (gamD rs rows), .fr (nI s), .fr (.lst (funL n (laterD S X))), .fr (enc b), s4, s5, .un] := fun s4 s5 => by
    have := compL_map (enc := laterD S X) (vs := [6]) (γ := γN 6) (cond := mYes) (elt := mD (mOp oIx (mPk 6) (mD (mC (.int 1))))) (env := [.fr (gamD rs rows), .fr (nI s), .fr (.lst (funL n (laterD S X))), .fr (enc b), s4, s5, .un]) (h := fun t => enc (gF S X t)) (xs := List.range n) (acc := []) (fun t ht => by
      refine ⟨[.fr (gamD rs rows), .fr (nI s), .fr (.lst (funL n (laterD S X))), .fr (enc b), s4, s5, .fr (laterD S X t)], _, [.fr (gamD rs rows), .fr (nI s), .fr (.lst (funL n (laterD S X))), .fr (enc b), s4, s5, .fr (laterD S X t)], rfl, rfl, ?_, rfl⟩
      have k2 : oIx (laterD S X t) (.int 1) = some (.d (enc (gF S X t))) := rfl
      generalize laterD S X t = f1 at *
      generalize enc (gF S X t) = f2 at *
      simp [k2])
    rw [List.nil_append] at this
    exact this
  generalize rows.getD s [] = r at *
  generalize enc (rs.getD s 0 + b * exS r (gE S X)) = f1 at *
  generalize enc (b * exS r (gF S X)) = f2 at *
  generalize enc (exS r (gF S X)) = f3 at *
  generalize funL n (fun t => enc (gE S X t)) = f4 at *
  generalize funL n (fun t => enc (gF S X t)) = f5 at *
  generalize funL n (laterD S X) = f6 at *
  generalize rowQ r = f7 at *
  generalize (.tup ((rowsD rows).map rowD) : D) = f8 at *
  generalize gamD rs rows = f15 at *
  generalize enc b = f12 at *
  generalize nI s = f11 at *
  simp [f_excursion_by, g_excursion_by, l9, c1, c2, pl, ex, mu, ixm, ixs]
theorem excursion_eq {S : List Nat} (asc : S.Pairwise (· < ·)) {b : Rat} (hb : BOk b) {n s : Nat} {rs : List Rat} {rows : List (List (Nat × Rat))} (g : GOk n rs rows) (hS : ∀ s ∈ S, s < n) (hs : s < n) {X : List (List Rat)} (h : XOk S X) (lv : f_leave_values [gamD rs rows, setD' S, enc b] = .ok (matD X)) :
    f_excursion [gamD rs rows, nI s, setD' S, enc b] = .ok (.tup [enc (rs.getD s 0 + b * exS (rows.getD s []) (gE S X)), enc (b * exS (rows.getD s []) (gF S X))]) := by
  have t1 := table_eq asc g hS h lv
  have t2 := by_eq hb g hs h
  generalize enc (rs.getD s 0 + b * exS (rows.getD s []) (gE S X)) = f1 at *
  generalize enc (b * exS (rows.getD s []) (gF S X)) = f2 at *
  generalize funL n (laterD S X) = f6 at *
  generalize gamD rs rows = f15 at *
  generalize setD' S = f14 at *
  generalize enc b = f12 at *
  generalize nI s = f11 at *
  simp [f_excursion, g_excursion, t1, t2]
end Law

set_option Elab.async false
set_option linter.all false
set_option maxRecDepth 100000
/-! A comprehension over an own list, which stays own. -/
namespace Iv
open PySem PySem.Spec PyProof.Rows L2 Evl
section
variable {X : Cx} {S : Xs} {W : WX} {e a b c : Expr} {es rest : List Expr} {pos : Pos} {σ : L2.St} {H : Hp}
def YlP (K : PySem.W.Frag) (G GH : Hp) (items : List D) (J : It) : Prop := ∀ (i : Nat) (F H : Hp), Ex G F → Ex GH H → Ex F H → (∀ d, items[i]? = some d → J.go i H ∧ ∀ x H', J.yld i H x H' → ∃ F', New F H F' H' ∧ R K F' d x) ∧ (i = items.length → J.stop i H)
def TYP (K : PySem.W.Frag) : RT (List D) It := fun _ F H _ items J => YlP K F H items J
instance {K : PySem.W.Frag} : Anti (TYP K) := ⟨fun _ h => h⟩
def PYP (X : Cx) (S : Xs) (W : WX) (tg it : Expr) (f : M (List D)) : Prop := PI X tg it (rd X.K S W (TYP X.K) f)
theorem Yl.peek {K : PySem.W.Frag} {G GH : Hp} {l : List D} {J : It} (h : Yl K G l J) : YlP K G GH l J := fun i F H e1 _ e3 => h i F H e1 e3
theorem YlP.own {K : PySem.W.Frag} {G GH : Hp} {l : List D} {a : Addr} {vs : List V} (h : SqL K GH a vs) (r : Rs K G l vs) : YlP K G GH l (Itl K a) := fun i F H e1 e2 e3 => by
  have hs := ex_l e2 h
  refine ⟨fun d hd => ?_, fun z => ⟨vs, hs, by rw [z, r.length]; exact Nat.le_refl _⟩⟩
  obtain ⟨v, q1, q2⟩ := r.get' hd
  refine ⟨⟨vs, v, hs, q1⟩, fun x H' y => ⟨F, by rw [y.1]; exact New.refl e3, ?_⟩⟩
  have := y.2 vs hs
  rw [q1] at this
  cases this
  exact q2.mono e1
theorem py_seqP {tg : Expr} {f : M D} (h : PP X S W e f) : PYP X S W tg e (mIt f) := PI.imp (PI.or (pi_list h) (pi_tup h)) fun σ H R ⟨F, env, rel, q⟩ => by
  unfold mIt at q
  cases hf : f env with
  | bad => rw [hf] at q; exact q.elim
  | ex c x env1 =>
    rw [hf] at q
    exact .inl ⟨F, env, rel, by rw [hf]; exact q⟩
  | ok d env1 =>
    rw [hf] at q
    have q : okG X.K S W σ (TYP X.K) F H env R (match itemsOf d with | some l => Res.ok l env1 | none => .bad) := q
    cases d with
    | lst l =>
      refine .inl ⟨F, env, rel, ?_⟩
      rw [hf]
      intro v F1 H1 g rel1 rv
      have rv : RP X.K F1 H1 (.lst l) v := rv
      rcases rv with rv | ⟨ds, p, vs, z1, z2, z3, z4⟩ | ⟨_, _, _, _, z, _⟩
      · simp only [Iv.R] at rv
        obtain ⟨p, vs, e1, e2, e3⟩ := rv
        exact ⟨p, e1, ⟨vs, sq_of (rel1.ex p _ e2)⟩, q _ F1 H1 g rel1 (Yl.lst (sq_of e2) e3).peek⟩
      · cases z1
        exact ⟨p, z2, ⟨vs, sq_of z3⟩, q _ F1 H1 g rel1 (YlP.own (sq_of z3) z4)⟩
      · cases z
    | scr l =>
      refine .inl ⟨F, env, rel, ?_⟩
      rw [hf]
      intro v F1 H1 g rel1 rv
      have rv : RP X.K F1 H1 (.scr l) v := rv
      rcases rv with rv | ⟨_, _, _, z, _⟩ | ⟨_, _, _, _, z, _⟩
      · simp only [Iv.R] at rv
        obtain ⟨p, e1, e2⟩ := rv
        exact ⟨p, e1, ⟨_, ex_l rel1.ex e2⟩, q _ F1 H1 g rel1 (Yl.lst e2 (Rs.of_map (fun _ => Ri) _)).peek⟩
      · cases z
      · cases z
    | tup l =>
      refine .inr ⟨F, env, rel, ?_⟩
      rw [hf]
      intro v F1 H1 g rel1 rv
      have rv : RP X.K F1 H1 (.tup l) v := rv
      rcases rv with rv | ⟨_, _, _, z, _⟩ | ⟨_, _, _, _, z, _⟩
      · simp only [Iv.R] at rv
        obtain ⟨p, vs, e1, e2, e3⟩ := rv
        exact ⟨p, e1, ⟨vs, st_of (rel1.ex p _ e2)⟩, q _ F1 H1 g rel1 (Yl.tup (st_of e2) e3).peek⟩
      · cases z
      · cases z
    | _ => exact q.elim
theorem rd_lcP {wi : TI} {g : TG} {tt : TT} {te : TE} {vs js : List Nat} {γ : D → En → Option En} {src : M (List D)} {cond : M Bool} {elt : M D} {K : PySem.W.Frag} {Q : VK} (hj : ∀ i ∈ js, i ∈ vs)
    (hw : ∀ σ H R, rd K S W (TYP K) src σ H R → wi σ H R)
    (hg : ∀ v σ H Q, rG K js γ v σ H Q → g v σ H Q)
    (ht : ∀ σ H Q, rd K S W0 TB cond σ H Q → tt σ H Q) (he : ∀ σ H Q, rd K S W0 (TF K) elt σ H Q → te σ H Q)
    (q : rd K S W (TV K) (mLc vs γ src cond elt) σ H Q) : tLc wi g tt te vs σ H Q := by
  obtain ⟨F, ef, q⟩ := rd_bind (T := TYP K) q
  refine hw σ H _ (rd_imp q fun J H1 ⟨F1, env1, items, g1, g2, rel1, yl, q⟩ => ?_)
  have yl : YlP K F1 H1 items J := yl
  dsimp only at q
  by_cases hlen : items.length ≤ 90000
  case neg => rw [if_neg hlen] at q; exact q.elim
  rw [if_pos hlen] at q
  cases hr : compL vs γ cond elt items [] (wipeE env1 vs) with
  | bad => rw [hr] at q; exact q.elim
  | ex c x e2 => rw [hr] at q; exact q.elim
  | ok accF env2 =>
    rw [hr] at q
    have q : ∀ b F' H', Gr σ env1 F1 H1 env2 F' H' → Rel K F' H' σ env2 → RV K H1 F' H' (.l accF) b → Q b H' := q
    intro Dl hD
    have hDF : F1 Dl = none := fresh_back rel1.ex hD
    have nD0 : ∀ a, Owned σ env1 a → a ≠ Dl := fun a h z => (rel1.owned h).2 (by rw [z]; exact hD)
    refine ⟨fun i m H' => m = items.length - i ∧ i ≤ items.length ∧ ∃ F' env acc va, Ex F1 F' ∧ Ex H1 H' ∧ Rel K F' H' (wipe σ vs) env ∧ H' Dl = some (.lst va) ∧ Rs K F' acc va ∧ F' Dl = none ∧ acc.length ≤ i ∧
        (∀ a, Owned (wipe σ vs) env a → Owned σ env1 a) ∧ (∀ a, H1 a ≠ none → F1 a = none → ¬ Owned σ env1 a → F' a = none) ∧ compL vs γ cond elt (items.drop i) acc env = .ok accF env2 ∧ wipeE env vs = env,
      ⟨items.length, by simp, Nat.zero_le _, F1, wipeE env1 vs, [], [], Ex.refl _, Ex.new hD, ?_, upd_same, Rs.nil, hDF, Nat.le_refl _, fun a h => owned_wipe h, fun _ _ h _ => h, hr, ?_⟩, ?_⟩
    · exact (rel1.wipe vs).grow (Ex.refl _) (Ex.new hD) (fun a u e => by rw [upd_ne (ne_of_none (rel1.ex a u e) hD)]; exact rel1.ex a u e) fun a h => (rel1.owned (owned_wipe h)).1
    · exact wipeE_idem
    · rintro i m H' ⟨rfl, hi, F', env, acc, va, x1, x2, rel, hDl, ra, fD, hacc, own, keep, hc, hwe⟩
      have nD : ∀ a, Owned (wipe σ vs) env a → a ≠ Dl := fun a h => nD0 a (own a h)
      by_cases hlt : i < items.length
      · refine .inr ?_
        have hget : items[i]? = some items[i] := List.getElem?_eq_getElem hlt
        obtain ⟨hgo, hy⟩ := (yl i F' H' x1 x2 rel.ex).1 _ hget
        have hdrop : items.drop i = items[i] :: items.drop (i + 1) := List.drop_eq_getElem_cons hlt
        rw [hdrop] at hc
        unfold compL at hc
        refine ⟨hgo, fun H2 => ∃ m', m' < items.length - i ∧ m' = items.length - (i + 1) ∧ i + 1 ≤ items.length ∧ ∃ F' env acc va, Ex F1 F' ∧ Ex H1 H2 ∧ Rel K F' H2 (wipe σ vs) env ∧ H2 Dl = some (.lst va) ∧ Rs K F' acc va ∧ F' Dl = none ∧ acc.length ≤ i + 1 ∧
          (∀ a, Owned (wipe σ vs) env a → Owned σ env1 a) ∧ (∀ a, H1 a ≠ none → F1 a = none → ¬ Owned σ env1 a → F' a = none) ∧ compL vs γ cond elt (items.drop (i + 1)) acc env = .ok accF env2 ∧ wipeE env vs = env, fun H2 h => ?_, fun x H2 y => ?_⟩
        · obtain ⟨m', h1, h2, h3⟩ := h
          exact ⟨m', h1, h2, h3⟩
        obtain ⟨F'', nw, rx⟩ := hy x H2 y
        obtain ⟨gw, rel⟩ := nw.gr rel
        have x1 := x1.trans nw.f
        have x2_ := x2
        have x2 := x2.trans nw.h
        have hDl0 := hDl
        have hDl := nw.h Dl _ hDl
        have ra := ra.mono nw.f
        have fD := nw.keep Dl (by rw [hDl0]; exact fun z => nomatch z) fD
        have keep : ∀ a, H1 a ≠ none → F1 a = none → ¬ Owned σ env1 a → F'' a = none := fun a h1 h2 h3 => nw.keep a (Ex.some x2_ h1) (keep a h1 h2 h3)
        cases hγ : γ items[i] env with
        | none => rw [hγ] at hc; cases hc
        | some envx =>
          rw [hγ] at hc
          dsimp only at hc
          refine hg x _ H2 _ ⟨F'', env, items[i], rel, rx, envx, hγ, fun σ2 rel2 o2 l2 k2 => ?_⟩
          have hws : wipe σ2 vs = wipe σ vs := (wipe_same l2 fun i hi => k2 i fun z => hi (hj i z)).trans wipe_wipe
          refine ⟨hws, ht σ2 H2 _ ⟨F'', envx, rel2, ?_⟩⟩
          cases hcd : cond envx with
          | bad => rw [hcd] at hc; cases hc
          | ex c x e => rw [hcd] at hc; cases hc
          | ok b envy =>
            rw [hcd] at hc
            intro b' F3 H3 gr3 rel3 eb
            have eb : b = b' := eb
            subst eb
            have fD3 : F3 Dl = none := gr3.keep Dl (by rw [hDl]; exact fun z => nomatch z) fD fun z => nD Dl (o2 Dl z) rfl
            have keep3 : ∀ a, H1 a ≠ none → F1 a = none → ¬ Owned σ env1 a → F3 a = none := fun a h1 h2 h3 => gr3.keep a (Ex.some x2 h1) (keep a h1 h2 h3) fun z => h3 (own a (o2 a z))
            cases b with
            | false =>
              have hc : compL vs γ cond elt (items.drop (i + 1)) acc (wipeE envy vs) = .ok accF env2 := hc
              show ∃ m', _
              refine ⟨_, by omega, rfl, hlt, F3, wipeE envy vs, acc, va, x1.trans gr3.f, x2.trans gr3.h, ?_, gr3.h Dl _ hDl, ra.mono gr3.f, fD3, by omega, fun a h => ?_, keep3, hc, ?_⟩
              · rw [← hws]; exact rel3.wipe vs
              · rw [← hws] at h
                exact own a (o2 a (gr3.own a (owned_wipe h)))
              · exact wipeE_idem
            | true =>
              dsimp only at hc
              refine he σ2 H3 _ ⟨F3, envy, rel3, ?_⟩
              cases hel : elt envy with
              | bad => rw [hel] at hc; cases hc
              | ex c x e => rw [hel] at hc; cases hc
              | ok d envz =>
                rw [hel] at hc
                have hc : compL vs γ cond elt (items.drop (i + 1)) (acc ++ [d]) (wipeE envz vs) = .ok accF env2 := hc
                intro y F4 H4 gr4 rel4 ry
                have ry : R K F4 d y := ry
                have fD4 : F4 Dl = none := gr4.keep Dl (Ex.some gr3.h (by rw [hDl]; exact fun z => nomatch z)) fD3 fun z => nD Dl (o2 Dl (gr3.own Dl z)) rfl
                have hD4 : H4 Dl = some (.lst va) := gr4.h Dl _ (gr3.h Dl _ hDl)
                refine ⟨va, hD4, sz_lt (by have := ra.length; omega), ?_⟩
                refine ⟨_, by omega, rfl, hlt, F4, wipeE envz vs, acc ++ [d], va ++ [y], (x1.trans gr3.f).trans gr4.f, Ex.mut ((x2.trans gr3.h).trans gr4.h) hD, ?_, upd_same, (ra.mono (gr3.f.trans gr4.f)).append (Rs.cons ry Rs.nil), fD4, by rw [List.length_append]; show acc.length + 1 ≤ i + 1; omega, fun a h => ?_, fun a h1 h2 h3 => ?_, hc, ?_⟩
                · have r5 : Rel K F4 H4 (wipe σ vs) (wipeE envz vs) := by rw [← hws]; exact rel4.wipe vs
                  refine ⟨r5.len, Ex.mut r5.ex fD4, fun j s e => ?_, r5.dis⟩
                  obtain ⟨o, p1, p2⟩ := r5.at_ j s e
                  refine ⟨o, p1, ?_⟩
                  have ne : ∀ a, s.own = true → o = some (.ref a) → a ≠ Dl := fun a hs ho => by
                    have hO : Owned (wipe σ vs) (wipeE envz vs) a := ⟨j, s, e, hs, by rw [p1, ho]⟩
                    rw [← hws] at hO
                    exact nD a (o2 a (gr3.own a (gr4.own a (owned_wipe hO))))
                  cases s with
                  | un => trivial
                  | xo a => exact p2
                  | fr d => exact p2
                  | ow l => obtain ⟨p, ws, z1, z2, z3, z4⟩ := p2; exact ⟨p, ws, z1, z2, by rw [upd_ne (ne p rfl z1)]; exact z3, z4⟩
                  | od ks ds => obtain ⟨p, ws, z1, z2, z3, z4⟩ := p2; exact ⟨p, ws, z1, z2, by rw [upd_ne (ne p rfl z1)]; exact z3, z4⟩
                · rw [← hws] at h
                  exact own a (o2 a (gr3.own a (gr4.own a (owned_wipe h))))
                · exact gr4.keep a (Ex.some gr3.h (Ex.some x2 h1)) (keep3 a h1 h2 h3) fun z => h3 (own a (o2 a (gr3.own a z)))
                · exact wipeE_idem
      · have e : i = items.length := by omega
        subst e
        rw [List.drop_length] at hc
        have hc : (Res.ok acc env : Res (List D)) = .ok accF env2 := hc
        cases hc
        refine .inl ⟨(yl _ F' H' x1 x2 rel.ex).2 rfl, q _ F' H' ⟨x1, x2, fun a h => ?_, keep⟩ ?_ ⟨Dl, va, rfl, hD, fD, hDl, ra⟩⟩
        · obtain ⟨j, s, z1, z2, z3⟩ := h
          have hj : j ∉ vs := fun z => by
            rw [wipeE_un hwe z z1] at z2
            cases z2
          exact own a ⟨j, s, z1, z2, by rw [wipe_out hj]; exact z3⟩
        · refine ⟨by rw [rel.len, wipe_len], rel.ex, fun j s z => ?_, fun a b s t c p1 p2 o1 o2 v1 v2 => ?_⟩
          · by_cases hj : j ∈ vs
            · rw [wipeE_un hwe hj z]
              have hl := (List.getElem?_eq_some_iff.mp z).1
              rw [rel.len, wipe_len] at hl
              exact ⟨_, List.getElem?_eq_getElem hl, True.intro⟩
            · obtain ⟨o, y1, y2⟩ := rel.at_ j s z
              rw [wipe_out hj] at y1
              exact ⟨o, y1, y2⟩
          · have ha : a ∉ vs := fun z => by
              rw [wipeE_un hwe z p1] at o1
              cases o1
            have hb : b ∉ vs := fun z => by
              rw [wipeE_un hwe z p2] at o2
              cases o2
            exact rel.dis a b s t c p1 p2 o1 o2 (by rw [wipe_out ha]; exact v1) (by rw [wipe_out hb]; exact v2)
/-- [elt for tg in src if cond] -/
theorem pd_lcP {elt tg iter : Expr} {ifs : List Expr} {scope : Scope} {own : List (Str × Nat)} {js : List Nat} {γ : D → En → Option En} {src : M (List D)} {cond : M Bool} {fe : M D} (hc : X.calm = true) (hN : X.N.Nodup) (hi : PYP X S W tg iter src) (ok : BlkOk X.N X.env.scope scope own) (hj : ∀ i ∈ js, i ∈ own.map (·.2))
    (hg : ∀ (s : Shared) (H : Hp) (C : Addr) (cl : List (Str × Addr)) (fp : List Addr), PGd (X.blk s H scope (compEnvC scope cl C X.env) fp) tg js γ)
    (ht : ∀ (s : Shared) (H : Hp) (C : Addr) (cl : List (Str × Addr)) (fp : List Addr), PTs (X.blk s H scope (compEnvC scope cl C X.env) fp) ifs (rd X.K S W0 TB cond))
    (he : ∀ (s : Shared) (H : Hp) (C : Addr) (cl : List (Str × Addr)) (fp : List Addr), PF (X.blk s H scope (compEnvC scope cl C X.env) fp) S W0 elt fe) (hs : ∀ x, foldedSetIterable iter X.env x = pure x := by intro _; rfl) :
    PD X S W (.ListComp elt [⟨tg, iter, ifs, 0⟩] scope pos) (mLc (own.map (·.2)) γ src cond fe) :=
  PE.imp (pe_lc (g := rG X.K js γ) (tt := rd X.K S W0 TB cond) (te := rd X.K S W0 (TF X.K) fe) hc hN hi ok hg ht he hs) fun σ H Q q => rd_lcP hj (fun _ _ _ h => h) (fun _ _ _ _ h => h) (fun _ _ _ h => h) (fun _ _ _ h => h) q
/-- t + u, whatever they hold -/
def oCat : D → D → Option Sv
  | .tup a, .tup b => if a.length + b.length ≤ 100000 then some (.d (.tup (a ++ b))) else none
  | _, _ => none
theorem os_cat {K : PySem.W.Frag} : OpS K (rCatA K) oCat := fun F H x y dx dy sv ef rx ry ho Q q => by
  unfold oCat at ho
  split at ho
  · rename_i a b
    split at ho
    · rename_i hl
      cases ho
      obtain ⟨p, vs, e1, e2, e3⟩ := rx.tup
      obtain ⟨p', vs', k1, k2, k3⟩ := ry.tup
      refine ⟨p, p', vs, vs', e1, k1, st_of (ef p _ e2), st_of (ef p' _ k2), sz_of (by rw [e3.length, k3.length]; exact hl), fun z => ?_, fun _ z => ?_, fun _ _ l hl => ?_⟩
      · subst z
        have ha : a = [] := List.length_eq_zero_iff.mp e3.length.symm
        subst ha
        exact q _ F H (New.refl ef) (RVd (by simp only [R]; exact ⟨p', vs', rfl, k2, k3⟩))
      · subst z
        have hb : b = [] := List.length_eq_zero_iff.mp k3.length.symm
        subst hb
        rw [List.append_nil] at q
        exact q _ F H (New.refl ef) (RVd (by simp only [R]; exact ⟨p, vs, rfl, e2, e3⟩))
      · have n := New.data (o := .tup (vs ++ vs')) ef hl
        exact q _ _ _ n (RVd (by simp only [R]; exact ⟨l, _, rfl, upd_same, (e3.append k3).mono n.f⟩))
    · cases ho
  · cases ho
@[simp] theorem oCat_eq {a b : List D} : oCat (.tup a) (.tup b) = if a.length + b.length ≤ 100000 then some (.d (.tup (a ++ b))) else none := rfl
end
end Iv

set_option Elab.async false
set_option linter.all false
set_option maxRecDepth 100000
set_option maxHeartbeats 4000000
/-! Singular systems: solve answers a dependency. -/
namespace Law
open PySem PySem.Spec PyProof.Rows L2 Evl Iv
open Dt
theorem sumN_swap {f : Nat → Nat → Rat} {m : Nat} : ∀ {n : Nat}, sumN n (fun i => sumN m (fun l => f i l)) = sumN m (fun l => sumN n (fun i => f i l))
  | 0 => (sumN_zero fun l _ => rfl).symm
  | n + 1 => by
    show sumN n (fun i => sumN m (fun l => f i l)) + sumN m (fun l => f n l) = sumN m (fun l => sumN n (fun i => f i l) + f n l)
    rw [sumN_add, sumN_swap]
end Law
namespace Dt
open Law
theorem Gs.inj {M m n : Nat} {vs : List Vec} {hs ts : List (Vec × Vec × List Int)} {s : Int} (g : Gs M m n vs hs ts s) (he : hs.length = n) {z : Nat → Rat} (h : ∀ v ∈ vs, sumN n (fun l => z l * v l) = 0) : ∀ l, l < n → z l = 0 := fun i hi => by
  have sr : (s : Rat) ≠ 0 := g.st.ne
  have ev : ∀ r : Vec, ap ((List.range n).map fun l => (z l, l)) r = sumN n fun l => z l * r l := fun r => ap_range
  have k := g.st.a5 ((List.range n).map fun l => (z l, l)) (fun r hr => by
    obtain ⟨q, hq, rfl⟩ := List.mem_map.mp hr
    rw [ev]
    exact h _ ((g.vs _).mpr ⟨q, .inl hq, rfl⟩)) (fun q hq => by
    obtain ⟨p, hp, rfl⟩ := List.mem_map.mp hq
    rw [ev]
    exact h _ ((g.vs _).mpr ⟨p, .inr hp, rfl⟩))
  have hi' : i < hs.length := by omega
  have e := k.1 hs[i].1 (List.mem_map.mpr ⟨_, List.getElem_mem hi', rfl⟩)
  rw [ev, sumN_one hi fun l hl hne => by rw [g.unit (List.getElem?_eq_getElem hi') (by omega), if_neg (fun z => hne z.symm), Rat.mul_zero], g.unit (List.getElem?_eq_getElem hi') hi', if_pos rfl] at e
  exact (Rat.mul_eq_zero.mp e).resolve_right sr
end Dt
namespace Law
open PySem PySem.Spec PyProof.Rows L2 Evl Iv
open Dt
def trM (n : Nat) (A : List (List Rat)) : List (List Rat) := (List.range n).map fun k => A.map fun r => r.getD k 0
theorem trM_get {n k : Nat} {A : List (List Rat)} (h : k < n) : (trM n A).getD k [] = A.map fun r => r.getD k 0 := by
  unfold trM
  rw [List.getD_eq_getElem?_getD, List.getElem?_map, List.getElem?_range h]
  rfl
theorem col_get {k l : Nat} {A : List (List Rat)} (h : l < A.length) : (A.map fun r => r.getD k 0).getD l 0 = ent A l k := by
  unfold ent
  rw [List.getD_eq_getElem?_getD, List.getElem?_map, List.getD_eq_getElem?_getD (l := A), List.getElem?_eq_getElem h]
  rfl
/-- the unit matrix -/
def idM (n : Nat) : List (List Rat) := (List.range n).map fun i => (List.range n).map fun l => if i = l then 1 else 0
theorem idM_get {n i : Nat} (h : i < n) : (idM n).getD i [] = (List.range n).map fun l => if i = l then 1 else 0 := by
  unfold idM
  rw [List.getD_eq_getElem?_getD, List.getElem?_map, List.getElem?_range h]
  rfl
theorem ent_id {n i l : Nat} (h : i < n) (hl : l < n) : ent (idM n) i l = if i = l then 1 else 0 := by
  unfold ent
  rw [idM_get h, List.getD_eq_getElem?_getD, List.getElem?_map, List.getElem?_range hl]
  rfl
theorem lcm_ones {r : List Rat} : ∀ {e : List Rat} {a : Nat}, (∀ q ∈ e, q.den = 1) → e.foldl (fun a q => Nat.lcm a q.den) a = a
  | [], a, _ => rfl
  | q :: e, a, h => by
    rw [List.foldl_cons, h q List.mem_cons_self, Nat.lcm_one_right]
    exact lcm_ones (r := r) fun p hp => h p (List.mem_cons_of_mem _ hp)
theorem sys_id {n k b : Nat} {A B : List (List Rat)} (h : Sys n k b A B) (b1 : 1 ≤ b) : Sys n n b A (idM n) where
  lA := h.lA
  lB := by unfold idM; rw [List.length_map, List.length_range]
  wA := h.wA
  wB := fun r hr => by
    obtain ⟨i, hi, rfl⟩ := List.mem_map.mp hr
    rw [List.length_map, List.length_range]
  sz := fun i hi q hq => by
    rcases List.mem_append.mp hq with hq | hq
    · exact h.sz i hi q (List.mem_append.mpr (.inl hq))
    · rw [idM_get hi] at hq
      obtain ⟨l, hl, rfl⟩ := List.mem_map.mp hq
      exact (dl_sz (i := i) (l := l)).mono b1
  lc := fun i hi => by
    have e : lcmQ (A.getD i [] ++ (idM n).getD i []) = lcmQ (A.getD i []) := by
      unfold lcmQ
      rw [List.foldl_append]
      exact lcm_ones (r := []) fun q hq => by
        rw [idM_get hi] at hq
        obtain ⟨l, hl, rfl⟩ := List.mem_map.mp hq
        split <;> rfl
    have f := lcm_take (A.getD i [] ++ B.getD i []) (A.getD i []).length
    rw [List.take_left] at f
    have := h.lc i hi
    rw [e]
    unfold lcmQ at *
    omega
  n9 := h.n9
  k9 := by have := h.n9; omega
  b9 := h.b9
  bb := h.bb
/-- a dependency of the rows forbids that no column vector is sent to zero -/
theorem dep_reg {n k b : Nat} {A B : List (List Rat)} (h : Sys n k b A B) (b1 : 1 ≤ b) {y : Nat → Rat} (hy : ∀ j, j < n → sumN n (fun i => y i * ent A i j) = 0) (hr : Reg n A) : ∀ i, i < n → y i = 0 := fun j hj => by
  obtain ⟨X, _, _, _, _, hX⟩ := solve_reg (sys_id h b1) hr
  have e : sumN n (fun i => y i * sumN n (fun l => ent A i l * ent X l j)) = y j := by
    rw [sumN_one hj fun i hi hne => by rw [hX i hi j hj, ent_id hi hj, if_neg hne, Rat.mul_zero], hX j hj j hj, ent_id hj hj, if_pos rfl, Rat.mul_one]
  have e2 : sumN n (fun i => y i * sumN n (fun l => ent A i l * ent X l j)) = sumN n (fun l => ent X l j * sumN n (fun i => y i * ent A i l)) := by
    have : sumN n (fun i => y i * sumN n (fun l => ent A i l * ent X l j)) = sumN n (fun i => sumN n (fun l => y i * (ent A i l * ent X l j))) := sumN_congr fun i _ => sumN_mul.symm
    rw [this, sumN_swap]
    refine sumN_congr fun l _ => ?_
    rw [← sumN_mul]
    exact sumN_congr fun i _ => by grind
  rw [e2, sumN_zero fun l hl => by rw [hy l hl, Rat.mul_zero]] at e
  exact e.symm

theorem div1 (z : Int) : Rat.divInt z 1 = (z : Rat) := by
  rw [Rat.divInt_eq_div]
  show (z : Rat) / ((1 : Int) : Rat) = z
  rw [show ((1 : Int) : Rat) = 1 from rfl]
  grind
theorem rep_z {k : Nat} (hk : k ≤ 100) : oRep (.lst [.int 0]) (.int (k : Int)) = some (.l ((List.replicate k (0 : Int)).map D.int)) := by
  rw [rep_fun hk]
  unfold funL
  rw [List.map_replicate, List.map_const', List.length_range]
theorem dependency_eq {n b : Nat} {A : List (List Rat)} (lA : A.length = n) (wA : ∀ r ∈ A, r.length = n) (n9 : n ≤ 60) (sz : ∀ j, j < n → ∀ q ∈ A.map fun r => r.getD j 0, Sz b q) (lc : ∀ j, j < n → lcmQ (A.map fun r => r.getD j 0) < 2 ^ 64) (b9 : 2 * ((b + 70) * n + 1) ≤ 130000000) (bb : b + 64 ≤ 130000000)
    {y : Nat → Rat} (hy : ∀ j, j < n → sumN n (fun i => y i * ent A i j) = 0) (y0 : ∃ i, i < n ∧ y i ≠ 0) :
    ∃ Y : List Rat, Y.length = n ∧ (∀ q ∈ Y, Sz ((b + 70) * n + 1) q) ∧ (∃ q ∈ Y, q ≠ 0) ∧ (∀ j, j < n → sumN n (fun i => Y.getD i 0 * ent A i j) = 0) ∧ f_dependency [matD A] = .ok (qT Y) := by
  obtain ⟨W, hW⟩ : ∃ W, W = (List.range n).map fun j => wholeI (A.map fun r => r.getD j 0) := ⟨_, rfl⟩
  have Wl : W.length = n := by rw [hW, List.length_map, List.length_range]
  have Ww : ∀ r ∈ W, r.length = n := fun r hr => by
    rw [hW] at hr
    obtain ⟨i, hi, rfl⟩ := List.mem_map.mp hr
    unfold wholeI
    rw [List.length_map, List.length_map, lA]
  have Wb : ∀ r ∈ W, ∀ x ∈ r, x.natAbs ≤ 2 ^ (b + 64) := fun r hr x hx => by
    rw [hW] at hr
    obtain ⟨i, hi, rfl⟩ := List.mem_map.mp hr
    have hi := List.mem_range.mp hi
    obtain ⟨q, hq, rfl⟩ := List.mem_map.mp hx
    have h1 := (sz i hi q hq).1
    have h2 := lc i hi
    rw [Int.natAbs_mul, Int.natAbs_natCast, Nat.pow_add]
    exact Nat.mul_le_mul (by omega) (by
      have := Nat.div_le_self (lcmQ (A.map fun r => r.getD i 0)) q.den
      omega)
  obtain ⟨hs, ts, s, g, z0, el⟩ := eliminated_eq (M := 2 ^ (b + 64)) (m := n) (n := n) (b := (b + 70) * n + 1) (rows := W) (Nat.one_le_two_pow) (by omega) (by omega) b9 (pow_bound n9) Wl (Nat.le_refl n) Ww Wb
  have gl := g.len
  have hs0 : s ≠ 0 := fun z => g.st.ne (by rw [z]; rfl)
  have sr : (s : Rat) ≠ 0 := fun z => hs0 (Rat.intCast_inj.mp z)
  have vmem : ∀ j, j < n → vecI (wholeI (A.map fun r => r.getD j 0)) ∈ W.map vecI := fun j hj => by
    rw [hW]
    exact List.mem_map.mpr ⟨_, List.mem_map.mpr ⟨j, List.mem_range.mpr hj, rfl⟩, rfl⟩
  have entA : ∀ j l, l < n → vecI (wholeI (A.map fun r => r.getD j 0)) l = ((lcmQ (A.map fun r => r.getD j 0) : Nat) : Rat) * ent A l j := fun j l hl => by
    rw [vec_whole, col_get (by omega)]
  have hc : hs.length < n := by
    by_cases h : hs.length < n
    · exact h
    · exfalso
      obtain ⟨i, hi, hne⟩ := y0
      refine hne (g.inj (by omega) (fun v hv => ?_) i hi)
      obtain ⟨r, hr, rfl⟩ := List.mem_map.mp hv
      rw [hW] at hr
      obtain ⟨j, hj, rfl⟩ := List.mem_map.mp hr
      have hj := List.mem_range.mp hj
      have : sumN n (fun l => y l * vecI (wholeI (A.map fun r => r.getD j 0)) l) = ((lcmQ (A.map fun r => r.getD j 0) : Nat) : Rat) * sumN n (fun i => y i * ent A i j) := by
        rw [← sumN_mul]
        exact sumN_congr fun l hl => by rw [entA j l hl]; grind
      rw [this, hy j hj, Rat.mul_zero]
  obtain ⟨wv, hwv⟩ : ∃ wv : List Int, wv = (hs.map fun q => hd q.2.2) ++ [-s] ++ List.replicate (n - hs.length - 1) 0 := ⟨_, rfl⟩
  have wl : wv.length = n := by
    rw [hwv, List.length_append, List.length_append, List.length_map, List.length_replicate]
    show hs.length + 1 + _ = n
    omega
  have w1 : ∀ i, i < hs.length → wv.getD i 0 = (rowI hs i).getD 0 0 := fun i hi => by
    rw [hwv, List.append_assoc, List.getD_eq_getElem?_getD, List.getElem?_append_left (by rw [List.length_map]; exact hi), List.getElem?_map, List.getElem?_eq_getElem hi, rowI_get (List.getElem?_eq_getElem hi)]
    rfl
  have w2 : wv.getD hs.length 0 = -s := by
    rw [hwv, List.append_assoc, List.getD_eq_getElem?_getD, List.getElem?_append_right (by rw [List.length_map]; exact Nat.le_refl _), List.length_map, Nat.sub_self]
    rfl
  have w3 : ∀ i, hs.length < i → wv.getD i 0 = 0 := fun i hi => by
    rw [hwv, List.getD_eq_getElem?_getD, List.getElem?_append_right (by rw [List.length_append, List.length_map]; exact hi), List.getElem?_replicate]
    split <;> rfl
  have yv : ∀ i, (wv.map fun z => Rat.divInt z 1).getD i 0 = ((wv.getD i 0 : Int) : Rat) := fun i => by
    rw [List.getD_eq_getElem?_getD, List.getElem?_map, List.getD_eq_getElem?_getD]
    cases wv[i]? with
    | none => rfl
    | some z => exact div1 z
  refine ⟨wv.map fun z => Rat.divInt z 1, by rw [List.length_map, wl], fun q hq => ?_, ?_, fun j hj => ?_, ?_⟩
  · obtain ⟨z, hz, rfl⟩ := List.mem_map.mp hq
    have h3 := pow_bound (b := b) n9
    have zb : z.natAbs ≤ (n * 2 ^ (b + 64)) ^ n := by
      rw [hwv, List.mem_append, List.mem_append] at hz
      rcases hz with (hz | hz) | hz
      · obtain ⟨p, hp, rfl⟩ := List.mem_map.mp hz
        exact g.size (Nat.one_le_two_pow) (.inl hp) 0
      · rw [List.mem_singleton.mp hz, Int.natAbs_neg]
        exact g.size_s (Nat.one_le_two_pow)
      · rw [(List.mem_replicate.mp hz).2]
        exact Nat.zero_le _
    exact divInt_sz (by decide) (by omega) (by
      have : (2 : Nat) ^ 1 ≤ 2 ^ ((b + 70) * n + 1) := Nat.pow_le_pow_right (by decide) (by omega)
      have e : (1 : Int).natAbs = 1 := rfl
      omega)
  · refine ⟨Rat.divInt (-s) 1, List.mem_map.mpr ⟨-s, by rw [hwv]; simp, rfl⟩, fun z => ?_⟩
    rw [div1] at z
    exact hs0 (by
      have : -s = 0 := Rat.intCast_inj.mp z
      omega)
  · have t := g.tell 0 (fun q hq => z0 q hq) _ (vmem j hj)
    rw [Nat.add_zero, entA j hs.length hc] at t
    have e1 : sumN hs.length (fun l => (((rowI hs l).getD 0 0 : Int) : Rat) * vecI (wholeI (A.map fun r => r.getD j 0)) l) = ((lcmQ (A.map fun r => r.getD j 0) : Nat) : Rat) * sumN hs.length (fun l => (((rowI hs l).getD 0 0 : Int) : Rat) * ent A l j) := by
      rw [← sumN_mul]
      exact sumN_congr fun l hl => by rw [entA j l (by omega)]; grind
    rw [e1] at t
    have e2 : sumN n (fun i => (wv.map fun z => Rat.divInt z 1).getD i 0 * ent A i j) = sumN hs.length (fun l => (((rowI hs l).getD 0 0 : Int) : Rat) * ent A l j) - (s : Rat) * ent A hs.length j := by
      rw [sumN_cut (c := hs.length + 1) (by omega) fun l h1 h2 => by
        rw [yv, w3 l (by omega)]
        exact Rat.zero_mul _]
      show sumN hs.length _ + (wv.map fun z => Rat.divInt z 1).getD hs.length 0 * ent A hs.length j = _
      rw [yv, w2, sumN_congr (g := fun l => (((rowI hs l).getD 0 0 : Int) : Rat) * ent A l j) fun l hl => by rw [yv, w1 l hl], Rat.intCast_neg]
      grind
    rw [e2]
    have L0 := lcmQ_ne (r := A.map fun r => r.getD j 0)
    have h3 : ((lcmQ (A.map fun r => r.getD j 0) : Nat) : Rat) * (sumN hs.length (fun l => (((rowI hs l).getD 0 0 : Int) : Rat) * ent A l j) - (s : Rat) * ent A hs.length j) = 0 := by grind
    exact (Rat.mul_eq_zero.mp h3).resolve_left L0
  · have ln : cLen [matD A] = some (.d (nI n)) := by
      show some (Sv.d (D.int ((A.map qT).length : Nat))) = _
      rw [List.length_map, lA]
      rfl
    have hsm : small (n : Int) = true := small_nat (by omega)
    have h90 : (Iv.upTo 0 n).length ≤ 90000 := by rw [upTo_len]; omega
    have itA : itemsOf (matD A) = some (A.map qT) := rfl
    have lA9 : (A.map qT).length ≤ 90000 := by rw [List.length_map]; omega
    have c2 := comp_n (f := mD (mCall 1 f_whole_row (mCons (mD (mLc [8] (γN 8) (mIt (mD (mVar 0))) (mYes) (mD (mOp oIx (mPk 8) (mPk 7))))) (mNil)))) (n := n) (j := 7) (env := [.fr (matD A), .fr (nI n), .un, .un, .un, .un, .un, .un, .un]) (h := fun j => iR (wholeI (A.map fun r => r.getD j 0))) (fun j hj => by
      have c8 := compL_map (enc := qT) (vs := [8]) (γ := γN 8) (cond := mYes) (elt := mD (mOp oIx (mPk 8) (mPk 7))) (env := [.fr (matD A), .fr (nI n), .un, .un, .un, .un, .un, .fr (nI j), .un]) (h := fun r : List Rat => enc (r.getD j 0)) (xs := A) (acc := []) (fun r hr => by
        have ix : oIx (qT r) (nI j) = some (.d (enc (r.getD j 0))) := ix_rews (wA r hr) hj
        refine ⟨[.fr (matD A), .fr (nI n), .un, .un, .un, .un, .un, .fr (nI j), .fr (qT r)], _, [.fr (matD A), .fr (nI n), .un, .un, .un, .un, .un, .fr (nI j), .fr (qT r)], rfl, rfl, ?_, rfl⟩
        generalize qT r = f1 at *
        generalize enc (r.getD j 0) = f2 at *
        generalize nI j = f3 at *
        simp [ix])
      rw [List.nil_append] at c8
      have e8 : (A.map fun r => enc (r.getD j 0)) = (A.map fun r => r.getD j 0).map enc := by rw [List.map_map]; rfl
      rw [e8] at c8
      have wr := whole_row_eq (r := A.map fun r => r.getD j 0) (c := D.lst) (b := b) (.inr rfl) (by rw [List.length_map]; omega) (lc j hj) (sz j hj) bb
      refine ⟨[.fr (matD A), .fr (nI n), .un, .un, .un, .un, .un, .fr (nI j), .un], ?_, rfl⟩
      have e : (.int (j : Int) : D) = nI j := rfl
      rw [e]
      generalize (A.map fun r => r.getD j 0).map enc = cc at *
      generalize iR (wholeI (A.map fun r => r.getD j 0)) = ww at *
      generalize A.map qT = aq at *
      generalize matD A = ma at *
      generalize nI j = nj at *
      generalize nI n = nn at *
      simp [itA, lA9, c8, wr])
    have eW : ((List.range n).map fun j => iR (wholeI (A.map fun r => r.getD j 0))) = W.map iR := by
      rw [hW, List.map_map]
      rfl
    rw [eW] at c2
    have iw : iM W = .lst (W.map iR) := rfl
    rw [iw] at el
    have u3 : ∀ (p q r : D) env, γT 3 (γCons (γN 4) (γCons (γN 5) (γCons (γN 6) (γNil)))) (.tup [p, q, r]) env = some (((env.set 4 (.fr p)).set 5 (.fr q)).set 6 (.fr r)) := fun p q r env => rfl
    have sl : oSl (iM ((hs ++ ts).map rw3)) none (some (hs.length : Int)) = some (.l ((hs.map rw3).map iR)) := by
      show some (Sv.l (cutL _ none (some (hs.length : Int)))) = _
      rw [cut_to, ← List.map_take, ← List.map_take, List.take_left]
    have it2 : ∀ l : List D, itemsOf (.lst l) = some l := fun l => rfl
    have l9 : ((hs.map rw3).map iR).length ≤ 90000 := by rw [List.length_map, List.length_map]; omega
    have c9 : compL [8] (γN 8) mYes (mD (mOp oIx (mPk 8) (mD (mC (.int 0))))) ((hs.map rw3).map iR) [] [.fr (matD A), .fr (nI n), .fr (.lst (W.map iR)), .un, .fr (iM ((hs ++ ts).map rw3)), .fr (.int s), .fr (nI hs.length), .un, .un] = .ok ((hs.map fun q => hd q.2.2).map D.int) [.fr (matD A), .fr (nI n), .fr (.lst (W.map iR)), .un, .fr (iM ((hs ++ ts).map rw3)), .fr (.int s), .fr (nI hs.length), .un, .un] := by
      have := compL_map (enc := iR) (vs := [8]) (γ := γN 8) (cond := mYes) (elt := mD (mOp oIx (mPk 8) (mD (mC (.int 0))))) (env := [.fr (matD A), .fr (nI n), .fr (.lst (W.map iR)), .un, .fr (iM ((hs ++ ts).map rw3)), .fr (.int s), .fr (nI hs.length), .un, .un]) (h := fun r : List Int => .int (hd r)) (xs := hs.map rw3) (acc := []) (fun r hr => by
        obtain ⟨q, hq, rfl⟩ := List.mem_map.mp hr
        have ne : rw3 q ≠ [] := fun z => by
          have := g.wd q (.inl hq)
          have z : q.2.2 = [] := z
          rw [z, List.length_nil] at this
          omega
        have ix := at_iR0 ne
        refine ⟨[.fr (matD A), .fr (nI n), .fr (.lst (W.map iR)), .un, .fr (iM ((hs ++ ts).map rw3)), .fr (.int s), .fr (nI hs.length), .un, .fr (iR (rw3 q))], _, [.fr (matD A), .fr (nI n), .fr (.lst (W.map iR)), .un, .fr (iM ((hs ++ ts).map rw3)), .fr (.int s), .fr (nI hs.length), .un, .fr (iR (rw3 q))], rfl, rfl, ?_, rfl⟩
        generalize iR (rw3 q) = f1 at *
        generalize hd (rw3 q) = f2 at *
        simp [ix])
      rw [this, List.nil_append, List.map_map, List.map_map]
      rfl
    have sb : oSub (nI n) (nI hs.length) = some (.d (.int ((n - hs.length : Nat) : Int))) := by
      show some (Sv.d (.int ((n : Int) - (hs.length : Int)))) = _
      rw [show (n : Int) - (hs.length : Int) = ((n - hs.length : Nat) : Int) by omega]
    have sb2 : oSub (.int ((n - hs.length : Nat) : Int)) (.int 1) = some (.d (.int ((n - hs.length - 1 : Nat) : Int))) := by
      show some (Sv.d (.int (((n - hs.length : Nat) : Int) - 1))) = _
      rw [show ((n - hs.length : Nat) : Int) - 1 = ((n - hs.length - 1 : Nat) : Int) by omega]
    have rp := rep_z (k := n - hs.length - 1) (by omega)
    have a1 : oAdd (.lst ((hs.map fun q => hd q.2.2).map D.int)) (.lst [.int (-s)]) = some (.l ((hs.map fun q => hd q.2.2).map D.int ++ [.int (-s)])) := by
      show (if _ then _ else _) = _
      rw [if_pos (by rw [List.length_map, List.length_map]; simp; omega)]
    have a2 : oAdd (.lst ((hs.map fun q => hd q.2.2).map D.int ++ [.int (-s)])) (.lst ((List.replicate (n - hs.length - 1) (0 : Int)).map D.int)) = some (.l (wv.map D.int)) := by
      show (if _ then _ else _) = _
      rw [if_pos (by rw [List.length_append, List.length_map, List.length_map, List.length_map, List.length_replicate]; simp; omega), hwv, List.map_append, List.map_append]
      rfl
    have rr := ratio_row_eq (r := wv) (s := 1) (by decide) (by omega)
    have ir : iR wv = .lst (wv.map D.int) := rfl
    rw [ir] at rr
    generalize qT (wv.map fun z => Rat.divInt z 1) = qq at *
    generalize wv.map D.int = w8 at *
    generalize (hs.map fun q => hd q.2.2).map D.int = w7 at *
    generalize (List.replicate (n - hs.length - 1) (0 : Int)).map D.int = w6 at *
    generalize ((n - hs.length - 1 : Nat) : Int) = i1 at *
    generalize ((n - hs.length : Nat) : Int) = i2 at *
    generalize (hs.map rw3).map iR = w5 at *
    generalize iM ((hs ++ ts).map rw3) = mm at *
    generalize W.map iR = wi at *
    generalize matD A = ma at *
    unfold nI at *
    simp [f_dependency, g_dependency, ln, hsm, h90, c2, el, u3, sl, it2, l9, c9, sb, sb2, rp, a1, a2, rr]

/-- rows that depend on each other: solve answers what dependency answers -/
theorem solve_sing {n k b : Nat} {A B : List (List Rat)} (h : Sys n k b A B) (b1 : 1 ≤ b) {y : Nat → Rat} (hy : ∀ j, j < n → sumN n (fun i => y i * ent A i j) = 0) (y0 : ∃ i, i < n ∧ y i ≠ 0) {d : D} (hd : f_dependency [matD A] = .ok d) : f_solve [matD A, matD B] = .ok (.tup [.str "dependency", d]) := by
  obtain ⟨W, hW⟩ : ∃ W, W = rowsW n A B := ⟨_, rfl⟩
  have n9 := h.n9
  have Wl : W.length = n := by rw [hW]; unfold rowsW; rw [List.length_map, List.length_range]
  have Ww : ∀ r ∈ W, r.length = n + k := fun r hr => by
    rw [hW] at hr
    obtain ⟨i, hi, rfl⟩ := List.mem_map.mp hr
    have hi := List.mem_range.mp hi
    unfold wholeI
    rw [List.length_map, List.length_append, getD_len h.lA h.wA hi, getD_len h.lB h.wB hi]
  have Wb : ∀ r ∈ W, ∀ x ∈ r, x.natAbs ≤ 2 ^ (b + 64) := fun r hr x hx => by
    rw [hW] at hr
    obtain ⟨i, hi, rfl⟩ := List.mem_map.mp hr
    have hi := List.mem_range.mp hi
    obtain ⟨q, hq, rfl⟩ := List.mem_map.mp hx
    have h1 := (h.sz i hi q hq).1
    have h2 := h.lc i hi
    rw [Int.natAbs_mul, Int.natAbs_natCast, Nat.pow_add]
    exact Nat.mul_le_mul (by omega) (by
      have := Nat.div_le_self (lcmQ (A.getD i [] ++ B.getD i [])) q.den
      omega)
  obtain ⟨hs, ts, s, g, z0, el⟩ := eliminated_eq (M := 2 ^ (b + 64)) (m := n + k) (n := n) (b := (b + 70) * n + 1) (rows := W) (Nat.one_le_two_pow) (by omega) (by have := h.k9; omega) h.b9 (pow_bound h.n9) Wl (by omega) Ww Wb
  have gl := g.len
  have entA : ∀ i l, i < n → l < n → vecI (wholeI (A.getD i [] ++ B.getD i [])) l = ((lcmQ (A.getD i [] ++ B.getD i []) : Nat) : Rat) * ent A i l := fun i l hi hl => by
    rw [vec_whole, getD_app1 (by rw [getD_len h.lA h.wA hi]; exact hl)]
    rfl
  have hc : hs.length < n := by
    by_cases hlt : hs.length < n
    · exact hlt
    · exfalso
      have hr : Reg n A := fun z hz => g.inj (by omega) fun v hv => by
        obtain ⟨r, hr, rfl⟩ := List.mem_map.mp hv
        rw [hW] at hr
        obtain ⟨i, hi, rfl⟩ := List.mem_map.mp hr
        have hi := List.mem_range.mp hi
        have : sumN n (fun l => z l * vecI (wholeI (A.getD i [] ++ B.getD i [])) l) = ((lcmQ (A.getD i [] ++ B.getD i []) : Nat) : Rat) * sumN n (fun l => ent A i l * z l) := by
          rw [← sumN_mul]
          exact sumN_congr fun l hl => by rw [entA i l hi hl]; grind
        rw [this, hz i hi, Rat.mul_zero]
      obtain ⟨i, hi, hne⟩ := y0
      exact hne (dep_reg h b1 hy hr i hi)
  have hl : ∀ i, i < n → oAdd (qT (A.getD i [])) (qT (B.getD i [])) = some (.d (.tup ((A.getD i [] ++ B.getD i []).map enc))) := fun i hi => by
    have l1 := getD_len h.lA h.wA hi
    have l2 := getD_len h.lB h.wB hi
    have k9 := h.k9
    unfold qT
    show (if _ then _ else _) = _
    rw [if_pos ⟨by rw [List.length_map, List.length_map, l1, l2]; omega, fun z => by
      have := congrArg List.length z
      rw [List.length_map, l1] at this
      simp at this
      omega⟩, ← List.map_append]
  have ln : cLen [matD A] = some (.d (nI n)) := by
    show some (Sv.d (D.int ((A.map qT).length : Nat))) = _
    rw [List.length_map, h.lA]
    rfl
  have hsm : small (n : Int) = true := small_nat (by omega)
  have h90 : (Iv.upTo 0 n).length ≤ 90000 := by rw [upTo_len]; omega
  have c3 := comp_n (f := mD (mCall 1 f_whole_row (mCons (mD (mOp oAdd (mD (mOp oIx (mPk 0) (mPk 6))) (mD (mOp oIx (mPk 1) (mPk 6))))) (mNil)))) (n := n) (j := 6) (env := [.fr (matD A), .fr (matD B), .fr (nI n), .un, .un, .un, .un, .un]) (h := fun i => iR (wholeI (A.getD i [] ++ B.getD i []))) (fun i hi => by
    have a1 := at_matD h.lA hi
    have a2 := at_matD h.lB hi
    have a3 := hl i hi
    have wr := whole_row_eq (r := A.getD i [] ++ B.getD i []) (c := D.tup) (b := b) (.inl rfl) (by rw [List.length_append, getD_len h.lA h.wA hi, getD_len h.lB h.wB hi]; have := h.k9; omega) (h.lc i hi) (h.sz i hi) h.bb
    refine ⟨[.fr (matD A), .fr (matD B), .fr (nI n), .un, .un, .un, .fr (nI i), .un], ?_, rfl⟩
    have e : (.int (i : Int) : D) = nI i := rfl
    rw [e]
    generalize ((A.getD i [] ++ B.getD i []).map enc) = cc at *
    generalize iR (wholeI (A.getD i [] ++ B.getD i [])) = ww at *
    generalize qT (A.getD i []) = qa at *
    generalize qT (B.getD i []) = qb at *
    generalize matD A = ma at *
    generalize matD B = mb at *
    generalize nI i = ni at *
    simp [a1, a2, a3, wr])
  have eW : ((List.range n).map fun i => iR (wholeI (A.getD i [] ++ B.getD i []))) = W.map iR := by
    rw [hW]
    unfold rowsW
    rw [List.map_map]
    rfl
  rw [eW] at c3
  have lt : oLt (nI hs.length) (nI n) = some (.d (.bl true)) := by
    show some (Sv.d (.bl (decide ((hs.length : Int) < (n : Int))))) = _
    rw [decide_eq_true (by omega)]
  have iw : iM W = .lst (W.map iR) := rfl
  rw [iw] at el
  generalize iM ((hs ++ ts).map rw3) = mm at *
  generalize W.map iR = wi at *
  generalize matD A = ma at *
  generalize matD B = mb at *
  generalize nI hs.length = nh at *
  unfold nI at *
  simp [f_solve, g_solve, ln, hsm, h90, c3, el, lt, hd]
end Law

set_option Elab.async false
set_option linter.all false
set_option maxRecDepth 100000
set_option maxHeartbeats 4000000
namespace Law
open PySem PySem.Spec PyProof.Rows L2 Evl Iv
/-! ### meanings -/
noncomputable def g_u_law_factors : M Fl :=
    mSeq (mSet 2 (mLst (mNil)))
    (mSeq (mSet 3 (mLst (mNil)))
    (mSeq (mFor (γN 4) (mRng1 (mCons (mPk 1) (mNil))) (mSeq (mSet 5 (mCall 2 f_u_law_draws (mCons (mD (mCall 2 f_u_law_cell (mCons (mD (mVar 0)) (mCons (mD (mOp oAdd (mD (mC (.int 1))) (mPk 4))) (mNil))))) (mCons (mD (mOp oMul (mD (mC (.int 2))) (mPk 1))) (mNil)))))
    (mSeq (mSet 6 (mOp oAdd (mD (mLc [9] (γN 9) (mRng1 (mCons (mPk 4) (mNil))) (mYes) (mD (mTup (mCons (mD (mOp oSub (mD (mOp oMod (mD (mCl cInt (mCons (mD (mOp oIx (mPk 5) (mPk 9))) (mNil)))) (mD (mC (.int 7))))) (mD (mC (.int 3))))) (mCons (mD (mC (.int 1))) (mNil))))))) (mD (mLst (mCons (mD (mTup (mCons (mD (mC (.int 1))) (mCons (mD (mC (.int 1))) (mNil))))) (mNil))))))
    (mSeq (mApp 2 (mD (mOp oAdd (mPk 6) (mD (mLc [9] (γN 9) (mRng1 (mCons (mD (mOp oSub (mD (mOp oSub (mPk 1) (mPk 4))) (mD (mC (.int 1))))) (mNil))) (mYes) (mD (mTup (mCons (mD (mC (.int 0))) (mCons (mD (mC (.int 1))) (mNil))))))))))
    (mSeq (mSet 7 (mCall 2 f_u_law_low (mCons (mD (mOp oAdd (mD (mC (.int 1))) (mD (mOp oMod (mD (mOp oDiv (mD (mCl cInt (mCons (mD (mOp oIx (mPk 5) (mPk 4))) (mNil)))) (mD (mC (.int 7))))) (mD (mC (.int 4))))))) (mCons (mD (mOp oAdd (mD (mC (.int 1))) (mD (mOp oMod (mD (mOp oDiv (mD (mCl cInt (mCons (mD (mOp oIx (mPk 5) (mPk 4))) (mNil)))) (mD (mC (.int 28))))) (mD (mC (.int 3))))))) (mNil)))))
    (mSeq (mSet 8 (mLc [9] (γN 9) (mRng2 (mCons (mD (mOp oAdd (mPk 4) (mD (mC (.int 1))))) (mCons (mPk 1) (mNil)))) (mYes) (mD (mCall 2 f_u_law_low (mCons (mD (mOp oSub (mD (mOp oMod (mD (mCl cInt (mCons (mD (mOp oIx (mPk 5) (mD (mOp oAdd (mPk 1) (mPk 9))))) (mNil)))) (mD (mC (.int 7))))) (mD (mC (.int 3))))) (mCons (mD (mOp oAdd (mD (mC (.int 1))) (mD (mOp oMod (mD (mOp oDiv (mD (mCl cInt (mCons (mD (mOp oIx (mPk 5) (mD (mOp oAdd (mPk 1) (mPk 9))))) (mNil)))) (mD (mC (.int 7))))) (mD (mC (.int 2))))))) (mNil)))))))
    (mApp 3 (mD (mOp oAdd (mD (mOp oAdd (mD (mLc [9] (γN 9) (mRng1 (mCons (mPk 4) (mNil))) (mYes) (mD (mTup (mCons (mD (mC (.int 0))) (mCons (mD (mC (.int 1))) (mNil))))))) (mD (mLst (mCons (mD (mVar 7)) (mNil)))))) (mPk 8))))))))))
    (mRet (mD (mTup (mCons (mD (mVar 2)) (mCons (mD (mVar 3)) (mNil))))))))
noncomputable def f_u_law_factors : List D → FR := runF 10 g_u_law_factors
noncomputable def g_u_law_times : M Fl :=
    mSeq (mSet 2 (mTup (mCons (mD (mC (.int 0))) (mCons (mD (mC (.int 1))) (mNil)))))
    (mSeq (mFor (γN 3) (mRng1 (mCons (mD (mCl cLen (mCons (mPk 0) (mNil)))) (mNil))) (mSet 2 (mCall 2 f_u_law_add (mCons (mD (mVar 2)) (mCons (mD (mCall 2 f_u_law_multiply (mCons (mD (mOp oIx (mPk 0) (mPk 3))) (mCons (mD (mOp oIx (mPk 1) (mPk 3))) (mNil))))) (mNil))))))
    (mRet (mD (mVar 2))))
noncomputable def f_u_law_times : List D → FR := runF 4 g_u_law_times
noncomputable def g_u_law_product : M Fl :=
    mRet (mD (mLc [3] (γN 3) (mIt (mD (mVar 0))) (mYes) (mD (mCl cTuple (mCons (mD (mLc [4] (γN 4) (mRng1 (mCons (mPk 2) (mNil))) (mYes) (mD (mCall 2 f_u_law_times (mCons (mD (mVar 3)) (mCons (mD (mLc [5] (γN 5) (mIt (mD (mVar 1))) (mYes) (mD (mOp oIx (mPk 5) (mPk 4))))) (mNil))))))) (mNil))))))
noncomputable def f_u_law_product : List D → FR := runF 6 g_u_law_product
noncomputable def g_u_law_is_table : M Fl :=
    mSeq (mIfS (mOrB (mNotB (mB (mCl cIsi (mCons (mPk 0) (mCons (mD (mC (.ty "tuple"))) (mNil)))))) (mB (mOp oNe (mD (mCl cLen (mCons (mPk 0) (mNil)))) (mPk 1)))) (mRet (mD (mC (.bl false)))) (mNx))
    (mSeq (mFor (γN 3) (mIt (mD (mVar 0))) (mIfS (mOrB (mNotB (mB (mCl cIsi (mCons (mPk 3) (mCons (mD (mC (.ty "tuple"))) (mNil)))))) (mOrB (mB (mOp oNe (mD (mCl cLen (mCons (mPk 3) (mNil)))) (mPk 2))) (mNotB (mB (mCl cAll (mCons (mD (mLc [4] (γN 4) (mIt (mD (mVar 3))) (mYes) (mD (mCall 1 f_u_law_is_ratio (mCons (mD (mVar 4)) (mNil)))))) (mNil))))))) (mRet (mD (mC (.bl false)))) (mNx)))
    (mRet (mD (mC (.bl true)))))
noncomputable def f_u_law_is_table : List D → FR := runF 5 g_u_law_is_table
noncomputable def g_u_law_replaced : M Fl :=
    mSeq (mSet 3 (mCl cLen (mCons (mPk 0) (mNil))))
    (mSeq (mSet 4 (mLc [6] (γN 6) (mRng1 (mCons (mPk 3) (mNil))) (mYes) (mD (mTup (mCons (mD (mC (.int 0))) (mCons (mD (mC (.int 1))) (mNil)))))))
    (mSeq (mFor (γN 5) (mRng1 (mCons (mPk 3) (mNil))) (mIfS (mB (mOp oNe (mPk 5) (mPk 1))) (mSeq (mSet 7 (mTup (mCons (mD (mOp oSub (mD (mOp oMod (mD (mCl cInt (mCons (mD (mOp oIx (mPk 2) (mPk 5))) (mNil)))) (mD (mC (.int 5))))) (mD (mC (.int 2))))) (mCons (mD (mC (.int 1))) (mNil)))))
    (mSet 4 (mLc [6] (γN 6) (mRng1 (mCons (mPk 3) (mNil))) (mYes) (mD (mCall 2 f_u_law_add (mCons (mD (mOp oIx (mPk 4) (mPk 6))) (mCons (mD (mCall 2 f_u_law_multiply (mCons (mD (mVar 7)) (mCons (mD (mOp oIx (mD (mOp oIx (mPk 0) (mPk 5))) (mPk 6))) (mNil))))) (mNil)))))))) (mNx)))
    (mRet (mD (mOp oAdd (mD (mOp oCat (mD (mCl cTuple (mCons (mD (mSl (mPk 0) (mNoP) (mPart (mPk 1)))) (mNil)))) (mD (mTup (mCons (mD (mCl cTuple (mCons (mPk 4) (mNil)))) (mNil)))))) (mD (mCl cTuple (mCons (mD (mSl (mPk 0) (mPart (mD (mOp oAdd (mPk 1) (mD (mC (.int 1)))))) (mNoP))) (mNil)))))))))
noncomputable def f_u_law_replaced : List D → FR := runF 8 g_u_law_replaced
noncomputable def t17_law : M Fl :=
    mRet (mD (mC (.bl true)))
noncomputable def t16_law : M Fl :=
    mSeq (mFor (γN 13) (mIt (mD (mLst (mCons (mD (mVar 10)) (mCons (mD (mCl cTuple (mCons (mD (mCall 3 f_u_law_product (mCons (mD (mVar 12)) (mCons (mD (mVar 8)) (mCons (mD (mVar 3)) (mNil)))))) (mNil)))) (mNil)))))) (mSeq (mSet 11 (mCall 2 f_solve (mCons (mD (mVar 12)) (mCons (mD (mVar 13)) (mNil)))))
    (mSeq (mIfS (mOrB (mNotB (mB (mCl cIsi (mCons (mPk 11) (mCons (mD (mC (.ty "tuple"))) (mNil)))))) (mOrB (mB (mOp oNe (mD (mCl cLen (mCons (mPk 11) (mNil)))) (mD (mC (.int 2))))) (mNotB (mB (mCall 2 f_u_law_same (mCons (mD (mOp oIx (mPk 11) (mD (mC (.int 0))))) (mCons (mD (mC (.str "dependency"))) (mNil)))))))) (mRet (mD (mC (.bl false)))) (mNx))
    (mSeq (mIfS (mOrB (mNotB (mB (mCall 3 f_u_law_is_table (mCons (mD (mTup (mCons (mD (mOp oIx (mPk 11) (mD (mC (.int 1))))) (mNil)))) (mCons (mD (mC (.int 1))) (mCons (mD (mVar 2)) (mNil))))))) (mNotB (mB (mCl cAny (mCons (mD (mLc [17] (γN 17) (mIt (mD (mOp oIx (mPk 11) (mD (mC (.int 1)))))) (mYes) (mD (mOp oNe (mD (mOp oIx (mPk 17) (mD (mC (.int 0))))) (mD (mC (.int 0))))))) (mNil)))))) (mRet (mD (mC (.bl false)))) (mNx))
    (mFor (γN 15) (mRng1 (mCons (mPk 2) (mNil))) (mIfS (mNotB (mB (mCall 2 f_u_law_same (mCons (mD (mCall 2 f_u_law_times (mCons (mD (mOp oIx (mPk 11) (mD (mC (.int 1))))) (mCons (mD (mLc [14] (γN 14) (mIt (mD (mVar 12))) (mYes) (mD (mOp oIx (mPk 14) (mPk 15))))) (mNil))))) (mCons (mD (mTup (mCons (mD (mC (.int 0))) (mCons (mD (mC (.int 1))) (mNil))))) (mNil)))))) (mRet (mD (mC (.bl false)))) (mNx))))))) t17_law
noncomputable def t15_law : M Fl :=
    mSeq (mSet 12 (mCall 3 f_u_law_replaced (mCons (mD (mVar 5)) (mCons (mD (mOp oMod (mD (mCl cInt (mCons (mD (mOp oIx (mPk 1) (mD (mC (.int 4))))) (mNil)))) (mPk 2))) (mCons (mD (mSl (mPk 7) (mPart (mD (mOp oMul (mPk 2) (mPk 3)))) (mNoP))) (mNil)))))) t16_law
noncomputable def t14_law : M Fl :=
    mSeq (mIfS (mOrB (mNotB (mB (mCall 3 f_u_law_is_table (mCons (mD (mOp oIx (mPk 11) (mD (mC (.int 1))))) (mCons (mD (mVar 2)) (mCons (mD (mVar 3)) (mNil))))))) (mNotB (mB (mCall 2 f_u_law_same (mCons (mD (mOp oIx (mPk 11) (mD (mC (.int 1))))) (mCons (mD (mCl cTuple (mCons (mPk 8) (mNil)))) (mNil))))))) (mRet (mD (mC (.bl false)))) (mNx)) t15_law
noncomputable def t13_law : M Fl :=
    mSeq (mIfS (mOrB (mNotB (mB (mCl cIsi (mCons (mPk 11) (mCons (mD (mC (.ty "tuple"))) (mNil)))))) (mOrB (mB (mOp oNe (mD (mCl cLen (mCons (mPk 11) (mNil)))) (mD (mC (.int 2))))) (mNotB (mB (mCall 2 f_u_law_same (mCons (mD (mOp oIx (mPk 11) (mD (mC (.int 0))))) (mCons (mD (mC (.str "solution"))) (mNil)))))))) (mRet (mD (mC (.bl false)))) (mNx)) t14_law
noncomputable def t12_law : M Fl :=
    mSeq (mSet 11 (mCall 2 f_solve (mCons (mD (mCl cTuple (mCons (mPk 5) (mNil)))) (mCons (mD (mVar 10)) (mNil))))) t13_law
noncomputable def t11_law : M Fl :=
    mSeq (mSet 10 (mCl cTuple (mCons (mD (mCall 3 f_u_law_product (mCons (mD (mVar 5)) (mCons (mD (mVar 8)) (mCons (mD (mVar 3)) (mNil)))))) (mNil)))) t12_law
noncomputable def t10_law : M Fl :=
    mSeq (mFor (γN 9) (mRng1 (mCons (mPk 2) (mNil))) (mSeq (mSet 14 (mLc [16] (γN 16) (mRng1 (mCons (mPk 3) (mNil))) (mYes) (mD (mCall 2 f_u_law_low (mCons (mD (mOp oSub (mD (mOp oMod (mD (mCl cInt (mCons (mD (mOp oIx (mPk 7) (mD (mOp oAdd (mD (mOp oMul (mPk 9) (mPk 3))) (mPk 16))))) (mNil)))) (mD (mC (.int 13))))) (mD (mC (.int 6))))) (mCons (mD (mOp oAdd (mD (mC (.int 1))) (mD (mOp oMod (mD (mOp oDiv (mD (mCl cInt (mCons (mD (mOp oIx (mPk 7) (mD (mOp oAdd (mD (mOp oMul (mPk 9) (mPk 3))) (mPk 16))))) (mNil)))) (mD (mC (.int 13))))) (mD (mC (.int 4))))))) (mNil)))))))
    (mSeq (mIfS (mAndB (mB (mOp oEq (mPk 9) (mD (mC (.int 0))))) (mB (mOp oEq (mD (mOp oMod (mD (mCl cInt (mCons (mD (mOp oIx (mPk 1) (mD (mC (.int 3))))) (mNil)))) (mD (mC (.int 4))))) (mD (mC (.int 1)))))) (mPut 14 (mD (mC (.int 0))) (mD (mTup (mCons (mD (mOp oAdd (mD (mOp oPow (mD (mC (.int 10))) (mD (mC (.int 30))))) (mD (mCl cInt (mCons (mD (mOp oIx (mPk 1) (mD (mC (.int 4))))) (mNil)))))) (mCons (mD (mC (.int 1))) (mNil)))))) (mNx))
    (mApp 8 (mD (mCl cTuple (mCons (mPk 14) (mNil)))))))) t11_law
noncomputable def t9_law : M Fl :=
    mSeq (mSet 8 (mLst (mNil))) t10_law
noncomputable def t8_law : M Fl :=
    mSeq (mSet 7 (mCall 2 f_u_law_draws (mCons (mD (mCall 2 f_u_law_cell (mCons (mD (mVar 0)) (mCons (mD (mC (.int 7))) (mNil))))) (mCons (mD (mOp oAdd (mD (mOp oMul (mPk 2) (mPk 3))) (mPk 2))) (mNil))))) t9_law
noncomputable def t7_law : M Fl :=
    mSeq (mSet 5 (mOp oAdd (mD (mSl (mPk 5) (mPart (mPk 6)) (mNoP))) (mD (mSl (mPk 5) (mNoP) (mPart (mPk 6)))))) t8_law
noncomputable def t6_law : M Fl :=
    mSeq (mSet 6 (mOp oMod (mD (mCl cInt (mCons (mD (mOp oIx (mPk 1) (mD (mC (.int 2))))) (mNil)))) (mPk 2))) t7_law
noncomputable def t5_law : M Fl :=
    mSeq (mSet 5 (mCall 3 f_u_law_product (mCons (mD (mOp oIx (mPk 4) (mD (mC (.int 0))))) (mCons (mD (mOp oIx (mPk 4) (mD (mC (.int 1))))) (mCons (mD (mVar 2)) (mNil)))))) t6_law
noncomputable def t4_law : M Fl :=
    mSeq (mSet 4 (mCall 2 f_u_law_factors (mCons (mD (mVar 0)) (mCons (mD (mVar 2)) (mNil))))) t5_law
noncomputable def t3_law : M Fl :=
    mSeq (mSet 3 (mOp oAdd (mD (mC (.int 1))) (mD (mOp oMod (mD (mCl cInt (mCons (mD (mOp oIx (mPk 1) (mD (mC (.int 1))))) (mNil)))) (mD (mC (.int 2))))))) t4_law
noncomputable def t2_law : M Fl :=
    mSeq (mIfS (mB (mOp oEq (mD (mOp oMod (mD (mOp oDiv (mD (mCl cInt (mCons (mD (mOp oIx (mPk 1) (mD (mC (.int 0))))) (mNil)))) (mD (mC (.int 3))))) (mD (mC (.int 4))))) (mD (mC (.int 1))))) (mSet 2 (mOp oAdd (mD (mC (.int 1))) (mD (mOp oMod (mD (mOp oDiv (mD (mCl cInt (mCons (mD (mOp oIx (mPk 1) (mD (mC (.int 0))))) (mNil)))) (mD (mC (.int 12))))) (mD (mC (.int 5))))))) (mNx)) t3_law
noncomputable def t1_law : M Fl :=
    mSeq (mSet 2 (mOp oAdd (mD (mC (.int 1))) (mD (mOp oMod (mD (mCl cInt (mCons (mD (mOp oIx (mPk 1) (mD (mC (.int 0))))) (mNil)))) (mD (mC (.int 3))))))) t2_law
noncomputable def t0_law : M Fl :=
    mSeq (mSet 1 (mCall 2 f_u_law_draws (mCons (mD (mCall 2 f_u_law_cell (mCons (mD (mVar 0)) (mCons (mD (mC (.int 0))) (mNil))))) (mCons (mD (mC (.int 5))) (mNil))))) t1_law
noncomputable def f_law : List D → FR := runF 18 t0_law
end Law

set_option Elab.async false
set_option linter.all false
set_option maxRecDepth 100000
set_option maxHeartbeats 4000000
namespace Law
open PySem PySem.Spec PyProof.Rows L2 Evl Iv
def topS (i : Nat) : Stmt := PySem.Challenge.pw_anycompany_k08_solve_built_systems.main.body.getD i (.Pass ⟨0, 0, 0, 0⟩)
abbrev s_u_law_cell : Stmt := topS 17
abbrev N_u_law_cell : List Str := ["script", "k"]
theorem sc_u_law_cell : FnScope N_u_law_cell ["script", "k"] (defScope s_u_law_cell) := ⟨rfl, rfl, rfl, by decide +kernel, rfl, by decide +kernel, by decide +kernel⟩
abbrev s_u_law_draws : Stmt := topS 18
abbrev N_u_law_draws : List Str := ["cell", "count", "rest", "digits", "seed", "draws", "k", "mixed"]
theorem sc_u_law_draws : FnScope N_u_law_draws ["cell", "count"] (defScope s_u_law_draws) := ⟨rfl, rfl, rfl, by decide +kernel, rfl, by decide +kernel, by decide +kernel⟩
abbrev s_u_law_gcd : Stmt := topS 19
abbrev N_u_law_gcd : List Str := ["a", "b", "rest"]
theorem sc_u_law_gcd : FnScope N_u_law_gcd ["a", "b"] (defScope s_u_law_gcd) := ⟨rfl, rfl, rfl, by decide +kernel, rfl, by decide +kernel, by decide +kernel⟩
abbrev s_u_law_low : Stmt := topS 20
abbrev N_u_law_low : List Str := ["n", "d", "divisor"]
theorem sc_u_law_low : FnScope N_u_law_low ["n", "d"] (defScope s_u_law_low) := ⟨rfl, rfl, rfl, by decide +kernel, rfl, by decide +kernel, by decide +kernel⟩
abbrev s_u_law_factors : Stmt := topS 28
abbrev N_u_law_factors : List Str := ["script", "size", "lower", "upper", "row", "draws", "left", "main", "right", "k"]
theorem sc_u_law_factors : FnScope N_u_law_factors ["script", "size"] (defScope s_u_law_factors) := ⟨rfl, rfl, rfl, by decide +kernel, rfl, by decide +kernel, by decide +kernel⟩
abbrev s_u_law_multiply : Stmt := topS 25
abbrev N_u_law_multiply : List Str := ["a", "b"]
theorem sc_u_law_multiply : FnScope N_u_law_multiply ["a", "b"] (defScope s_u_law_multiply) := ⟨rfl, rfl, rfl, by decide +kernel, rfl, by decide +kernel, by decide +kernel⟩
abbrev s_u_law_add : Stmt := topS 24
abbrev N_u_law_add : List Str := ["a", "b"]
theorem sc_u_law_add : FnScope N_u_law_add ["a", "b"] (defScope s_u_law_add) := ⟨rfl, rfl, rfl, by decide +kernel, rfl, by decide +kernel, by decide +kernel⟩
abbrev s_u_law_times : Stmt := topS 27
abbrev N_u_law_times : List Str := ["row", "column", "whole", "k"]
theorem sc_u_law_times : FnScope N_u_law_times ["row", "column"] (defScope s_u_law_times) := ⟨rfl, rfl, rfl, by decide +kernel, rfl, by decide +kernel, by decide +kernel⟩
abbrev s_u_law_product : Stmt := topS 29
abbrev N_u_law_product : List Str := ["first", "second", "width", "row", "k", "line"]
theorem sc_u_law_product : FnScope N_u_law_product ["first", "second", "width"] (defScope s_u_law_product) := ⟨rfl, rfl, rfl, by decide +kernel, rfl, by decide +kernel, by decide +kernel⟩
abbrev s_whole_row : Stmt := topS 9
abbrev N_whole_row : List Str := ["row", "common", "_", "d", "n"]
theorem sc_whole_row : FnScope N_whole_row ["row"] (defScope s_whole_row) := ⟨rfl, rfl, rfl, by decide +kernel, rfl, by decide +kernel, by decide +kernel⟩
abbrev s_pivot_position : Stmt := topS 12
abbrev N_pivot_position : List Str := ["rows", "start", "k"]
theorem sc_pivot_position : FnScope N_pivot_position ["rows", "start"] (defScope s_pivot_position) := ⟨rfl, rfl, rfl, by decide +kernel, rfl, by decide +kernel, by decide +kernel⟩
abbrev s_brought_up : Stmt := topS 13
abbrev N_brought_up : List Str := ["rows", "first", "second"]
theorem sc_brought_up : FnScope N_brought_up ["rows", "first", "second"] (defScope s_brought_up) := ⟨rfl, rfl, rfl, by decide +kernel, rfl, by decide +kernel, by decide +kernel⟩
abbrev s_combined : Stmt := topS 15
abbrev N_combined : List Str := ["row", "head", "scale", "pivot", "factor", "x", "y"]
theorem sc_combined : FnScope N_combined ["row", "head", "scale"] (defScope s_combined) := ⟨rfl, rfl, rfl, by decide +kernel, rfl, by decide +kernel, by decide +kernel⟩
abbrev s_without_first_column : Stmt := topS 14
abbrev N_without_first_column : List Str := ["rows", "at", "scale", "head", "result", "k"]
theorem sc_without_first_column : FnScope N_without_first_column ["rows", "at", "scale"] (defScope s_without_first_column) := ⟨rfl, rfl, rfl, by decide +kernel, rfl, by decide +kernel, by decide +kernel⟩
abbrev s_eliminated : Stmt := topS 11
abbrev N_eliminated : List Str := ["rows", "size", "scale", "column", "at", "pivot"]
theorem sc_eliminated : FnScope N_eliminated ["rows", "size"] (defScope s_eliminated) := ⟨rfl, rfl, rfl, by decide +kernel, rfl, by decide +kernel, by decide +kernel⟩
abbrev s_make_ratio : Stmt := topS 5
abbrev N_make_ratio : List Str := ["n", "d", "common"]
theorem sc_make_ratio : FnScope N_make_ratio ["n", "d"] (defScope s_make_ratio) := ⟨rfl, rfl, rfl, by decide +kernel, rfl, by decide +kernel, by decide +kernel⟩
abbrev s_ratio_row : Stmt := topS 10
abbrev N_ratio_row : List Str := ["wholes", "scale", "whole"]
theorem sc_ratio_row : FnScope N_ratio_row ["wholes", "scale"] (defScope s_ratio_row) := ⟨rfl, rfl, rfl, by decide +kernel, rfl, by decide +kernel, by decide +kernel⟩
abbrev s_dependency : Stmt := topS 8
abbrev N_dependency : List Str := ["matrix", "size", "columns", "wholes", "rows", "scale", "done", "k", "row"]
theorem sc_dependency : FnScope N_dependency ["matrix"] (defScope s_dependency) := ⟨rfl, rfl, rfl, by decide +kernel, rfl, by decide +kernel, by decide +kernel⟩
abbrev s_solve : Stmt := topS 7
abbrev N_solve : List Str := ["matrix", "right", "size", "rows", "scale", "done", "k", "row"]
theorem sc_solve : FnScope N_solve ["matrix", "right"] (defScope s_solve) := ⟨rfl, rfl, rfl, by decide +kernel, rfl, by decide +kernel, by decide +kernel⟩
abbrev s_u_law_same : Stmt := topS 23
abbrev N_u_law_same : List Str := ["actual", "due", "k"]
theorem sc_u_law_same : FnScope N_u_law_same ["actual", "due"] (defScope s_u_law_same) := ⟨rfl, rfl, rfl, by decide +kernel, rfl, by decide +kernel, by decide +kernel⟩
abbrev s_u_law_is_integer : Stmt := topS 21
abbrev N_u_law_is_integer : List Str := ["value"]
theorem sc_u_law_is_integer : FnScope N_u_law_is_integer ["value"] (defScope s_u_law_is_integer) := ⟨rfl, rfl, rfl, by decide +kernel, rfl, by decide +kernel, by decide +kernel⟩
abbrev s_u_law_is_ratio : Stmt := topS 22
abbrev N_u_law_is_ratio : List Str := ["value"]
theorem sc_u_law_is_ratio : FnScope N_u_law_is_ratio ["value"] (defScope s_u_law_is_ratio) := ⟨rfl, rfl, rfl, by decide +kernel, rfl, by decide +kernel, by decide +kernel⟩
abbrev s_u_law_is_table : Stmt := topS 26
abbrev N_u_law_is_table : List Str := ["table", "height", "width", "row", "entry"]
theorem sc_u_law_is_table : FnScope N_u_law_is_table ["table", "height", "width"] (defScope s_u_law_is_table) := ⟨rfl, rfl, rfl, by decide +kernel, rfl, by decide +kernel, by decide +kernel⟩
abbrev s_u_law_replaced : Stmt := topS 30
abbrev N_u_law_replaced : List Str := ["rows", "at", "draws", "size", "mixed", "row", "k", "many"]
theorem sc_u_law_replaced : FnScope N_u_law_replaced ["rows", "at", "draws"] (defScope s_u_law_replaced) := ⟨rfl, rfl, rfl, by decide +kernel, rfl, by decide +kernel, by decide +kernel⟩
abbrev s_law : Stmt := topS 31
abbrev N_law : List Str := ["script", "first", "size", "width", "factors", "rows", "turn", "draws", "table", "row", "right", "answer", "matrix", "given", "line", "column", "k", "entry"]
theorem sc_law : FnScope N_law ["script"] (defScope s_law) := ⟨rfl, rfl, rfl, by decide +kernel, rfl, by decide +kernel, by decide +kernel⟩
section
variable {w : World} {K : PySem.W.Frag} {mg : Str → Option Value} {base : Heap} {S : Xs}
theorem d_u_law_cell (B : Bl mg) (df : Df K mg "_law_cell" s_u_law_cell ["script", "k"]) : Cl PySem.Challenge.pw_anycompany_k08_solve_built_systems w K mg base S 41 "_law_cell" 2 f_u_law_cell := by
  refine cl_of (k := 40) df sc_u_law_cell fun f cdv A outer s H E F0 H0 hr tk po => ?_
  exact dss_cons (ds_if (cpB op_lt os_lt (pk 1) (pp_of (b_len B (pps_cons (pk 0) (pps_nil))))) (dss_one (ds_ret (pf_of (ix (pk 0) (pk 1))))) (dss_nil))
    (dss_one (ds_ret (pf_of (pd_op op_addA os_add (pp_of (pd_op op_mulA os_mul (pp_of (pd_int)) (pk 1))) (pp_of (pd_int))))))
theorem d_u_law_draws (B : Bl mg) (seer : base.NoSeer) (df : Df K mg "_law_draws" s_u_law_draws ["cell", "count"]) : Cl PySem.Challenge.pw_anycompany_k08_solve_built_systems w K mg base S 41 "_law_draws" 2 f_u_law_draws := by
  refine cl_of (k := 40) df sc_u_law_draws fun f cdv A outer s H E F0 H0 hr tk po => ?_
  have bg := big_of (CX := L2N.CX PySem.Challenge.pw_anycompany_k08_solve_built_systems w) (P := PySem.Challenge.pw_anycompany_k08_solve_built_systems) (w := w) (K := K) (mg := mg) (f := f) (cdv := cdv) (A := A) (outer := outer) (s := s) (H := H) (E := E) (qual := "_law_draws") seer rfl sc_u_law_draws
  exact dss_cons (st_set 2 sc_u_law_draws.nd (b_abs B (pps_cons (pp_of (b_int B (pps_cons (pk 0) (pps_nil)))) (pps_nil))))
    (dss_cons (st_set 3 sc_u_law_draws.nd (cp op_ge os_ge (pk 2) (pp_of (pd_op op_pow os_pow (pp_of (pd_int)) (pp_of (pd_int))))))
    (dss_cons (st_set 4 sc_u_law_draws.nd (nm 2))
    (dss_cons (st_set 5 sc_u_law_draws.nd (pd_lst (pfs_nil)))
    (dss_cons (ds_for po rfl (y_rng1 B (pps_cons (pk 1) (pps_nil))) (tg 6 sc_u_law_draws.nd) (dss_one (ds_if (pb_pw (pwb_and (pb_of (nm 3)) (pwb_and1 (cpB op_gt os_gt (pk 2) (pp_of (pd_int)))))) (dss_cons (ds_app (ps_expr (pe_bm PySem.F.plainAttrs_list PySem.F.slot_list_append PySem.F.type_list_append mt_append (pv 5) (pa_cons (pf_of (pd_op op_modN os_mod (pp_of (b_int B (pps_cons (pk 2) (pps_nil)))) (pp_of (pd_int)))) pa_nil))))
    (dss_one (st_set 2 sc_u_law_draws.nd (pd_op (op_divA bg (hr.mono (by decide))) os_div (pk 2) (pp_of (pd_int)))))) (dss_cons (st_set 7 sc_u_law_draws.nd (pd_op op_modN os_mod (pp_of (b_int B (pps_cons (pp_of (pd_op op_addA os_add (pp_of (pd_op op_addA os_add (pp_of (pd_op op_mulA os_mul (pk 4) (pp_of (pd_int)))) (pp_of (pd_op op_mulA os_mul (pp_of (pd_op op_addA os_add (pk 6) (pp_of (pd_int)))) (pp_of (pd_int)))))) (pp_of (pd_int)))) (pps_nil)))) (pp_of (pd_int))))
    (dss_cons (st_set 7 sc_u_law_draws.nd (pd_op op_modN os_mod (pp_of (b_int B (pps_cons (pp_of (pd_op op_addA os_add (pp_of (pd_op op_mulA os_mul (pk 7) (pk 7))) (pp_of (pd_op op_mulA os_mul (pp_of (pd_int)) (pp_of (pd_op op_addA os_add (pk 6) (pp_of (pd_int)))))))) (pps_nil)))) (pp_of (pd_int))))
    (dss_one (ds_app (ps_expr (pe_bm PySem.F.plainAttrs_list PySem.F.slot_list_append PySem.F.type_list_append mt_append (pv 5) (pa_cons (pf_of (pd_op op_modN os_mod (pp_of (b_int B (pps_cons (pp_of (pd_op (op_divA bg (hr.mono (by decide))) os_div (pk 7) (pp_of (pd_int)))) (pps_nil)))) (pp_of (pd_int)))) pa_nil))))))))))
    (dss_one (ds_ret (pf_of (nm 5))))))))
theorem d_u_law_gcd (B : Bl mg) (df : Df K mg "_law_gcd" s_u_law_gcd ["a", "b"]) : Cl PySem.Challenge.pw_anycompany_k08_solve_built_systems w K mg base S 41 "_law_gcd" 2 f_u_law_gcd := by
  refine cl_of (k := 40) df sc_u_law_gcd fun f cdv A outer s H E F0 H0 hr tk po => ?_
  exact dss_cons (st_set 0 sc_u_law_gcd.nd (b_abs B (pps_cons (pk 0) (pps_nil))))
    (dss_cons (st_set 1 sc_u_law_gcd.nd (b_abs B (pps_cons (pk 1) (pps_nil))))
    (dss_cons (ds_while po (cpB op_gt os_gt (pk 1) (pp_of (pd_int))) (dss_cons (st_set 2 sc_u_law_gcd.nd (pd_op op_modN os_mod (pp_of (b_int B (pps_cons (pk 0) (pps_nil)))) (pk 1)))
    (dss_cons (st_set 0 sc_u_law_gcd.nd (nm 1))
    (dss_one (st_set 1 sc_u_law_gcd.nd (nm 2))))))
    (dss_one (ds_ret (pf_of (nm 0))))))
theorem d_u_law_low (B : Bl mg) (seer : base.NoSeer) (df : Df K mg "_law_low" s_u_law_low ["n", "d"]) (c_u_law_gcd : Cl PySem.Challenge.pw_anycompany_k08_solve_built_systems w K mg base S 41 "_law_gcd" 2 f_u_law_gcd) : Cl PySem.Challenge.pw_anycompany_k08_solve_built_systems w K mg base S 42 "_law_low" 2 f_u_law_low := by
  refine cl_of (k := 41) df sc_u_law_low fun f cdv A outer s H E F0 H0 hr tk po => ?_
  have bg := big_of (CX := L2N.CX PySem.Challenge.pw_anycompany_k08_solve_built_systems w) (P := PySem.Challenge.pw_anycompany_k08_solve_built_systems) (w := w) (K := K) (mg := mg) (f := f) (cdv := cdv) (A := A) (outer := outer) (s := s) (H := H) (E := E) (qual := "_law_low") seer rfl sc_u_law_low
  exact dss_cons (st_set 2 sc_u_law_low.nd (cl c_u_law_gcd hr (by decide) tk (pfs_cons (pf_of (nm 0)) (pfs_cons (pf_of (nm 1)) (pfs_nil)))))
    (dss_cons (ds_if (cpB op_lt os_lt (pk 1) (pp_of (pd_int))) (dss_one (st_set 2 sc_u_law_low.nd (pd_op op_sub os_sub (pp_of (pd_int)) (pk 2)))) (dss_nil))
    (dss_one (ds_ret (pf_of (pd_tup (pfs_cons (pf_of (pd_op (op_divA bg (hr.mono (by decide))) os_div (pk 0) (pk 2))) (pfs_cons (pf_of (pd_op (op_divA bg (hr.mono (by decide))) os_div (pk 1) (pk 2))) (pfs_nil))))))))
theorem d_u_law_factors (B : Bl mg) (seer : base.NoSeer) (df : Df K mg "_law_factors" s_u_law_factors ["script", "size"]) (c_u_law_cell : Cl PySem.Challenge.pw_anycompany_k08_solve_built_systems w K mg base S 41 "_law_cell" 2 f_u_law_cell) (c_u_law_draws : Cl PySem.Challenge.pw_anycompany_k08_solve_built_systems w K mg base S 41 "_law_draws" 2 f_u_law_draws) (c_u_law_low : Cl PySem.Challenge.pw_anycompany_k08_solve_built_systems w K mg base S 42 "_law_low" 2 f_u_law_low) : Cl PySem.Challenge.pw_anycompany_k08_solve_built_systems w K mg base S 43 "_law_factors" 2 f_u_law_factors := by
  refine cl_of (k := 42) df sc_u_law_factors fun f cdv A outer s H E F0 H0 hr tk po => ?_
  have bg := big_of (CX := L2N.CX PySem.Challenge.pw_anycompany_k08_solve_built_systems w) (P := PySem.Challenge.pw_anycompany_k08_solve_built_systems) (w := w) (K := K) (mg := mg) (f := f) (cdv := cdv) (A := A) (outer := outer) (s := s) (H := H) (E := E) (qual := "_law_factors") seer rfl sc_u_law_factors
  exact dss_cons (st_set 2 sc_u_law_factors.nd (pd_lst (pfs_nil)))
    (dss_cons (st_set 3 sc_u_law_factors.nd (pd_lst (pfs_nil)))
    (dss_cons (ds_for po rfl (y_rng1 B (pps_cons (pk 1) (pps_nil))) (tg 4 sc_u_law_factors.nd) (dss_cons (st_set 5 sc_u_law_factors.nd (cl c_u_law_draws hr (by decide) tk (pfs_cons (pf_of (cl c_u_law_cell hr (by decide) tk (pfs_cons (pf_of (nm 0)) (pfs_cons (pf_of (pd_op op_addA os_add (pp_of (pd_int)) (pk 4))) (pfs_nil))))) (pfs_cons (pf_of (pd_op op_mulA os_mul (pp_of (pd_int)) (pk 1))) (pfs_nil)))))
    (dss_cons (st_set 6 sc_u_law_factors.nd (pd_op op_addA os_add (pp_of (pd_lc (own := [("k", 9)]) (js := [9]) rfl sc_u_law_factors.nd (y_rng1 B (pps_cons (pk 4) (pps_nil))) (blkOk_by (N := N_u_law_factors) (sc := defScope s_u_law_factors) (by decide +kernel)) (by decide) (fun _ _ _ _ _ => tg 9 sc_u_law_factors.nd) (fun _ _ _ _ _ => pts_yes) (fun _ _ _ _ _ => pf_of (pd_tup (pfs_cons (pf_of (pd_op op_sub os_sub (pp_of (pd_op op_modN os_mod (pp_of (b_int B (pps_cons (pp_of (ix (pk 5) (pk 9))) (pps_nil)))) (pp_of (pd_int)))) (pp_of (pd_int)))) (pfs_cons (pf_of (pd_int)) (pfs_nil))))))) (pp_of (pd_lst (pfs_cons (pf_of (pd_tup (pfs_cons (pf_of (pd_int)) (pfs_cons (pf_of (pd_int)) (pfs_nil))))) (pfs_nil))))))
    (dss_cons (ds_app (ps_expr (pe_bm PySem.F.plainAttrs_list PySem.F.slot_list_append PySem.F.type_list_append mt_append (pv 2) (pa_cons (pf_of (pd_op op_addA os_add (pk 6) (pp_of (pd_lc (own := [("k", 9)]) (js := [9]) rfl sc_u_law_factors.nd (y_rng1 B (pps_cons (pp_of (pd_op op_sub os_sub (pp_of (pd_op op_sub os_sub (pk 1) (pk 4))) (pp_of (pd_int)))) (pps_nil))) (blkOk_by (N := N_u_law_factors) (sc := defScope s_u_law_factors) (by decide +kernel)) (by decide) (fun _ _ _ _ _ => tg 9 sc_u_law_factors.nd) (fun _ _ _ _ _ => pts_yes) (fun _ _ _ _ _ => pf_of (pd_tup (pfs_cons (pf_of (pd_int)) (pfs_cons (pf_of (pd_int)) (pfs_nil))))))))) pa_nil))))
    (dss_cons (st_set 7 sc_u_law_factors.nd (cl c_u_law_low hr (by decide) tk (pfs_cons (pf_of (pd_op op_addA os_add (pp_of (pd_int)) (pp_of (pd_op op_modN os_mod (pp_of (pd_op (op_divA bg (hr.mono (by decide))) os_div (pp_of (b_int B (pps_cons (pp_of (ix (pk 5) (pk 4))) (pps_nil)))) (pp_of (pd_int)))) (pp_of (pd_int)))))) (pfs_cons (pf_of (pd_op op_addA os_add (pp_of (pd_int)) (pp_of (pd_op op_modN os_mod (pp_of (pd_op (op_divA bg (hr.mono (by decide))) os_div (pp_of (b_int B (pps_cons (pp_of (ix (pk 5) (pk 4))) (pps_nil)))) (pp_of (pd_int)))) (pp_of (pd_int)))))) (pfs_nil)))))
    (dss_cons (ds_setLc (i := 8) (own := [("k", 9)]) (js := [9]) rfl sc_u_law_factors.nd rfl rfl (sw_true rfl rfl rfl (by decide +kernel)) (y_rng2 B (pps_cons (pp_of (pd_op op_addA os_add (pk 4) (pp_of (pd_int)))) (pps_cons (pk 1) (pps_nil)))) (blkOk_by (N := N_u_law_factors) (sc := defScope s_u_law_factors) (by decide +kernel)) (by decide) (fun _ _ _ _ _ => tg 9 sc_u_law_factors.nd) (fun _ _ _ _ _ => pts_yes) (fun _ _ _ _ _ => pf_of (cl c_u_law_low hr (by decide) tk0 (pfs_cons (pf_of (pd_op op_sub os_sub (pp_of (pd_op op_modN os_mod (pp_of (b_int B (pps_cons (pp_of (ix (pk 5) (pp_of (pd_op op_addA os_add (pk 1) (pk 9))))) (pps_nil)))) (pp_of (pd_int)))) (pp_of (pd_int)))) (pfs_cons (pf_of (pd_op op_addA os_add (pp_of (pd_int)) (pp_of (pd_op op_modN os_mod (pp_of (pd_op (op_divA (Big.blk bg) (hr.mono (by decide))) os_div (pp_of (b_int B (pps_cons (pp_of (ix (pk 5) (pp_of (pd_op op_addA os_add (pk 1) (pk 9))))) (pps_nil)))) (pp_of (pd_int)))) (pp_of (pd_int)))))) (pfs_nil))))))
    (dss_one (ds_app (ps_expr (pe_bm PySem.F.plainAttrs_list PySem.F.slot_list_append PySem.F.type_list_append mt_append (pv 3) (pa_cons (pf_of (pd_op op_addA os_add (pp_of (pd_op op_addA os_add (pp_of (pd_lc (own := [("k", 9)]) (js := [9]) rfl sc_u_law_factors.nd (y_rng1 B (pps_cons (pk 4) (pps_nil))) (blkOk_by (N := N_u_law_factors) (sc := defScope s_u_law_factors) (by decide +kernel)) (by decide) (fun _ _ _ _ _ => tg 9 sc_u_law_factors.nd) (fun _ _ _ _ _ => pts_yes) (fun _ _ _ _ _ => pf_of (pd_tup (pfs_cons (pf_of (pd_int)) (pfs_cons (pf_of (pd_int)) (pfs_nil))))))) (pp_of (pd_lst (pfs_cons (pf_of (nm 7)) (pfs_nil)))))) (pk 8))) pa_nil)))))))))))
    (dss_one (ds_ret (pf_of (pd_tup (pfs_cons (pf_of (nm 2)) (pfs_cons (pf_of (nm 3)) (pfs_nil)))))))))
theorem d_u_law_multiply (B : Bl mg) (df : Df K mg "_law_multiply" s_u_law_multiply ["a", "b"]) (c_u_law_low : Cl PySem.Challenge.pw_anycompany_k08_solve_built_systems w K mg base S 42 "_law_low" 2 f_u_law_low) : Cl PySem.Challenge.pw_anycompany_k08_solve_built_systems w K mg base S 43 "_law_multiply" 2 f_u_law_multiply := by
  refine cl_of (k := 42) df sc_u_law_multiply fun f cdv A outer s H E F0 H0 hr tk po => ?_
  exact dss_one (ds_ret (pf_of (cl c_u_law_low hr (by decide) tk (pfs_cons (pf_of (pd_op op_mulA os_mul (pp_of (ix (pk 0) (pp_of (pd_int)))) (pp_of (ix (pk 1) (pp_of (pd_int)))))) (pfs_cons (pf_of (pd_op op_mulA os_mul (pp_of (ix (pk 0) (pp_of (pd_int)))) (pp_of (ix (pk 1) (pp_of (pd_int)))))) (pfs_nil))))))
theorem d_u_law_add (B : Bl mg) (df : Df K mg "_law_add" s_u_law_add ["a", "b"]) (c_u_law_low : Cl PySem.Challenge.pw_anycompany_k08_solve_built_systems w K mg base S 42 "_law_low" 2 f_u_law_low) : Cl PySem.Challenge.pw_anycompany_k08_solve_built_systems w K mg base S 43 "_law_add" 2 f_u_law_add := by
  refine cl_of (k := 42) df sc_u_law_add fun f cdv A outer s H E F0 H0 hr tk po => ?_
  exact dss_one (ds_ret (pf_of (cl c_u_law_low hr (by decide) tk (pfs_cons (pf_of (pd_op op_addA os_add (pp_of (pd_op op_mulA os_mul (pp_of (ix (pk 0) (pp_of (pd_int)))) (pp_of (ix (pk 1) (pp_of (pd_int)))))) (pp_of (pd_op op_mulA os_mul (pp_of (ix (pk 1) (pp_of (pd_int)))) (pp_of (ix (pk 0) (pp_of (pd_int)))))))) (pfs_cons (pf_of (pd_op op_mulA os_mul (pp_of (ix (pk 0) (pp_of (pd_int)))) (pp_of (ix (pk 1) (pp_of (pd_int)))))) (pfs_nil))))))
theorem d_u_law_times (B : Bl mg) (df : Df K mg "_law_times" s_u_law_times ["row", "column"]) (c_u_law_multiply : Cl PySem.Challenge.pw_anycompany_k08_solve_built_systems w K mg base S 43 "_law_multiply" 2 f_u_law_multiply) (c_u_law_add : Cl PySem.Challenge.pw_anycompany_k08_solve_built_systems w K mg base S 43 "_law_add" 2 f_u_law_add) : Cl PySem.Challenge.pw_anycompany_k08_solve_built_systems w K mg base S 44 "_law_times" 2 f_u_law_times := by
  refine cl_of (k := 43) df sc_u_law_times fun f cdv A outer s H E F0 H0 hr tk po => ?_
  exact dss_cons (st_set 2 sc_u_law_times.nd (pd_tup (pfs_cons (pf_of (pd_int)) (pfs_cons (pf_of (pd_int)) (pfs_nil)))))
    (dss_cons (ds_for po rfl (y_rng1 B (pps_cons (pp_of (b_len B (pps_cons (pk 0) (pps_nil)))) (pps_nil))) (tg 3 sc_u_law_times.nd) (dss_one (st_set 2 sc_u_law_times.nd (cl c_u_law_add hr (by decide) tk (pfs_cons (pf_of (nm 2)) (pfs_cons (pf_of (cl c_u_law_multiply hr (by decide) tk (pfs_cons (pf_of (ix (pk 0) (pk 3))) (pfs_cons (pf_of (ix (pk 1) (pk 3))) (pfs_nil))))) (pfs_nil)))))))
    (dss_one (ds_ret (pf_of (nm 2)))))
theorem d_u_law_product (B : Bl mg) (df : Df K mg "_law_product" s_u_law_product ["first", "second", "width"]) (c_u_law_times : Cl PySem.Challenge.pw_anycompany_k08_solve_built_systems w K mg base S 44 "_law_times" 2 f_u_law_times) : Cl PySem.Challenge.pw_anycompany_k08_solve_built_systems w K mg base S 45 "_law_product" 3 f_u_law_product := by
  refine cl_of (k := 44) df sc_u_law_product fun f cdv A outer s H E F0 H0 hr tk po => ?_
  exact dss_one (ds_ret (pf_of (pd_lc (own := [("row", 3)]) (js := [3]) rfl sc_u_law_product.nd (py_seq (pf_of (nm 0))) (blkOk_by (N := N_u_law_product) (sc := defScope s_u_law_product) (by decide +kernel)) (by decide) (fun _ _ _ _ _ => tg 3 sc_u_law_product.nd) (fun _ _ _ _ _ => pts_yes) (fun _ _ _ _ _ => pf_of (b_tuple B (pps_cons (pp_of (pd_lc (own := [("k", 4)]) (js := [4]) rfl sc_u_law_product.nd (y_rng1 B (pps_cons (pk 2) (pps_nil))) (by refine blkOk_in (N := N_u_law_product) (sc := ?sc2) rfl ?h12 ?h22; (case h12 => refine scs (defScope s_u_law_product) (q := ?q2_0) (a := ?a2_0) ?h32_0 ?h42_0; (case h32_0 => exact comp_scope); (case h42_0 => rfl)); (case h22 => decide +kernel)) (by decide) (fun _ _ _ _ _ => tg 4 sc_u_law_product.nd) (fun _ _ _ _ _ => pts_yes) (fun _ _ _ _ _ => pf_of (cl c_u_law_times hr (by decide) tk0 (pfs_cons (pf_of (nm 3)) (pfs_cons (pf_of (pd_lc (own := [("line", 5)]) (js := [5]) rfl sc_u_law_product.nd (py_seq (pf_of (nm 1))) (by refine blkOk_in (N := N_u_law_product) (sc := ?sc1) rfl ?h11 ?h21; (case h11 => refine scss (q := ?q1_0) (a := ?a1_0) (b := ?b1_0) ?h31_0 ?h41_0; (case h31_0 => exact comp_scope); (case h41_0 => refine scs (defScope s_u_law_product) (q := ?q1_1) (a := ?a1_1) ?h31_1 ?h41_1; (case h31_1 => exact comp_scope); (case h41_1 => rfl))); (case h21 => decide +kernel)) (by decide) (fun _ _ _ _ _ => tg 5 sc_u_law_product.nd) (fun _ _ _ _ _ => pts_yes) (fun _ _ _ _ _ => pf_of (ix (pk 5) (pk 4))))) (pfs_nil))))))) (pps_nil)))))))
theorem d_whole_row (B : Bl mg) (mlcm : mg "lcm" = some (.builtin "math.lcm")) (seer : base.NoSeer) (df : Df K mg "whole_row" s_whole_row ["row"]) : Cl PySem.Challenge.pw_anycompany_k08_solve_built_systems w K mg base S 41 "whole_row" 1 f_whole_row := by
  refine cl_of (k := 40) df sc_whole_row fun f cdv A outer s H E F0 H0 hr tk po => ?_
  have bg := big_of (CX := L2N.CX PySem.Challenge.pw_anycompany_k08_solve_built_systems w) (P := PySem.Challenge.pw_anycompany_k08_solve_built_systems) (w := w) (K := K) (mg := mg) (f := f) (cdv := cdv) (A := A) (outer := outer) (s := s) (H := H) (E := E) (qual := "whole_row") seer rfl sc_whole_row
  exact dss_cons (st_set 1 sc_whole_row.nd (pd_int))
    (dss_cons (ds_for po rfl (py_seq (pf_of (nm 0))) (pgd_tup rfl (pgds_cons (tg 2 sc_whole_row.nd) (pgds_cons (tg 3 sc_whole_row.nd) (pgds_nil)))) (dss_one (st_set 1 sc_whole_row.nd (b_lcm mlcm (pps_cons (pk 1) (pps_cons (pk 3) (pps_nil)))))))
    (dss_one (ds_ret (pf_of (pd_lc (own := [("n", 4), ("d", 3)]) (js := [4, 3]) rfl sc_whole_row.nd (py_seq (pf_of (nm 0))) (blkOk_by (N := N_whole_row) (sc := defScope s_whole_row) (by decide +kernel)) (by decide) (fun _ _ _ _ _ => pgd_tup rfl (pgds_cons (tg 4 sc_whole_row.nd) (pgds_cons (tg 3 sc_whole_row.nd) (pgds_nil)))) (fun _ _ _ _ _ => pts_yes) (fun _ _ _ _ _ => pf_of (pd_op op_mulA os_mul (pk 4) (pp_of (pd_op (op_divA (Big.blk bg) (hr.mono (by decide))) os_div (pk 1) (pk 3))))))))))
theorem d_pivot_position (B : Bl mg) (df : Df K mg "pivot_position" s_pivot_position ["rows", "start"]) : Cl PySem.Challenge.pw_anycompany_k08_solve_built_systems w K mg base S 41 "pivot_position" 2 f_pivot_position := by
  refine cl_of (k := 40) df sc_pivot_position fun f cdv A outer s H E F0 H0 hr tk po => ?_
  exact dss_cons (ds_for po rfl (y_rng2 B (pps_cons (pk 1) (pps_cons (pp_of (b_len B (pps_cons (pk 0) (pps_nil)))) (pps_nil)))) (tg 2 sc_pivot_position.nd) (dss_one (ds_if (cpB op_ne os_ne (pp_of (ix (pp_of (ix (pk 0) (pk 2))) (pp_of (pd_int)))) (pp_of (pd_int))) (dss_one (ds_ret (pf_of (nm 2)))) (dss_nil))))
    (dss_one (ds_ret (pf_of (pd_non))))
theorem d_brought_up (B : Bl mg) (df : Df K mg "brought_up" s_brought_up ["rows", "first", "second"]) : Cl PySem.Challenge.pw_anycompany_k08_solve_built_systems w K mg base S 41 "brought_up" 3 f_brought_up := by
  refine cl_of (k := 40) df sc_brought_up fun f cdv A outer s H E F0 H0 hr tk po => ?_
  exact dss_one (ds_ret (pf_of (pd_op op_addA os_add (pp_of (pd_op op_addA os_add (pp_of (pd_op op_addA os_add (pp_of (pd_slice (pk 0) (po'_none) (po'_some (pk 1)))) (pp_of (pd_lst (pfs_cons (pf_of (ix (pk 0) (pk 2))) (pfs_nil)))))) (pp_of (pd_slice (pk 0) (po'_some (pk 1)) (po'_some (pk 2)))))) (pp_of (pd_slice (pk 0) (po'_some (pp_of (pd_op op_addA os_add (pk 2) (pp_of (pd_int))))) (po'_none))))))
theorem d_combined (B : Bl mg) (seer : base.NoSeer) (df : Df K mg "combined" s_combined ["row", "head", "scale"]) : Cl PySem.Challenge.pw_anycompany_k08_solve_built_systems w K mg base S 41 "combined" 3 f_combined := by
  refine cl_of (k := 40) df sc_combined fun f cdv A outer s H E F0 H0 hr tk po => ?_
  have bg := big_of (CX := L2N.CX PySem.Challenge.pw_anycompany_k08_solve_built_systems w) (P := PySem.Challenge.pw_anycompany_k08_solve_built_systems) (w := w) (K := K) (mg := mg) (f := f) (cdv := cdv) (A := A) (outer := outer) (s := s) (H := H) (E := E) (qual := "combined") seer rfl sc_combined
  exact dss_cons (st_set 3 sc_combined.nd (ix (pk 1) (pp_of (pd_int))))
    (dss_cons (st_set 4 sc_combined.nd (ix (pk 0) (pp_of (pd_int))))
    (dss_one (ds_ret (pf_of (pd_lc (own := [("x", 5), ("y", 6)]) (js := [5, 6]) rfl sc_combined.nd (py_zip B.zip (pfs_cons (pf_of (pd_slice (pk 0) (po'_some (pp_of (pd_int))) (po'_none))) (pfs_cons (pf_of (pd_slice (pk 1) (po'_some (pp_of (pd_int))) (po'_none))) (pfs_nil)))) (blkOk_by (N := N_combined) (sc := defScope s_combined) (by decide +kernel)) (by decide) (fun _ _ _ _ _ => pgd_tup rfl (pgds_cons (tg 5 sc_combined.nd) (pgds_cons (tg 6 sc_combined.nd) (pgds_nil)))) (fun _ _ _ _ _ => pts_yes) (fun _ _ _ _ _ => pf_of (pd_op (op_divA (Big.blk bg) (hr.mono (by decide))) os_div (pp_of (pd_op op_sub os_sub (pp_of (pd_op op_mulA os_mul (pk 3) (pk 5))) (pp_of (pd_op op_mulA os_mul (pk 4) (pk 6))))) (pk 2))))))))
theorem d_without_first_column (B : Bl mg) (df : Df K mg "without_first_column" s_without_first_column ["rows", "at", "scale"]) (c_combined : Cl PySem.Challenge.pw_anycompany_k08_solve_built_systems w K mg base S 41 "combined" 3 f_combined) : Cl PySem.Challenge.pw_anycompany_k08_solve_built_systems w K mg base S 42 "without_first_column" 3 f_without_first_column := by
  refine cl_of (k := 41) df sc_without_first_column fun f cdv A outer s H E F0 H0 hr tk po => ?_
  exact dss_cons (st_set 3 sc_without_first_column.nd (ix (pk 0) (pk 1)))
    (dss_cons (st_set 4 sc_without_first_column.nd (pd_lst (pfs_nil)))
    (dss_cons (ds_for po rfl (y_rng1 B (pps_cons (pp_of (b_len B (pps_cons (pk 0) (pps_nil)))) (pps_nil))) (tg 5 sc_without_first_column.nd) (dss_one (ds_if (cpB op_eq os_eq (pk 5) (pk 1)) (dss_one (ds_app (ps_expr (pe_bm PySem.F.plainAttrs_list PySem.F.slot_list_append PySem.F.type_list_append mt_append (pv 4) (pa_cons (pf_of (pd_slice (pk 3) (po'_some (pp_of (pd_int))) (po'_none))) pa_nil))))) (dss_one (ds_app (ps_expr (pe_bm PySem.F.plainAttrs_list PySem.F.slot_list_append PySem.F.type_list_append mt_append (pv 4) (pa_cons (pf_of (cl c_combined hr (by decide) tk (pfs_cons (pf_of (ix (pk 0) (pk 5))) (pfs_cons (pf_of (nm 3)) (pfs_cons (pf_of (nm 2)) (pfs_nil)))))) pa_nil))))))))
    (dss_one (ds_ret (pf_of (nm 4))))))
theorem d_eliminated (B : Bl mg) (df : Df K mg "eliminated" s_eliminated ["rows", "size"]) (c_pivot_position : Cl PySem.Challenge.pw_anycompany_k08_solve_built_systems w K mg base S 41 "pivot_position" 2 f_pivot_position) (c_brought_up : Cl PySem.Challenge.pw_anycompany_k08_solve_built_systems w K mg base S 41 "brought_up" 3 f_brought_up) (c_without_first_column : Cl PySem.Challenge.pw_anycompany_k08_solve_built_systems w K mg base S 42 "without_first_column" 3 f_without_first_column) : Cl PySem.Challenge.pw_anycompany_k08_solve_built_systems w K mg base S 43 "eliminated" 2 f_eliminated := by
  refine cl_of (k := 42) df sc_eliminated fun f cdv A outer s H E F0 H0 hr tk po => ?_
  exact dss_cons (st_set 2 sc_eliminated.nd (pd_int))
    (dss_cons (ds_for po rfl (y_rng1 B (pps_cons (pk 1) (pps_nil))) (tg 3 sc_eliminated.nd) (dss_cons (st_set 4 sc_eliminated.nd (cl c_pivot_position hr (by decide) tk (pfs_cons (pf_of (nm 0)) (pfs_cons (pf_of (nm 3)) (pfs_nil)))))
    (dss_cons (ds_if (cpB op_isN os_is (pk 4) (pp_of (pd_non))) (dss_one (ds_ret (pf_of (pd_tup (pfs_cons (pf_of (nm 0)) (pfs_cons (pf_of (nm 2)) (pfs_cons (pf_of (nm 3)) (pfs_nil)))))))) (dss_nil))
    (dss_cons (st_set 0 sc_eliminated.nd (cl c_brought_up hr (by decide) tk (pfs_cons (pf_of (nm 0)) (pfs_cons (pf_of (nm 3)) (pfs_cons (pf_of (nm 4)) (pfs_nil))))))
    (dss_cons (st_set 5 sc_eliminated.nd (ix (pp_of (ix (pk 0) (pk 3))) (pp_of (pd_int))))
    (dss_cons (st_set 0 sc_eliminated.nd (cl c_without_first_column hr (by decide) tk (pfs_cons (pf_of (nm 0)) (pfs_cons (pf_of (nm 3)) (pfs_cons (pf_of (nm 2)) (pfs_nil))))))
    (dss_one (st_set 2 sc_eliminated.nd (nm 5)))))))))
    (dss_one (ds_ret (pf_of (pd_tup (pfs_cons (pf_of (nm 0)) (pfs_cons (pf_of (nm 2)) (pfs_cons (pf_of (nm 1)) (pfs_nil)))))))))
theorem d_make_ratio (B : Bl mg) (mgcd : mg "gcd" = some (.builtin "math.gcd")) (seer : base.NoSeer) (df : Df K mg "make_ratio" s_make_ratio ["n", "d"]) : Cl PySem.Challenge.pw_anycompany_k08_solve_built_systems w K mg base S 41 "make_ratio" 2 f_make_ratio := by
  refine cl_of (k := 40) df sc_make_ratio fun f cdv A outer s H E F0 H0 hr tk po => ?_
  have bg := big_of (CX := L2N.CX PySem.Challenge.pw_anycompany_k08_solve_built_systems w) (P := PySem.Challenge.pw_anycompany_k08_solve_built_systems) (w := w) (K := K) (mg := mg) (f := f) (cdv := cdv) (A := A) (outer := outer) (s := s) (H := H) (E := E) (qual := "make_ratio") seer rfl sc_make_ratio
  exact dss_cons (ds_if (cpB op_eq os_eq (pk 1) (pp_of (pd_int))) (dss_one (ds_never)) (dss_nil))
    (dss_cons (st_set 2 sc_make_ratio.nd (b_gcd mgcd (pps_cons (pk 0) (pps_cons (pk 1) (pps_nil)))))
    (dss_cons (ds_if (cpB op_lt os_lt (pk 1) (pp_of (pd_int))) (dss_one (st_set 2 sc_make_ratio.nd (pd_un un_neg us_neg (pk 2)))) (dss_nil))
    (dss_one (ds_ret (pf_of (pd_tup (pfs_cons (pf_of (pd_op (op_divA bg (hr.mono (by decide))) os_div (pk 0) (pk 2))) (pfs_cons (pf_of (pd_op (op_divA bg (hr.mono (by decide))) os_div (pk 1) (pk 2))) (pfs_nil)))))))))
theorem d_ratio_row (B : Bl mg) (df : Df K mg "ratio_row" s_ratio_row ["wholes", "scale"]) (c_make_ratio : Cl PySem.Challenge.pw_anycompany_k08_solve_built_systems w K mg base S 41 "make_ratio" 2 f_make_ratio) : Cl PySem.Challenge.pw_anycompany_k08_solve_built_systems w K mg base S 42 "ratio_row" 2 f_ratio_row := by
  refine cl_of (k := 41) df sc_ratio_row fun f cdv A outer s H E F0 H0 hr tk po => ?_
  exact dss_one (ds_ret (pf_of (b_tuple B (pps_cons (pp_of (pd_lc (own := [("whole", 2)]) (js := [2]) rfl sc_ratio_row.nd (py_seq (pf_of (nm 0))) (blkOk_by (N := N_ratio_row) (sc := defScope s_ratio_row) (by decide +kernel)) (by decide) (fun _ _ _ _ _ => tg 2 sc_ratio_row.nd) (fun _ _ _ _ _ => pts_yes) (fun _ _ _ _ _ => pf_of (cl c_make_ratio hr (by decide) tk0 (pfs_cons (pf_of (nm 2)) (pfs_cons (pf_of (nm 1)) (pfs_nil))))))) (pps_nil)))))
theorem d_dependency (B : Bl mg) (df : Df K mg "dependency" s_dependency ["matrix"]) (c_whole_row : Cl PySem.Challenge.pw_anycompany_k08_solve_built_systems w K mg base S 41 "whole_row" 1 f_whole_row) (c_eliminated : Cl PySem.Challenge.pw_anycompany_k08_solve_built_systems w K mg base S 43 "eliminated" 2 f_eliminated) (c_ratio_row : Cl PySem.Challenge.pw_anycompany_k08_solve_built_systems w K mg base S 42 "ratio_row" 2 f_ratio_row) : Cl PySem.Challenge.pw_anycompany_k08_solve_built_systems w K mg base S 44 "dependency" 1 f_dependency := by
  refine cl_of (k := 43) df sc_dependency fun f cdv A outer s H E F0 H0 hr tk po => ?_
  exact dss_cons (st_set 1 sc_dependency.nd (b_len B (pps_cons (pk 0) (pps_nil))))
    (dss_cons (ds_setLc (i := 2) (own := [("k", 7)]) (js := [7]) rfl sc_dependency.nd rfl rfl (sw_true rfl rfl rfl (by decide +kernel)) (y_rng1 B (pps_cons (pk 1) (pps_nil))) (blkOk_by (N := N_dependency) (sc := defScope s_dependency) (by decide +kernel)) (by decide) (fun _ _ _ _ _ => tg 7 sc_dependency.nd) (fun _ _ _ _ _ => pts_yes) (fun _ _ _ _ _ => pf_of (cl c_whole_row hr (by decide) tk0 (pfs_cons (pf_of (pd_lc (own := [("row", 8)]) (js := [8]) rfl sc_dependency.nd (py_seq (pf_of (nm 0))) (by refine blkOk_in (N := N_dependency) (sc := ?sc3) rfl ?h13 ?h23; (case h13 => refine scs (defScope s_dependency) (q := ?q3_0) (a := ?a3_0) ?h33_0 ?h43_0; (case h33_0 => exact comp_scope); (case h43_0 => rfl)); (case h23 => decide +kernel)) (by decide) (fun _ _ _ _ _ => tg 8 sc_dependency.nd) (fun _ _ _ _ _ => pts_yes) (fun _ _ _ _ _ => pf_of (ix (pk 8) (pk 7))))) (pfs_nil)))))
    (dss_cons (ds_asg (pf_of (cl c_eliminated hr (by decide) tk (pfs_cons (pf_of (nm 2)) (pfs_cons (pf_of (nm 1)) (pfs_nil))))) (pgd_tup rfl (pgds_cons (tg 4 sc_dependency.nd) (pgds_cons (tg 5 sc_dependency.nd) (pgds_cons (tg 6 sc_dependency.nd) (pgds_nil))))))
    (dss_cons (st_set 3 sc_dependency.nd (pd_op op_addA os_add (pp_of (pd_op op_addA os_add (pp_of (pd_lc (own := [("row", 8)]) (js := [8]) rfl sc_dependency.nd (py_seq (pf_of (pd_slice (pk 4) (po'_none) (po'_some (pk 6))))) (blkOk_by (N := N_dependency) (sc := defScope s_dependency) (by decide +kernel)) (by decide) (fun _ _ _ _ _ => tg 8 sc_dependency.nd) (fun _ _ _ _ _ => pts_yes) (fun _ _ _ _ _ => pf_of (ix (pk 8) (pp_of (pd_int)))))) (pp_of (pd_lst (pfs_cons (pf_of (pd_un un_neg us_neg (pk 5))) (pfs_nil)))))) (pp_of (pd_op op_rep os_rep (pp_of (pd_lst (pfs_cons (pf_of (pd_int)) (pfs_nil)))) (pp_of (pd_op op_sub os_sub (pp_of (pd_op op_sub os_sub (pk 1) (pk 6))) (pp_of (pd_int))))))))
    (dss_one (ds_ret (pf_of (cl c_ratio_row hr (by decide) tk (pfs_cons (pf_of (nm 3)) (pfs_cons (pf_of (pd_int)) (pfs_nil))))))))))
theorem d_solve (B : Bl mg) (df : Df K mg "solve" s_solve ["matrix", "right"]) (c_whole_row : Cl PySem.Challenge.pw_anycompany_k08_solve_built_systems w K mg base S 41 "whole_row" 1 f_whole_row) (c_eliminated : Cl PySem.Challenge.pw_anycompany_k08_solve_built_systems w K mg base S 43 "eliminated" 2 f_eliminated) (c_dependency : Cl PySem.Challenge.pw_anycompany_k08_solve_built_systems w K mg base S 44 "dependency" 1 f_dependency) (c_ratio_row : Cl PySem.Challenge.pw_anycompany_k08_solve_built_systems w K mg base S 42 "ratio_row" 2 f_ratio_row) : Cl PySem.Challenge.pw_anycompany_k08_solve_built_systems w K mg base S 45 "solve" 2 f_solve := by
  refine cl_of (k := 44) df sc_solve fun f cdv A outer s H E F0 H0 hr tk po => ?_
  exact dss_cons (st_set 2 sc_solve.nd (b_len B (pps_cons (pk 0) (pps_nil))))
    (dss_cons (ds_setLc (i := 3) (own := [("k", 6)]) (js := [6]) rfl sc_solve.nd rfl rfl (sw_true rfl rfl rfl (by decide +kernel)) (y_rng1 B (pps_cons (pk 2) (pps_nil))) (blkOk_by (N := N_solve) (sc := defScope s_solve) (by decide +kernel)) (by decide) (fun _ _ _ _ _ => tg 6 sc_solve.nd) (fun _ _ _ _ _ => pts_yes) (fun _ _ _ _ _ => pf_of (cl c_whole_row hr (by decide) tk0 (pfs_cons (pf_of (pd_op op_addA os_add (pp_of (ix (pk 0) (pk 6))) (pp_of (ix (pk 1) (pk 6))))) (pfs_nil)))))
    (dss_cons (ds_asg (pf_of (cl c_eliminated hr (by decide) tk (pfs_cons (pf_of (nm 3)) (pfs_cons (pf_of (nm 2)) (pfs_nil))))) (pgd_tup rfl (pgds_cons (tg 3 sc_solve.nd) (pgds_cons (tg 4 sc_solve.nd) (pgds_cons (tg 5 sc_solve.nd) (pgds_nil))))))
    (dss_cons (ds_if (cpB op_lt os_lt (pk 5) (pk 2)) (dss_one (ds_ret (pf_of (pd_tup (pfs_cons (pf_of (pd_str)) (pfs_cons (pf_of (cl c_dependency hr (by decide) tk (pfs_cons (pf_of (nm 0)) (pfs_nil)))) (pfs_nil))))))) (dss_nil))
    (dss_one (ds_ret (pf_of (pd_tup (pfs_cons (pf_of (pd_str)) (pfs_cons (pf_of (b_tuple B (pps_cons (pp_of (pd_lc (own := [("row", 7)]) (js := [7]) rfl sc_solve.nd (py_seq (pf_of (nm 3))) (blkOk_by (N := N_solve) (sc := defScope s_solve) (by decide +kernel)) (by decide) (fun _ _ _ _ _ => tg 7 sc_solve.nd) (fun _ _ _ _ _ => pts_yes) (fun _ _ _ _ _ => pf_of (cl c_ratio_row hr (by decide) tk0 (pfs_cons (pf_of (nm 7)) (pfs_cons (pf_of (nm 4)) (pfs_nil))))))) (pps_nil)))) (pfs_nil))))))))))
theorem d_u_law_same (B : Bl mg) (df : Df K mg "_law_same" s_u_law_same ["actual", "due"]) {k : Nat} (hk : 40 ≤ k) {f_u_law_same : List D → FR} (c_u_law_same : Cl PySem.Challenge.pw_anycompany_k08_solve_built_systems w K mg base S k "_law_same" 2 f_u_law_same) : Cl PySem.Challenge.pw_anycompany_k08_solve_built_systems w K mg base S (k + 1) "_law_same" 2 (runF 3 (g_u_law_same f_u_law_same)) := by
  refine cl_of df sc_u_law_same fun f cdv A outer s H E F0 H0 hr tk po => ?_
  exact dss_cons (ds_if (cpB op_isN os_is (pk 1) (pp_of (pd_non))) (dss_one (ds_ret (pf_of (cp op_isN os_is (pk 0) (pp_of (pd_non)))))) (dss_nil))
    (dss_cons (ds_if (pb_of (b_isi B (pps_cons (pk 1) (pps_cons (pp_of (ty_bool B)) (pps_nil))))) (dss_one (ds_ret (pf_of (pd_and (b_isi B (pps_cons (pk 0) (pps_cons (pp_of (ty_bool B)) (pps_nil)))) (pd_one (cp op_eq os_eq (pk 0) (pk 1))))))) (dss_nil))
    (dss_cons (ds_if (pb_of (b_isi B (pps_cons (pk 1) (pps_cons (pp_of (ty_int B)) (pps_nil))))) (dss_one (ds_ret (pf_of (pd_and (b_isi B (pps_cons (pk 0) (pps_cons (pp_of (ty_int B)) (pps_nil)))) (pd_and (pd_not (b_isi B (pps_cons (pk 0) (pps_cons (pp_of (ty_bool B)) (pps_nil))))) (pd_one (cp op_eq os_eq (pk 0) (pk 1)))))))) (dss_nil))
    (dss_cons (ds_if (pb_of (b_isi B (pps_cons (pk 1) (pps_cons (pp_of (ty_str B)) (pps_nil))))) (dss_one (ds_ret (pf_of (pd_and (b_isi B (pps_cons (pk 0) (pps_cons (pp_of (ty_str B)) (pps_nil)))) (pd_one (cp op_eq os_eq (pk 0) (pk 1))))))) (dss_nil))
    (dss_cons (ds_if (pb_of (b_isi B (pps_cons (pk 1) (pps_cons (pp_of (ty_list B)) (pps_nil))))) (dss_one (ds_if (pb_pw (pwb_or (pb_not (pb_of (b_isi B (pps_cons (pk 0) (pps_cons (pp_of (ty_list B)) (pps_nil)))))) (pwb_or1 (cpB op_ne os_ne (pp_of (b_len B (pps_cons (pk 0) (pps_nil)))) (pp_of (b_len B (pps_cons (pk 1) (pps_nil)))))))) (dss_one (ds_ret (pf_of (pd_bl)))) (dss_nil))) (dss_one (ds_if (pb_pw (pwb_or (pb_not (pb_of (b_isi B (pps_cons (pk 0) (pps_cons (pp_of (ty_tuple B)) (pps_nil)))))) (pwb_or1 (cpB op_ne os_ne (pp_of (b_len B (pps_cons (pk 0) (pps_nil)))) (pp_of (b_len B (pps_cons (pk 1) (pps_nil)))))))) (dss_one (ds_ret (pf_of (pd_bl)))) (dss_nil))))
    (dss_one (ds_ret (pf_of (b_all B (pps_cons (pp_of (pd_lc (own := [("k", 2)]) (js := [2]) rfl sc_u_law_same.nd (y_rng1 B (pps_cons (pp_of (b_len B (pps_cons (pk 1) (pps_nil)))) (pps_nil))) (blkOk_by (N := N_u_law_same) (sc := defScope s_u_law_same) (by decide +kernel)) (by decide) (fun _ _ _ _ _ => tg 2 sc_u_law_same.nd) (fun _ _ _ _ _ => pts_yes) (fun _ _ _ _ _ => pf_of (cl c_u_law_same hr (Nat.le_refl _) tk0 (pfs_cons (pf_of (ix (pk 0) (pk 2))) (pfs_cons (pf_of (ix (pk 1) (pk 2))) (pfs_nil))))))) (pps_nil)) rfl))))))))
theorem d_u_law_is_integer (B : Bl mg) (df : Df K mg "_law_is_integer" s_u_law_is_integer ["value"]) : Cl PySem.Challenge.pw_anycompany_k08_solve_built_systems w K mg base S 41 "_law_is_integer" 1 f_u_law_is_integer := by
  refine cl_of (k := 40) df sc_u_law_is_integer fun f cdv A outer s H E F0 H0 hr tk po => ?_
  exact dss_one (ds_ret (pf_of (pd_and (b_isi B (pps_cons (pk 0) (pps_cons (pp_of (ty_int B)) (pps_nil)))) (pd_one (pd_not (b_isi B (pps_cons (pk 0) (pps_cons (pp_of (ty_bool B)) (pps_nil)))))))))
theorem d_u_law_is_ratio (B : Bl mg) (df : Df K mg "_law_is_ratio" s_u_law_is_ratio ["value"]) (c_u_law_is_integer : Cl PySem.Challenge.pw_anycompany_k08_solve_built_systems w K mg base S 41 "_law_is_integer" 1 f_u_law_is_integer) (c_u_law_gcd : Cl PySem.Challenge.pw_anycompany_k08_solve_built_systems w K mg base S 41 "_law_gcd" 2 f_u_law_gcd) : Cl PySem.Challenge.pw_anycompany_k08_solve_built_systems w K mg base S 42 "_law_is_ratio" 1 f_u_law_is_ratio := by
  refine cl_of (k := 41) df sc_u_law_is_ratio fun f cdv A outer s H E F0 H0 hr tk po => ?_
  exact dss_cons (ds_if (pb_pw (pwb_or (pb_not (pb_of (b_isi B (pps_cons (pk 0) (pps_cons (pp_of (ty_tuple B)) (pps_nil)))))) (pwb_or1 (cpB op_ne os_ne (pp_of (b_len B (pps_cons (pk 0) (pps_nil)))) (pp_of (pd_int)))))) (dss_one (ds_ret (pf_of (pd_bl)))) (dss_nil))
    (dss_cons (ds_if (pb_pw (pwb_or (pb_not (pb_of (cl c_u_law_is_integer hr (by decide) tk (pfs_cons (pf_of (ix (pk 0) (pp_of (pd_int)))) (pfs_nil))))) (pwb_or1 (pb_not (pb_of (cl c_u_law_is_integer hr (by decide) tk (pfs_cons (pf_of (ix (pk 0) (pp_of (pd_int)))) (pfs_nil)))))))) (dss_one (ds_ret (pf_of (pd_bl)))) (dss_nil))
    (dss_one (ds_ret (pf_of (pd_and (cp op_ge os_ge (pp_of (ix (pk 0) (pp_of (pd_int)))) (pp_of (pd_int))) (pd_one (cp op_eq os_eq (pp_of (cl c_u_law_gcd hr (by decide) tk (pfs_cons (pf_of (ix (pk 0) (pp_of (pd_int)))) (pfs_cons (pf_of (ix (pk 0) (pp_of (pd_int)))) (pfs_nil))))) (pp_of (pd_int)))))))))
theorem d_u_law_is_table (B : Bl mg) (df : Df K mg "_law_is_table" s_u_law_is_table ["table", "height", "width"]) (c_u_law_is_ratio : Cl PySem.Challenge.pw_anycompany_k08_solve_built_systems w K mg base S 42 "_law_is_ratio" 1 f_u_law_is_ratio) : Cl PySem.Challenge.pw_anycompany_k08_solve_built_systems w K mg base S 43 "_law_is_table" 3 f_u_law_is_table := by
  refine cl_of (k := 42) df sc_u_law_is_table fun f cdv A outer s H E F0 H0 hr tk po => ?_
  exact dss_cons (ds_if (pb_pw (pwb_or (pb_not (pb_of (b_isi B (pps_cons (pk 0) (pps_cons (pp_of (ty_tuple B)) (pps_nil)))))) (pwb_or1 (cpB op_ne os_ne (pp_of (b_len B (pps_cons (pk 0) (pps_nil)))) (pk 1))))) (dss_one (ds_ret (pf_of (pd_bl)))) (dss_nil))
    (dss_cons (ds_for po rfl (py_seq (pf_of (nm 0))) (tg 3 sc_u_law_is_table.nd) (dss_one (ds_if (pb_pw (pwb_or (pb_not (pb_of (b_isi B (pps_cons (pk 3) (pps_cons (pp_of (ty_tuple B)) (pps_nil)))))) (pwb_or (cpB op_ne os_ne (pp_of (b_len B (pps_cons (pk 3) (pps_nil)))) (pk 2)) (pwb_or1 (pb_not (pb_of (b_all B (pps_cons (pp_of (pd_lc (own := [("entry", 4)]) (js := [4]) rfl sc_u_law_is_table.nd (py_seq (pf_of (nm 3))) (blkOk_by (N := N_u_law_is_table) (sc := defScope s_u_law_is_table) (by decide +kernel)) (by decide) (fun _ _ _ _ _ => tg 4 sc_u_law_is_table.nd) (fun _ _ _ _ _ => pts_yes) (fun _ _ _ _ _ => pf_of (cl c_u_law_is_ratio hr (by decide) tk0 (pfs_cons (pf_of (nm 4)) (pfs_nil)))))) (pps_nil)) rfl))))))) (dss_one (ds_ret (pf_of (pd_bl)))) (dss_nil))))
    (dss_one (ds_ret (pf_of (pd_bl)))))
theorem d_u_law_replaced (B : Bl mg) (df : Df K mg "_law_replaced" s_u_law_replaced ["rows", "at", "draws"]) (c_u_law_multiply : Cl PySem.Challenge.pw_anycompany_k08_solve_built_systems w K mg base S 43 "_law_multiply" 2 f_u_law_multiply) (c_u_law_add : Cl PySem.Challenge.pw_anycompany_k08_solve_built_systems w K mg base S 43 "_law_add" 2 f_u_law_add) : Cl PySem.Challenge.pw_anycompany_k08_solve_built_systems w K mg base S 44 "_law_replaced" 3 f_u_law_replaced := by
  refine cl_of (k := 43) df sc_u_law_replaced fun f cdv A outer s H E F0 H0 hr tk po => ?_
  exact dss_cons (st_set 3 sc_u_law_replaced.nd (b_len B (pps_cons (pk 0) (pps_nil))))
    (dss_cons (st_set 4 sc_u_law_replaced.nd (pd_lc (own := [("k", 6)]) (js := [6]) rfl sc_u_law_replaced.nd (y_rng1 B (pps_cons (pk 3) (pps_nil))) (blkOk_by (N := N_u_law_replaced) (sc := defScope s_u_law_replaced) (by decide +kernel)) (by decide) (fun _ _ _ _ _ => tg 6 sc_u_law_replaced.nd) (fun _ _ _ _ _ => pts_yes) (fun _ _ _ _ _ => pf_of (pd_tup (pfs_cons (pf_of (pd_int)) (pfs_cons (pf_of (pd_int)) (pfs_nil)))))))
    (dss_cons (ds_for po rfl (y_rng1 B (pps_cons (pk 3) (pps_nil))) (tg 5 sc_u_law_replaced.nd) (dss_one (ds_if (cpB op_ne os_ne (pk 5) (pk 1)) (dss_cons (st_set 7 sc_u_law_replaced.nd (pd_tup (pfs_cons (pf_of (pd_op op_sub os_sub (pp_of (pd_op op_modN os_mod (pp_of (b_int B (pps_cons (pp_of (ix (pk 2) (pk 5))) (pps_nil)))) (pp_of (pd_int)))) (pp_of (pd_int)))) (pfs_cons (pf_of (pd_int)) (pfs_nil)))))
    (dss_one (st_set 4 sc_u_law_replaced.nd (pd_lc (own := [("k", 6)]) (js := [6]) rfl sc_u_law_replaced.nd (y_rng1 B (pps_cons (pk 3) (pps_nil))) (blkOk_by (N := N_u_law_replaced) (sc := defScope s_u_law_replaced) (by decide +kernel)) (by decide) (fun _ _ _ _ _ => tg 6 sc_u_law_replaced.nd) (fun _ _ _ _ _ => pts_yes) (fun _ _ _ _ _ => pf_of (cl c_u_law_add hr (by decide) tk0 (pfs_cons (pf_of (ix (pk 4) (pk 6))) (pfs_cons (pf_of (cl c_u_law_multiply hr (by decide) tk0 (pfs_cons (pf_of (nm 7)) (pfs_cons (pf_of (ix (pp_of (ix (pk 0) (pk 5))) (pk 6))) (pfs_nil))))) (pfs_nil))))))))) (dss_nil))))
    (dss_one (ds_ret (pf_of (pd_op op_addA os_add (pp_of (pd_op op_catA os_cat (pp_of (b_tuple B (pps_cons (pp_of (pd_slice (pk 0) (po'_none) (po'_some (pk 1)))) (pps_nil)))) (pp_of (pd_tup (pfs_cons (pf_of (b_tuple B (pps_cons (pk 4) (pps_nil)))) (pfs_nil)))))) (pp_of (b_tuple B (pps_cons (pp_of (pd_slice (pk 0) (po'_some (pp_of (pd_op op_addA os_add (pk 1) (pp_of (pd_int))))) (po'_none))) (pps_nil))))))))))
theorem d_law (B : Bl mg) (seer : base.NoSeer) {f : Addr} {fd : FuncData} (fn : Fun K "law" "law" s_law f fd) (c_u_law_cell : Cl PySem.Challenge.pw_anycompany_k08_solve_built_systems w K mg base S 41 "_law_cell" 2 f_u_law_cell) (c_u_law_draws : Cl PySem.Challenge.pw_anycompany_k08_solve_built_systems w K mg base S 41 "_law_draws" 2 f_u_law_draws) (c_u_law_factors : Cl PySem.Challenge.pw_anycompany_k08_solve_built_systems w K mg base S 43 "_law_factors" 2 f_u_law_factors) (c_u_law_product : Cl PySem.Challenge.pw_anycompany_k08_solve_built_systems w K mg base S 45 "_law_product" 3 f_u_law_product) (c_u_law_low : Cl PySem.Challenge.pw_anycompany_k08_solve_built_systems w K mg base S 42 "_law_low" 2 f_u_law_low) (c_solve : Cl PySem.Challenge.pw_anycompany_k08_solve_built_systems w K mg base S 45 "solve" 2 f_solve) (c_u_law_same : Cl PySem.Challenge.pw_anycompany_k08_solve_built_systems w K mg base S 48 "_law_same" 2 f_u_law_same) (c_u_law_is_table : Cl PySem.Challenge.pw_anycompany_k08_solve_built_systems w K mg base S 43 "_law_is_table" 3 f_u_law_is_table) (c_u_law_replaced : Cl PySem.Challenge.pw_anycompany_k08_solve_built_systems w K mg base S 44 "_law_replaced" 3 f_u_law_replaced) (c_u_law_times : Cl PySem.Challenge.pw_anycompany_k08_solve_built_systems w K mg base S 44 "_law_times" 2 f_u_law_times) : FnOk PySem.Challenge.pw_anycompany_k08_solve_built_systems w K mg base (L2N.CX PySem.Challenge.pw_anycompany_k08_solve_built_systems w) 49 f fd ["script"] (spF K S 1 f_law) := by
  refine fn_body (k := 48) fn sc_law fun cdv A outer s H E F0 H0 hr tk po => ?_
  have bg := big_of (CX := L2N.CX PySem.Challenge.pw_anycompany_k08_solve_built_systems w) (P := PySem.Challenge.pw_anycompany_k08_solve_built_systems) (w := w) (K := K) (mg := mg) (f := f) (cdv := cdv) (A := A) (outer := outer) (s := s) (H := H) (E := E) (qual := "law") seer rfl sc_law
  exact dss_cons (st_set 1 sc_law.nd (cl c_u_law_draws hr (by decide) tk (pfs_cons (pf_of (cl c_u_law_cell hr (by decide) tk (pfs_cons (pf_of (nm 0)) (pfs_cons (pf_of (pd_int)) (pfs_nil))))) (pfs_cons (pf_of (pd_int)) (pfs_nil)))))
    (dss_cons (st_set 2 sc_law.nd (pd_op op_addA os_add (pp_of (pd_int)) (pp_of (pd_op op_modN os_mod (pp_of (b_int B (pps_cons (pp_of (ix (pk 1) (pp_of (pd_int)))) (pps_nil)))) (pp_of (pd_int))))))
    (dss_cons (ds_if (cpB op_eq os_eq (pp_of (pd_op op_modN os_mod (pp_of (pd_op (op_divA bg (hr.mono (by decide))) os_div (pp_of (b_int B (pps_cons (pp_of (ix (pk 1) (pp_of (pd_int)))) (pps_nil)))) (pp_of (pd_int)))) (pp_of (pd_int)))) (pp_of (pd_int))) (dss_one (st_set 2 sc_law.nd (pd_op op_addA os_add (pp_of (pd_int)) (pp_of (pd_op op_modN os_mod (pp_of (pd_op (op_divA bg (hr.mono (by decide))) os_div (pp_of (b_int B (pps_cons (pp_of (ix (pk 1) (pp_of (pd_int)))) (pps_nil)))) (pp_of (pd_int)))) (pp_of (pd_int))))))) (dss_nil))
    (dss_cons (st_set 3 sc_law.nd (pd_op op_addA os_add (pp_of (pd_int)) (pp_of (pd_op op_modN os_mod (pp_of (b_int B (pps_cons (pp_of (ix (pk 1) (pp_of (pd_int)))) (pps_nil)))) (pp_of (pd_int))))))
    (dss_cons (st_set 4 sc_law.nd (cl c_u_law_factors hr (by decide) tk (pfs_cons (pf_of (nm 0)) (pfs_cons (pf_of (nm 2)) (pfs_nil)))))
    (dss_cons (st_set 5 sc_law.nd (cl c_u_law_product hr (by decide) tk (pfs_cons (pf_of (ix (pk 4) (pp_of (pd_int)))) (pfs_cons (pf_of (ix (pk 4) (pp_of (pd_int)))) (pfs_cons (pf_of (nm 2)) (pfs_nil))))))
    (dss_cons (st_set 6 sc_law.nd (pd_op op_modN os_mod (pp_of (b_int B (pps_cons (pp_of (ix (pk 1) (pp_of (pd_int)))) (pps_nil)))) (pk 2)))
    (dss_cons (st_set 5 sc_law.nd (pd_op op_addA os_add (pp_of (pd_slice (pk 5) (po'_some (pk 6)) (po'_none))) (pp_of (pd_slice (pk 5) (po'_none) (po'_some (pk 6))))))
    (dss_cons (st_set 7 sc_law.nd (cl c_u_law_draws hr (by decide) tk (pfs_cons (pf_of (cl c_u_law_cell hr (by decide) tk (pfs_cons (pf_of (nm 0)) (pfs_cons (pf_of (pd_int)) (pfs_nil))))) (pfs_cons (pf_of (pd_op op_addA os_add (pp_of (pd_op op_mulA os_mul (pk 2) (pk 3))) (pk 2))) (pfs_nil)))))
    (dss_cons (st_set 8 sc_law.nd (pd_lst (pfs_nil)))
    (dss_cons (ds_for po rfl (y_rng1 B (pps_cons (pk 2) (pps_nil))) (tg 9 sc_law.nd) (dss_cons (ds_setLc (i := 14) (own := [("k", 16)]) (js := [16]) rfl sc_law.nd rfl rfl (sw_true rfl rfl rfl (by decide +kernel)) (y_rng1 B (pps_cons (pk 3) (pps_nil))) (blkOk_by (N := N_law) (sc := defScope s_law) (by decide +kernel)) (by decide) (fun _ _ _ _ _ => tg 16 sc_law.nd) (fun _ _ _ _ _ => pts_yes) (fun _ _ _ _ _ => pf_of (cl c_u_law_low hr (by decide) tk0 (pfs_cons (pf_of (pd_op op_sub os_sub (pp_of (pd_op op_modN os_mod (pp_of (b_int B (pps_cons (pp_of (ix (pk 7) (pp_of (pd_op op_addA os_add (pp_of (pd_op op_mulA os_mul (pk 9) (pk 3))) (pk 16))))) (pps_nil)))) (pp_of (pd_int)))) (pp_of (pd_int)))) (pfs_cons (pf_of (pd_op op_addA os_add (pp_of (pd_int)) (pp_of (pd_op op_modN os_mod (pp_of (pd_op (op_divA (Big.blk bg) (hr.mono (by decide))) os_div (pp_of (b_int B (pps_cons (pp_of (ix (pk 7) (pp_of (pd_op op_addA os_add (pp_of (pd_op op_mulA os_mul (pk 9) (pk 3))) (pk 16))))) (pps_nil)))) (pp_of (pd_int)))) (pp_of (pd_int)))))) (pfs_nil))))))
    (dss_cons (ds_if (pb_pw (pwb_and (cpB op_eq os_eq (pk 9) (pp_of (pd_int))) (pwb_and1 (cpB op_eq os_eq (pp_of (pd_op op_modN os_mod (pp_of (b_int B (pps_cons (pp_of (ix (pk 1) (pp_of (pd_int)))) (pps_nil)))) (pp_of (pd_int)))) (pp_of (pd_int)))))) (dss_one (ds_put (ps_asg (pf_of (pd_tup (pfs_cons (pf_of (pd_op op_addA os_add (pp_of (pd_op op_pow os_pow (pp_of (pd_int)) (pp_of (pd_int)))) (pp_of (b_int B (pps_cons (pp_of (ix (pk 1) (pp_of (pd_int)))) (pps_nil)))))) (pfs_cons (pf_of (pd_int)) (pfs_nil))))) (pg_sub (pv 14) (pp_of (pd_int)) set_list)))) (dss_nil))
    (dss_one (ds_app (ps_expr (pe_bm PySem.F.plainAttrs_list PySem.F.slot_list_append PySem.F.type_list_append mt_append (pv 8) (pa_cons (pf_of (b_tuple B (pps_cons (pk 14) (pps_nil)))) pa_nil))))))))
    (dss_cons (st_set 10 sc_law.nd (b_tuple B (pps_cons (pp_of (cl c_u_law_product hr (by decide) tk (pfs_cons (pf_of (nm 5)) (pfs_cons (pf_of (nm 8)) (pfs_cons (pf_of (nm 3)) (pfs_nil)))))) (pps_nil))))
    (dss_cons (st_set 11 sc_law.nd (cl c_solve hr (by decide) tk (pfs_cons (pf_of (b_tuple B (pps_cons (pk 5) (pps_nil)))) (pfs_cons (pf_of (nm 10)) (pfs_nil)))))
    (dss_cons (ds_if (pb_pw (pwb_or (pb_not (pb_of (b_isi B (pps_cons (pk 11) (pps_cons (pp_of (ty_tuple B)) (pps_nil)))))) (pwb_or (cpB op_ne os_ne (pp_of (b_len B (pps_cons (pk 11) (pps_nil)))) (pp_of (pd_int))) (pwb_or1 (pb_not (pb_of (cl c_u_law_same hr (by decide) tk (pfs_cons (pf_of (ix (pk 11) (pp_of (pd_int)))) (pfs_cons (pf_of (pd_str)) (pfs_nil)))))))))) (dss_one (ds_ret (pf_of (pd_bl)))) (dss_nil))
    (dss_cons (ds_if (pb_pw (pwb_or (pb_not (pb_of (cl c_u_law_is_table hr (by decide) tk (pfs_cons (pf_of (ix (pk 11) (pp_of (pd_int)))) (pfs_cons (pf_of (nm 2)) (pfs_cons (pf_of (nm 3)) (pfs_nil))))))) (pwb_or1 (pb_not (pb_of (cl c_u_law_same hr (by decide) tk (pfs_cons (pf_of (ix (pk 11) (pp_of (pd_int)))) (pfs_cons (pf_of (b_tuple B (pps_cons (pk 8) (pps_nil)))) (pfs_nil))))))))) (dss_one (ds_ret (pf_of (pd_bl)))) (dss_nil))
    (dss_cons (st_set 12 sc_law.nd (cl c_u_law_replaced hr (by decide) tk (pfs_cons (pf_of (nm 5)) (pfs_cons (pf_of (pd_op op_modN os_mod (pp_of (b_int B (pps_cons (pp_of (ix (pk 1) (pp_of (pd_int)))) (pps_nil)))) (pk 2))) (pfs_cons (pf_of (pd_slice (pk 7) (po'_some (pp_of (pd_op op_mulA os_mul (pk 2) (pk 3)))) (po'_none))) (pfs_nil))))))
    (dss_cons (ds_for po rfl (py_seq (pf_of (pd_lst (pfs_cons (pf_of (nm 10)) (pfs_cons (pf_of (b_tuple B (pps_cons (pp_of (cl c_u_law_product hr (by decide) tk (pfs_cons (pf_of (nm 12)) (pfs_cons (pf_of (nm 8)) (pfs_cons (pf_of (nm 3)) (pfs_nil)))))) (pps_nil)))) (pfs_nil)))))) (tg 13 sc_law.nd) (dss_cons (st_set 11 sc_law.nd (cl c_solve hr (by decide) tk (pfs_cons (pf_of (nm 12)) (pfs_cons (pf_of (nm 13)) (pfs_nil)))))
    (dss_cons (ds_if (pb_pw (pwb_or (pb_not (pb_of (b_isi B (pps_cons (pk 11) (pps_cons (pp_of (ty_tuple B)) (pps_nil)))))) (pwb_or (cpB op_ne os_ne (pp_of (b_len B (pps_cons (pk 11) (pps_nil)))) (pp_of (pd_int))) (pwb_or1 (pb_not (pb_of (cl c_u_law_same hr (by decide) tk (pfs_cons (pf_of (ix (pk 11) (pp_of (pd_int)))) (pfs_cons (pf_of (pd_str)) (pfs_nil)))))))))) (dss_one (ds_ret (pf_of (pd_bl)))) (dss_nil))
    (dss_cons (ds_if (pb_pw (pwb_or (pb_not (pb_of (cl c_u_law_is_table hr (by decide) tk (pfs_cons (pf_of (pd_tup (pfs_cons (pf_of (ix (pk 11) (pp_of (pd_int)))) (pfs_nil)))) (pfs_cons (pf_of (pd_int)) (pfs_cons (pf_of (nm 2)) (pfs_nil))))))) (pwb_or1 (pb_not (pb_of (b_any B (pps_cons (pp_of (pd_lc (own := [("entry", 17)]) (js := [17]) rfl sc_law.nd (py_seq (pf_of (ix (pk 11) (pp_of (pd_int))))) (blkOk_by (N := N_law) (sc := defScope s_law) (by decide +kernel)) (by decide) (fun _ _ _ _ _ => tg 17 sc_law.nd) (fun _ _ _ _ _ => pts_yes) (fun _ _ _ _ _ => pf_of (cp op_ne os_ne (pp_of (ix (pk 17) (pp_of (pd_int)))) (pp_of (pd_int)))))) (pps_nil)) rfl)))))) (dss_one (ds_ret (pf_of (pd_bl)))) (dss_nil))
    (dss_one (ds_for po rfl (y_rng1 B (pps_cons (pk 2) (pps_nil))) (tg 15 sc_law.nd) (dss_one (ds_if (pb_not (pb_of (cl c_u_law_same hr (by decide) tk (pfs_cons (pf_of (cl c_u_law_times hr (by decide) tk (pfs_cons (pf_of (ix (pk 11) (pp_of (pd_int)))) (pfs_cons (pf_of (pd_lc (own := [("line", 14)]) (js := [14]) rfl sc_law.nd (py_seq (pf_of (nm 12))) (blkOk_by (N := N_law) (sc := defScope s_law) (by decide +kernel)) (by decide) (fun _ _ _ _ _ => tg 14 sc_law.nd) (fun _ _ _ _ _ => pts_yes) (fun _ _ _ _ _ => pf_of (ix (pk 14) (pk 15))))) (pfs_nil))))) (pfs_cons (pf_of (pd_tup (pfs_cons (pf_of (pd_int)) (pfs_cons (pf_of (pd_int)) (pfs_nil))))) (pfs_nil)))))) (dss_one (ds_ret (pf_of (pd_bl)))) (dss_nil)))))))))
    (dss_one (ds_ret (pf_of (pd_bl))))))))))))))))))))
end
end Law

set_option Elab.async false
set_option linter.all false
set_option maxHeartbeats 4000000
set_option maxRecDepth 100000
namespace Law
open PySem PySem.Spec PyProof.Rows L2 Evl Iv
open Dt
def xs : Xs := ⟨fun _ => .none, fun _ => ""⟩
/-- a list or a tuple -/
def LT (c : List D → D) : Prop := c = D.lst ∨ c = D.tup
theorem LT.l : LT D.lst := .inl rfl
theorem LT.t : LT D.tup := .inr rfl
theorem lt_ix {c : List D → D} (hc : LT c) {r : List Rat} {k : Nat} (h : k < r.length) : oIx (c (r.map enc)) (nI k) = some (.d (enc (r.getD k 0))) := by
  rcases hc with rfl | rfl
  · show (atI (r.map enc) (k : Int)).map Sv.d = _
    rw [atI_nat', List.getElem?_map, List.getD_eq_getElem?_getD, List.getElem?_eq_getElem h]
    rfl
  · exact ix_rews rfl h
theorem lt_len {c : List D → D} (hc : LT c) {l : List D} : cLen [c l] = some (.d (nI l.length)) := by
  rcases hc with rfl | rfl <;> rfl
theorem lt_it {c : List D → D} (hc : LT c) {l : List D} : itemsOf (c l) = some l := by
  rcases hc with rfl | rfl <;> rfl
theorem sumN_sz {f : Nat → Rat} {a : Nat} : ∀ {n : Nat}, (∀ l, l < n → Sz a (f l)) → Sz ((a + 1) * n + 1) (sumN n f)
  | 0, _ => sz_zero.mono (by omega)
  | n + 1, h => by
    have := (sumN_sz (n := n) fun l hl => h l (by omega)).add (h n (by omega))
    exact this.mono (by rw [Nat.mul_add]; omega)
theorem sumN_dv {f : Nat → Rat} {N : Nat} : ∀ {n : Nat}, (∀ l, l < n → Dv N (f l)) → Dv N (sumN n f)
  | 0, _ => Dv.int N 0
  | n + 1, h => (sumN_dv (n := n) fun l hl => h l (by omega)).add (h n (by omega))
theorem times_eq {c1 c2 : List D → D} (h1 : LT c1) (h2 : LT c2) {r c : List Rat} {n a b : Nat} (lr : r.length = n) (lc : c.length = n) (n9 : n ≤ 1000) (hr : ∀ l, l < n → Sz a (r.getD l 0)) (hc : ∀ l, l < n → Sz b (c.getD l 0)) (hB : (a + b + 1) * (n + 1) ≤ 120000000) :
    f_u_law_times [c1 (r.map enc), c2 (c.map enc)] = .ok (enc (sumN n fun l => r.getD l 0 * c.getD l 0)) := by
  obtain ⟨A, hA⟩ : ∃ A, A = c1 (r.map enc) := ⟨_, rfl⟩
  obtain ⟨C, hC⟩ : ∃ C, C = c2 (c.map enc) := ⟨_, rfl⟩
  have ln : cLen [A] = some (.d (.int (n : Int))) := by rw [hA, lt_len h1, List.length_map, lr]; rfl
  have key := for_inv (γ := γN 3) (g := (mSet 2 (mCall 2 f_u_law_add (mCons (mD (mVar 2)) (mCons (mD (mCall 2 f_u_law_multiply (mCons (mD (mOp oIx (mPk 0) (mPk 3))) (mCons (mD (mOp oIx (mPk 1) (mPk 3))) (mNil))))) (mNil)))))) (all := Iv.upTo 0 n) (env := [.fr A, .fr C, .fr (enc 0), .un])
    (fun i env => ∃ s3, env = [.fr A, .fr C, .fr (enc (sumN i fun l => r.getD l 0 * c.getD l 0)), s3]) ⟨.un, rfl⟩ (by
      rintro i x env hx ⟨s3, rfl⟩
      have hi : i < n := by
        have := (List.getElem?_eq_some_iff.mp hx).1
        rwa [upTo_len] at this
      rw [upN, List.getElem?_map, List.getElem?_range hi] at hx
      cases hx
      have x1 : oIx A (nI i) = _ := hA ▸ lt_ix h1 (r := r) (k := i) (by omega)
      have x2 : oIx C (nI i) = _ := hC ▸ lt_ix h2 (r := c) (k := i) (by omega)
      have mu := lmul_eq (hr i hi) (hc i hi) (by
        have := Nat.le_mul_of_pos_right (a + b + 1) (show 0 < n + 1 by omega)
        omega)
      have sz := sumN_sz (f := fun l => r.getD l 0 * c.getD l 0) (n := i) (a := a + b) fun l hl => (hr l (by omega)).mul (hc l (by omega))
      have ad := ladd_eq sz ((hr i hi).mul (hc i hi)) (by
        have := Nat.mul_le_mul_left (a + b + 1) (show i + 1 ≤ n + 1 by omega)
        rw [Nat.mul_add] at this
        omega)
      refine ⟨_, [.fr A, .fr C, .fr (enc (sumN (i + 1) fun l => r.getD l 0 * c.getD l 0)), .fr (nI i)], rfl, ?_, _, rfl⟩
      show (mSet _ _) [.fr A, .fr C, .fr (enc (sumN i fun l => r.getD l 0 * c.getD l 0)), .fr (nI i)] = _
      have e : (sumN (i + 1) fun l => r.getD l 0 * c.getD l 0) = sumN i (fun l => r.getD l 0 * c.getD l 0) + r.getD i 0 * c.getD i 0 := rfl
      rw [e]
      clear hA hC ln
      generalize enc (sumN i (fun l => r.getD l 0 * c.getD l 0) + r.getD i 0 * c.getD i 0) = f1 at *
      generalize enc (sumN i fun l => r.getD l 0 * c.getD l 0) = f2 at *
      generalize enc (r.getD i 0 * c.getD i 0) = f3 at *
      generalize enc (r.getD i 0) = f4 at *
      generalize enc (c.getD i 0) = f5 at *
      generalize nI i = f6 at *
      simp [x1, x2, mu, ad])
  obtain ⟨env', k1, s3, rfl⟩ := key
  rw [upTo_len] at k1
  have hsm : small (n : Int) = true := small_nat (by omega)
  rw [← hA, ← hC]
  clear hA hC
  generalize enc (sumN n fun l => r.getD l 0 * c.getD l 0) = f1 at *
  simp [f_u_law_times, g_u_law_times, enc_zero, ln, hsm, k1]
def mulM (F G : List (List Rat)) (w : Nat) : List (List Rat) := F.map fun r => (List.range w).map fun k => sumN G.length fun l => r.getD l 0 * ent G l k
def rowsD' (cF cf : List D → D) (F : List (List Rat)) : D := cF (F.map fun r => cf (r.map enc))
theorem product_eq {cF cf cG cg : List D → D} (hcF : LT cF) (hcf : LT cf) (hcG : LT cG) (hcg : LT cg) {F G : List (List Rat)} {w n a b : Nat} (lF : F.length ≤ 1000) (wF : ∀ r ∈ F, r.length = n) (lG : G.length = n) (wG : ∀ r ∈ G, r.length = w) (n9 : n ≤ 1000) (w9 : w ≤ 1000)
    (zF : ∀ r ∈ F, ∀ q ∈ r, Sz a q) (zG : ∀ r ∈ G, ∀ q ∈ r, Sz b q) (hB : (a + b + 1) * (n + 1) ≤ 120000000) :
    f_u_law_product [rowsD' cF cf F, rowsD' cG cg G, nI w] = .ok (.lst ((mulM F G w).map qT)) := by
  obtain ⟨A, hA⟩ : ∃ A, A = rowsD' cF cf F := ⟨_, rfl⟩
  obtain ⟨C, hC⟩ : ∃ C, C = rowsD' cG cg G := ⟨_, rfl⟩
  have itA : itemsOf A = some (F.map fun r => cf (r.map enc)) := by rw [hA]; exact lt_it hcF
  have itC : itemsOf C = some (G.map fun r => cg (r.map enc)) := by rw [hC]; exact lt_it hcG
  have lA9 : (F.map fun r => cf (r.map enc)).length ≤ 90000 := by rw [List.length_map]; omega
  have lC9 : (G.map fun r => cg (r.map enc)).length ≤ 90000 := by rw [List.length_map]; omega
  have hsw : small (w : Int) = true := small_nat (by omega)
  have lw : (Iv.upTo 0 w).length ≤ 90000 := by rw [upTo_len]; omega
  have c1 := compL_map (enc := fun r : List Rat => cf (r.map enc)) (vs := [3]) (γ := γN 3) (cond := mYes) (elt := mD (mCl cTuple (mCons (mD (mLc [4] (γN 4) (mRng1 (mCons (mPk 2) (mNil))) (mYes) (mD (mCall 2 f_u_law_times (mCons (mD (mVar 3)) (mCons (mD (mLc [5] (γN 5) (mIt (mD (mVar 1))) (mYes) (mD (mOp oIx (mPk 5) (mPk 4))))) (mNil))))))) (mNil)))) (env := [.fr A, .fr C, .fr (nI w), .un, .un, .un]) (h := fun r => qT ((List.range w).map fun k => sumN G.length fun l => r.getD l 0 * ent G l k)) (xs := F) (acc := []) (fun r hr => by
    have c2 := comp_n (f := mD (mCall 2 f_u_law_times (mCons (mD (mVar 3)) (mCons (mD (mLc [5] (γN 5) (mIt (mD (mVar 1))) (mYes) (mD (mOp oIx (mPk 5) (mPk 4))))) (mNil))))) (n := w) (j := 4) (env := [.fr A, .fr C, .fr (nI w), .fr (cf (r.map enc)), .un, .un]) (h := fun k => enc (sumN G.length fun l => r.getD l 0 * ent G l k)) (fun k hk => by
      have c3 := compL_map (enc := fun g : List Rat => cg (g.map enc)) (vs := [5]) (γ := γN 5) (cond := mYes) (elt := mD (mOp oIx (mPk 5) (mPk 4))) (env := [.fr A, .fr C, .fr (nI w), .fr (cf (r.map enc)), .fr (nI k), .un]) (h := fun g : List Rat => enc (g.getD k 0)) (xs := G) (acc := []) (fun g hg => by
        have ix := lt_ix hcg (r := g) (k := k) (by rw [wG g hg]; exact hk)
        refine ⟨[.fr A, .fr C, .fr (nI w), .fr (cf (r.map enc)), .fr (nI k), .fr (cg (g.map enc))], _, [.fr A, .fr C, .fr (nI w), .fr (cf (r.map enc)), .fr (nI k), .fr (cg (g.map enc))], rfl, rfl, ?_, rfl⟩
        generalize cg (g.map enc) = f1 at *
        generalize cf (r.map enc) = f2 at *
        generalize enc (g.getD k 0) = f3 at *
        generalize nI k = f4 at *
        simp [ix])
      rw [List.nil_append] at c3
      have e3 : (G.map fun g => enc (g.getD k 0)) = (G.map fun g => g.getD k 0).map enc := by rw [List.map_map]; rfl
      rw [e3] at c3
      have tm := times_eq (c1 := cf) (c2 := D.lst) hcf LT.l (r := r) (c := G.map fun g => g.getD k 0) (n := n) (a := a) (b := b) (wF r hr) (by rw [List.length_map]; exact lG) n9 (fun l hl => by
        rw [List.getD_eq_getElem?_getD, List.getElem?_eq_getElem (by rw [wF r hr]; exact hl)]
        exact zF r hr _ (List.getElem_mem _)) (fun l hl => by
        rw [List.getD_eq_getElem?_getD, List.getElem?_map, List.getElem?_eq_getElem (by omega)]
        show Sz b ((G[l]).getD k 0)
        rw [List.getD_eq_getElem?_getD, List.getElem?_eq_getElem (by rw [wG _ (List.getElem_mem _)]; exact hk)]
        exact zG _ (List.getElem_mem _) _ (List.getElem_mem _)) hB
      have es : (sumN n fun l => r.getD l 0 * (G.map fun g => g.getD k 0).getD l 0) = sumN G.length fun l => r.getD l 0 * ent G l k := by
        rw [lG]
        exact sumN_congr fun l hl => by rw [col_get (by omega)]
      rw [es] at tm
      refine ⟨[.fr A, .fr C, .fr (nI w), .fr (cf (r.map enc)), .fr (nI k), .un], ?_, rfl⟩
      have e : (.int (k : Int) : D) = nI k := rfl
      rw [e]
      clear hA hC
      generalize (G.map fun g => g.getD k 0).map enc = f1 at *
      generalize (G.map fun g => cg (g.map enc)) = f5 at *
      generalize cf (r.map enc) = f2 at *
      generalize enc (sumN G.length fun l => r.getD l 0 * ent G l k) = f3 at *
      generalize nI k = f4 at *
      simp [itC, lC9, c3, tm])
    refine ⟨[.fr A, .fr C, .fr (nI w), .fr (cf (r.map enc)), .un, .un], _, [.fr A, .fr C, .fr (nI w), .fr (cf (r.map enc)), .un, .un], rfl, rfl, ?_, rfl⟩
    have e2 : qT ((List.range w).map fun k => sumN G.length fun l => r.getD l 0 * ent G l k) = .tup ((List.range w).map fun k => enc (sumN G.length fun l => r.getD l 0 * ent G l k)) := by
      unfold qT
      rw [List.map_map]
      rfl
    rw [e2]
    clear hA hC
    generalize ((List.range w).map fun k => enc (sumN G.length fun l => r.getD l 0 * ent G l k)) = f1 at *
    generalize cf (r.map enc) = f2 at *
    unfold nI at *
    simp [hsw, lw, c2])
  rw [List.nil_append] at c1
  have e1 : (F.map fun r => qT ((List.range w).map fun k => sumN G.length fun l => r.getD l 0 * ent G l k)) = (mulM F G w).map qT := by
    unfold mulM
    rw [List.map_map]
    rfl
  rw [e1] at c1
  rw [← hA, ← hC]
  clear hA hC
  generalize (mulM F G w).map qT = f1 at *
  generalize (F.map fun r => cf (r.map enc)) = f2 at *
  generalize nI w = f3 at *
  simp [f_u_law_product, g_u_law_product, itA, lA9, c1]
end Law
namespace Law
open PySem PySem.Spec PyProof.Rows L2 Evl Iv
open Dt
theorem enc_int {z : Int} : D.tup [.int z, .int 1] = enc (z : Rat) := rfl
theorem int_sz {z : Int} {b : Nat} (h : z.natAbs < 2 ^ b) (h1 : 1 ≤ b) : Sz b ((z : Int) : Rat) := ⟨h, by
  show 1 < 2 ^ b
  exact Nat.one_lt_two_pow (by omega)⟩
theorem eqL_three {f : Nat → Rat} {i k : Nat} : eqL (i + 1 + k) f = eqL i f ++ [enc (f i)] ++ (List.range k).map fun l => enc (f (i + 1 + l)) := by
  unfold eqL
  rw [List.range_add, List.map_append, List.range_succ, List.map_append, List.map_map]
  rfl
theorem eqL_map {n : Nat} {f : Nat → Rat} : ((List.range n).map f).map enc = eqL n f := by
  unfold eqL
  rw [List.map_map]
  rfl
theorem rngD {n l : Nat} {f : Nat → Rat} (h : l < n) : ((List.range n).map f).getD l 0 = f l := by
  rw [List.getD_eq_getElem?_getD, List.getElem?_map, List.getElem?_range h]
  rfl
structure PL (n i : Nat) (r : List Rat) : Prop where
  len : r.length = n
  out : ∀ l, i < l → l < n → r.getD l 0 = 0
  one : r.getD i 0 = 1
  sz : ∀ q ∈ r, Sz 3 q ∧ Dv 1 q
structure PU (n i : Nat) (r : List Rat) : Prop where
  len : r.length = n
  out : ∀ l, l < i → r.getD l 0 = 0
  ne : r.getD i 0 ≠ 0
  sz : ∀ q ∈ r, Sz 4 q ∧ Dv 6 q
noncomputable def fB1 (rest : M Fl) : M Fl := (mSeq (mSet 5 (mCall 2 f_u_law_draws (mCons (mD (mCall 2 f_u_law_cell (mCons (mD (mVar 0)) (mCons (mD (mOp oAdd (mD (mC (.int 1))) (mPk 4))) (mNil))))) (mCons (mD (mOp oMul (mD (mC (.int 2))) (mPk 1))) (mNil)))))
    (mSeq (mSet 6 (mOp oAdd (mD (mLc [9] (γN 9) (mRng1 (mCons (mPk 4) (mNil))) (mYes) (mD (mTup (mCons (mD (mOp oSub (mD (mOp oMod (mD (mCl cInt (mCons (mD (mOp oIx (mPk 5) (mPk 9))) (mNil)))) (mD (mC (.int 7))))) (mD (mC (.int 3))))) (mCons (mD (mC (.int 1))) (mNil))))))) (mD (mLst (mCons (mD (mTup (mCons (mD (mC (.int 1))) (mCons (mD (mC (.int 1))) (mNil))))) (mNil))))))
    (mSeq (mApp 2 (mD (mOp oAdd (mPk 6) (mD (mLc [9] (γN 9) (mRng1 (mCons (mD (mOp oSub (mD (mOp oSub (mPk 1) (mPk 4))) (mD (mC (.int 1))))) (mNil))) (mYes) (mD (mTup (mCons (mD (mC (.int 0))) (mCons (mD (mC (.int 1))) (mNil)))))))))) rest)))
noncomputable def fB2 : M Fl := (mSeq (mSet 7 (mCall 2 f_u_law_low (mCons (mD (mOp oAdd (mD (mC (.int 1))) (mD (mOp oMod (mD (mOp oDiv (mD (mCl cInt (mCons (mD (mOp oIx (mPk 5) (mPk 4))) (mNil)))) (mD (mC (.int 7))))) (mD (mC (.int 4))))))) (mCons (mD (mOp oAdd (mD (mC (.int 1))) (mD (mOp oMod (mD (mOp oDiv (mD (mCl cInt (mCons (mD (mOp oIx (mPk 5) (mPk 4))) (mNil)))) (mD (mC (.int 28))))) (mD (mC (.int 3))))))) (mNil)))))
    (mSeq (mSet 8 (mLc [9] (γN 9) (mRng2 (mCons (mD (mOp oAdd (mPk 4) (mD (mC (.int 1))))) (mCons (mPk 1) (mNil)))) (mYes) (mD (mCall 2 f_u_law_low (mCons (mD (mOp oSub (mD (mOp oMod (mD (mCl cInt (mCons (mD (mOp oIx (mPk 5) (mD (mOp oAdd (mPk 1) (mPk 9))))) (mNil)))) (mD (mC (.int 7))))) (mD (mC (.int 3))))) (mCons (mD (mOp oAdd (mD (mC (.int 1))) (mD (mOp oMod (mD (mOp oDiv (mD (mCl cInt (mCons (mD (mOp oIx (mPk 5) (mD (mOp oAdd (mPk 1) (mPk 9))))) (mNil)))) (mD (mC (.int 7))))) (mD (mC (.int 2))))))) (mNil)))))))
    (mApp 3 (mD (mOp oAdd (mD (mOp oAdd (mD (mLc [9] (γN 9) (mRng1 (mCons (mPk 4) (mNil))) (mYes) (mD (mTup (mCons (mD (mC (.int 0))) (mCons (mD (mC (.int 1))) (mNil))))))) (mD (mLst (mCons (mD (mVar 7)) (mNil)))))) (mPk 8))))))
noncomputable def fB : M Fl := fB1 fB2
theorem ix_dn {n k : Nat} {xs : List Int} (hx : Dr n xs) (hk : k < n) : oIx (.lst (xs.map D.int)) (nI k) = some (.d (.int (gt xs k))) := by
  show (atI (xs.map D.int) ((k : Nat) : Int)).map Sv.d = _
  rw [at_int (by rw [hx.1]; exact hk)]
  rfl
theorem fmod_b {x : Int} {k : Nat} (hk : 0 < k) : 0 ≤ x.fmod (k : Int) ∧ x.fmod (k : Int) < k := by
  rw [fm hk]
  exact ⟨Int.emod_nonneg x (by omega), Int.emod_lt_of_pos x (by omega)⟩
theorem rng2_of {f : M (List D)} {env env' : En} {a b : Int} {k : Nat} (h : f env = .ok [.int a, .int b] env') (ha : small a = true) (hb : small b = true) (hk : (b - a).toNat = k) : mRng2 f env = .ok (Iv.upTo a k) env' := by
  rw [mRng2_eq, h, ← hk]
  show (if small a = true ∧ small b = true then _ else _) = _
  rw [if_pos ⟨ha, hb⟩]
theorem fB1_end {ns : List Int} {n i k : Nat} {i1 i2 i3 cv g1 pa pb pc pd : Int} {LL UU XL f2 f3 f4 f5 zk zi f6 f7 : List D} {f1 : D} {s5 s6 s7 s8 : Sl}
    (a0 : oAdd (.int 1) (nI i) = some (.d (.int i1))) (c0 : f_u_law_cell [.scr ns, .int i1] = .ok (.int cv)) (mm : oMul (.int 2) (nI n) = some (.d (.int i2))) (dw : f_u_law_draws [.int cv, .int i2] = .ok (.lst XL))
    (hsi : small (i : Int) = true) (lii : (Iv.upTo 0 i).length ≤ 90000)
    (cA : compL [9] (γN 9) mYes (mD (mTup (mCons (mD (mOp oSub (mD (mOp oMod (mD (mCl cInt (mCons (mD (mOp oIx (mPk 5) (mPk 9))) (mNil)))) (mD (mC (.int 7))))) (mD (mC (.int 3))))) (mCons (mD (mC (.int 1))) (mNil))))) (Iv.upTo 0 i) [] [.fr (.scr ns), .fr (nI n), .ow LL, .ow UU, .fr (nI i), .fr (.lst XL), s6, s7, s8, .un] = .ok f4 [.fr (.scr ns), .fr (nI n), .ow LL, .ow UU, .fr (nI i), .fr (.lst XL), s6, s7, s8, .un])
    (aA : oAdd (.lst f4) (.lst [enc 1]) = some (.l f6)) (sb1 : oSub (nI n) (nI i) = some (.d (.int i3))) (sb2 : oSub (.int i3) (.int 1) = some (.d (.int (k : Int)))) (hsk : small (k : Int) = true) (lkk : (Iv.upTo 0 k).length ≤ 90000)
    (zB : ∀ (env : En), env[9]? = some .un → compL [9] (γN 9) mYes (mD (mTup (mCons (mD (mC (.int 0))) (mCons (mD (mC (.int 1))) (mNil))))) (Iv.upTo 0 k) [] env = .ok zk env)
    (aB : oAdd (.lst f6) (.lst zk) = some (.l f2)) (hLL : LL.length < 90000)
    (xi : oIx (.lst XL) (nI i) = some (.d (.int g1))) (d7 : oDiv (.int g1) (.int 7) = some (.d (.int pa))) (m4 : oMod (.int pa) (.int 4) = some (.d (.int pb))) (d28 : oDiv (.int g1) (.int 28) = some (.d (.int pc))) (m3 : oMod (.int pc) (.int 3) = some (.d (.int pd)))
    (lo : f_u_law_low [.int (1 + pb), .int (1 + pd)] = .ok f1) (a1 : oAdd (nI i) (.int 1) = some (.d (.int ((i : Int) + 1)))) (hs1 : small ((i : Int) + 1) = true) (hsn : small (n : Int) = true) (kn : ((n : Int) - ((i : Int) + 1)).toNat = k) (lk2 : (Iv.upTo ((i : Int) + 1) k).length ≤ 90000)
    (r2 : ∀ t6 : Sl, compL [9] (γN 9) mYes (mD (mCall 2 f_u_law_low (mCons (mD (mOp oSub (mD (mOp oMod (mD (mCl cInt (mCons (mD (mOp oIx (mPk 5) (mD (mOp oAdd (mPk 1) (mPk 9))))) (mNil)))) (mD (mC (.int 7))))) (mD (mC (.int 3))))) (mCons (mD (mOp oAdd (mD (mC (.int 1))) (mD (mOp oMod (mD (mOp oDiv (mD (mCl cInt (mCons (mD (mOp oIx (mPk 5) (mD (mOp oAdd (mPk 1) (mPk 9))))) (mNil)))) (mD (mC (.int 7))))) (mD (mC (.int 2))))))) (mNil))))) (Iv.upTo ((i : Int) + 1) k) [] [.fr (.scr ns), .fr (nI n), .ow (LL ++ [.lst f2]), .ow UU, .fr (nI i), .fr (.lst XL), t6, .fr f1, s8, .un] = .ok f5 [.fr (.scr ns), .fr (nI n), .ow (LL ++ [.lst f2]), .ow UU, .fr (nI i), .fr (.lst XL), t6, .fr f1, s8, .un])
    (zD : ∀ (env : En), env[9]? = some .un → compL [9] (γN 9) mYes (mD (mTup (mCons (mD (mC (.int 0))) (mCons (mD (mC (.int 1))) (mNil))))) (Iv.upTo 0 i) [] env = .ok zi env)
    (aC : oAdd (.lst zi) (.lst [f1]) = some (.l f7)) (aD : oAdd (.lst f7) (.lst f5) = some (.l f3)) (hUU : UU.length < 90000) (rest : M Fl) :
    fB1 rest [.fr (.scr ns), .fr (nI n), .ow LL, .ow UU, .fr (nI i), s5, s6, s7, s8, .un] = rest [.fr (.scr ns), .fr (nI n), .ow (LL ++ [.lst f2]), .ow UU, .fr (nI i), .fr (.lst XL), .ow f6, s7, s8, .un] := by
  clear r2 zD aC aD hUU lo m3 d28 m4 d7 xi a1 hs1 hsn kn lk2
  unfold nI at *
  simp [fB1, a0, c0, mm, dw, hsi, lii, cA, enc_one, aA, sb1, sb2, hsk, lkk, zB, aB, hLL]
theorem fB_g7 {ns : List Int} {n i : Nat} {g1 pa pb pc pd p e : Int} {l0 LL UU XL f2 f3 f5 zi f6 f7 : List D} {f1 : D} {UP : List D} {s7 s8 : Sl}
       
    (hsi : small (i : Int) = true) (lii : (Iv.upTo 0 i).length ≤ 90000)
    
        
    
     
    (xi : oIx (.lst XL) (nI i) = some (.d (.int g1))) (d7 : oDiv (.int g1) (.int 7) = some (.d (.int pa))) (m4 : oMod (.int pa) (.int 4) = some (.d (.int pb))) (d28 : oDiv (.int g1) (.int 28) = some (.d (.int pc))) (m3 : oMod (.int pc) (.int 3) = some (.d (.int pd)))
    (p7 : oAdd (.int 1) (.int pb) = some (.d (.int p))) (e7 : oAdd (.int 1) (.int pd) = some (.d (.int e))) (lo : f_u_law_low [.int p, .int e] = .ok f1)     (lk2 : UP.length ≤ 90000)
    (rg : ∀ t6 : Sl, mRng2 (mCons (mD (mOp oAdd (mPk 4) (mD (mC (.int 1))))) (mCons (mPk 1) (mNil))) [.fr (.scr ns), .fr (nI n), .ow (l0), .ow UU, .fr (nI i), .fr (.lst XL), t6, .fr f1, s8, .un] = .ok UP [.fr (.scr ns), .fr (nI n), .ow (l0), .ow UU, .fr (nI i), .fr (.lst XL), t6, .fr f1, s8, .un])
    (r2 : ∀ t6 : Sl, compL [9] (γN 9) mYes (mD (mCall 2 f_u_law_low (mCons (mD (mOp oSub (mD (mOp oMod (mD (mCl cInt (mCons (mD (mOp oIx (mPk 5) (mD (mOp oAdd (mPk 1) (mPk 9))))) (mNil)))) (mD (mC (.int 7))))) (mD (mC (.int 3))))) (mCons (mD (mOp oAdd (mD (mC (.int 1))) (mD (mOp oMod (mD (mOp oDiv (mD (mCl cInt (mCons (mD (mOp oIx (mPk 5) (mD (mOp oAdd (mPk 1) (mPk 9))))) (mNil)))) (mD (mC (.int 7))))) (mD (mC (.int 2))))))) (mNil))))) UP [] [.fr (.scr ns), .fr (nI n), .ow (l0), .ow UU, .fr (nI i), .fr (.lst XL), t6, .fr f1, s8, .un] = .ok f5 [.fr (.scr ns), .fr (nI n), .ow (l0), .ow UU, .fr (nI i), .fr (.lst XL), t6, .fr f1, s8, .un])
    (zD : ∀ (env : En), env[9]? = some .un → compL [9] (γN 9) mYes (mD (mTup (mCons (mD (mC (.int 0))) (mCons (mD (mC (.int 1))) (mNil))))) (Iv.upTo 0 i) [] env = .ok zi env)
    (aC : oAdd (.lst zi) (.lst [f1]) = some (.l f7)) (aD : oAdd (.lst f7) (.lst f5) = some (.l f3)) (hUU : UU.length < 90000) :
    (mSet 7 (mCall 2 f_u_law_low (mCons (mD (mOp oAdd (mD (mC (.int 1))) (mD (mOp oMod (mD (mOp oDiv (mD (mCl cInt (mCons (mD (mOp oIx (mPk 5) (mPk 4))) (mNil)))) (mD (mC (.int 7))))) (mD (mC (.int 4))))))) (mCons (mD (mOp oAdd (mD (mC (.int 1))) (mD (mOp oMod (mD (mOp oDiv (mD (mCl cInt (mCons (mD (mOp oIx (mPk 5) (mPk 4))) (mNil)))) (mD (mC (.int 28))))) (mD (mC (.int 3))))))) (mNil))))) [.fr (.scr ns), .fr (nI n), .ow l0, .ow UU, .fr (nI i), .fr (.lst XL), .ow f6, s7, s8, .un] = .ok .nx [.fr (.scr ns), .fr (nI n), .ow l0, .ow UU, .fr (nI i), .fr (.lst XL), .ow f6, .fr f1, s8, .un] := by
  unfold nI at *
  simp [-mRng2_eq, -oAdd_int, p7, e7, hsi, lii, xi, d7, m4, d28, m3, lo, lk2, rg, r2, zD, aC, aD, hUU]
theorem fB_g8 {ns : List Int} {n i : Nat} {g1 pa pb pc pd p e : Int} {l0 LL UU XL f2 f3 f5 zi f6 f7 : List D} {f1 : D} {UP : List D} {s7 s8 : Sl}
       
    (hsi : small (i : Int) = true) (lii : (Iv.upTo 0 i).length ≤ 90000)
    
        
    
     
    (xi : oIx (.lst XL) (nI i) = some (.d (.int g1))) (d7 : oDiv (.int g1) (.int 7) = some (.d (.int pa))) (m4 : oMod (.int pa) (.int 4) = some (.d (.int pb))) (d28 : oDiv (.int g1) (.int 28) = some (.d (.int pc))) (m3 : oMod (.int pc) (.int 3) = some (.d (.int pd)))
    (p7 : oAdd (.int 1) (.int pb) = some (.d (.int p))) (e7 : oAdd (.int 1) (.int pd) = some (.d (.int e))) (lo : f_u_law_low [.int p, .int e] = .ok f1)     (lk2 : UP.length ≤ 90000)
    (rg : ∀ t6 : Sl, mRng2 (mCons (mD (mOp oAdd (mPk 4) (mD (mC (.int 1))))) (mCons (mPk 1) (mNil))) [.fr (.scr ns), .fr (nI n), .ow (l0), .ow UU, .fr (nI i), .fr (.lst XL), t6, .fr f1, s8, .un] = .ok UP [.fr (.scr ns), .fr (nI n), .ow (l0), .ow UU, .fr (nI i), .fr (.lst XL), t6, .fr f1, s8, .un])
    (r2 : ∀ t6 : Sl, compL [9] (γN 9) mYes (mD (mCall 2 f_u_law_low (mCons (mD (mOp oSub (mD (mOp oMod (mD (mCl cInt (mCons (mD (mOp oIx (mPk 5) (mD (mOp oAdd (mPk 1) (mPk 9))))) (mNil)))) (mD (mC (.int 7))))) (mD (mC (.int 3))))) (mCons (mD (mOp oAdd (mD (mC (.int 1))) (mD (mOp oMod (mD (mOp oDiv (mD (mCl cInt (mCons (mD (mOp oIx (mPk 5) (mD (mOp oAdd (mPk 1) (mPk 9))))) (mNil)))) (mD (mC (.int 7))))) (mD (mC (.int 2))))))) (mNil))))) UP [] [.fr (.scr ns), .fr (nI n), .ow (l0), .ow UU, .fr (nI i), .fr (.lst XL), t6, .fr f1, s8, .un] = .ok f5 [.fr (.scr ns), .fr (nI n), .ow (l0), .ow UU, .fr (nI i), .fr (.lst XL), t6, .fr f1, s8, .un])
    (zD : ∀ (env : En), env[9]? = some .un → compL [9] (γN 9) mYes (mD (mTup (mCons (mD (mC (.int 0))) (mCons (mD (mC (.int 1))) (mNil))))) (Iv.upTo 0 i) [] env = .ok zi env)
    (aC : oAdd (.lst zi) (.lst [f1]) = some (.l f7)) (aD : oAdd (.lst f7) (.lst f5) = some (.l f3)) (hUU : UU.length < 90000) :
    (mSet 8 (mLc [9] (γN 9) (mRng2 (mCons (mD (mOp oAdd (mPk 4) (mD (mC (.int 1))))) (mCons (mPk 1) (mNil)))) (mYes) (mD (mCall 2 f_u_law_low (mCons (mD (mOp oSub (mD (mOp oMod (mD (mCl cInt (mCons (mD (mOp oIx (mPk 5) (mD (mOp oAdd (mPk 1) (mPk 9))))) (mNil)))) (mD (mC (.int 7))))) (mD (mC (.int 3))))) (mCons (mD (mOp oAdd (mD (mC (.int 1))) (mD (mOp oMod (mD (mOp oDiv (mD (mCl cInt (mCons (mD (mOp oIx (mPk 5) (mD (mOp oAdd (mPk 1) (mPk 9))))) (mNil)))) (mD (mC (.int 7))))) (mD (mC (.int 2))))))) (mNil))))))) [.fr (.scr ns), .fr (nI n), .ow l0, .ow UU, .fr (nI i), .fr (.lst XL), .ow f6, .fr f1, s8, .un] = .ok .nx [.fr (.scr ns), .fr (nI n), .ow l0, .ow UU, .fr (nI i), .fr (.lst XL), .ow f6, .fr f1, .ow f5, .un] := by
  unfold nI at *
  simp [-mRng2_eq, -oAdd_int, p7, e7, hsi, lii, xi, d7, m4, d28, m3, lo, lk2, rg, r2, zD, aC, aD, hUU]
theorem fB_g9 {ns : List Int} {n i : Nat} {g1 pa pb pc pd p e : Int} {l0 LL UU XL f2 f3 f5 zi f6 f7 : List D} {f1 : D} {UP : List D} {s7 s8 : Sl}
       
    (hsi : small (i : Int) = true) (lii : (Iv.upTo 0 i).length ≤ 90000)
    
        
    
     
    (xi : oIx (.lst XL) (nI i) = some (.d (.int g1))) (d7 : oDiv (.int g1) (.int 7) = some (.d (.int pa))) (m4 : oMod (.int pa) (.int 4) = some (.d (.int pb))) (d28 : oDiv (.int g1) (.int 28) = some (.d (.int pc))) (m3 : oMod (.int pc) (.int 3) = some (.d (.int pd)))
    (p7 : oAdd (.int 1) (.int pb) = some (.d (.int p))) (e7 : oAdd (.int 1) (.int pd) = some (.d (.int e))) (lo : f_u_law_low [.int p, .int e] = .ok f1)     (lk2 : UP.length ≤ 90000)
    (rg : ∀ t6 : Sl, mRng2 (mCons (mD (mOp oAdd (mPk 4) (mD (mC (.int 1))))) (mCons (mPk 1) (mNil))) [.fr (.scr ns), .fr (nI n), .ow (l0), .ow UU, .fr (nI i), .fr (.lst XL), t6, .fr f1, s8, .un] = .ok UP [.fr (.scr ns), .fr (nI n), .ow (l0), .ow UU, .fr (nI i), .fr (.lst XL), t6, .fr f1, s8, .un])
    (r2 : ∀ t6 : Sl, compL [9] (γN 9) mYes (mD (mCall 2 f_u_law_low (mCons (mD (mOp oSub (mD (mOp oMod (mD (mCl cInt (mCons (mD (mOp oIx (mPk 5) (mD (mOp oAdd (mPk 1) (mPk 9))))) (mNil)))) (mD (mC (.int 7))))) (mD (mC (.int 3))))) (mCons (mD (mOp oAdd (mD (mC (.int 1))) (mD (mOp oMod (mD (mOp oDiv (mD (mCl cInt (mCons (mD (mOp oIx (mPk 5) (mD (mOp oAdd (mPk 1) (mPk 9))))) (mNil)))) (mD (mC (.int 7))))) (mD (mC (.int 2))))))) (mNil))))) UP [] [.fr (.scr ns), .fr (nI n), .ow (l0), .ow UU, .fr (nI i), .fr (.lst XL), t6, .fr f1, s8, .un] = .ok f5 [.fr (.scr ns), .fr (nI n), .ow (l0), .ow UU, .fr (nI i), .fr (.lst XL), t6, .fr f1, s8, .un])
    (zD : ∀ (env : En), env[9]? = some .un → compL [9] (γN 9) mYes (mD (mTup (mCons (mD (mC (.int 0))) (mCons (mD (mC (.int 1))) (mNil))))) (Iv.upTo 0 i) [] env = .ok zi env)
    (aC : oAdd (.lst zi) (.lst [f1]) = some (.l f7)) (aD : oAdd (.lst f7) (.lst f5) = some (.l f3)) (hUU : UU.length < 90000) :
    (mApp 3 (mD (mOp oAdd (mD (mOp oAdd (mD (mLc [9] (γN 9) (mRng1 (mCons (mPk 4) (mNil))) (mYes) (mD (mTup (mCons (mD (mC (.int 0))) (mCons (mD (mC (.int 1))) (mNil))))))) (mD (mLst (mCons (mD (mVar 7)) (mNil)))))) (mPk 8)))) [.fr (.scr ns), .fr (nI n), .ow l0, .ow UU, .fr (nI i), .fr (.lst XL), .ow f6, .fr f1, .ow f5, .un] = .ok .nx [.fr (.scr ns), .fr (nI n), .ow l0, .ow (UU ++ [.lst f3]), .fr (nI i), .fr (.lst XL), .ow f6, .fr f1, .ow f5, .un] := by
  unfold nI at *
  simp [-mRng2_eq, -oAdd_int, p7, e7, hsi, lii, xi, d7, m4, d28, m3, lo, lk2, rg, r2, zD, aC, aD, hUU]
theorem fB2_end {ns : List Int} {n i : Nat} {g1 pa pb pc pd p e : Int} {LL UU XL f2 f3 f5 zi f6 f7 : List D} {f1 : D} {UP : List D} {s7 s8 : Sl}
       
    (hsi : small (i : Int) = true) (lii : (Iv.upTo 0 i).length ≤ 90000)
    
        
    
     
    (xi : oIx (.lst XL) (nI i) = some (.d (.int g1))) (d7 : oDiv (.int g1) (.int 7) = some (.d (.int pa))) (m4 : oMod (.int pa) (.int 4) = some (.d (.int pb))) (d28 : oDiv (.int g1) (.int 28) = some (.d (.int pc))) (m3 : oMod (.int pc) (.int 3) = some (.d (.int pd)))
    (p7 : oAdd (.int 1) (.int pb) = some (.d (.int p))) (e7 : oAdd (.int 1) (.int pd) = some (.d (.int e))) (lo : f_u_law_low [.int p, .int e] = .ok f1)     (lk2 : UP.length ≤ 90000)
    (rg : ∀ t6 : Sl, mRng2 (mCons (mD (mOp oAdd (mPk 4) (mD (mC (.int 1))))) (mCons (mPk 1) (mNil))) [.fr (.scr ns), .fr (nI n), .ow (LL ++ [.lst f2]), .ow UU, .fr (nI i), .fr (.lst XL), t6, .fr f1, s8, .un] = .ok UP [.fr (.scr ns), .fr (nI n), .ow (LL ++ [.lst f2]), .ow UU, .fr (nI i), .fr (.lst XL), t6, .fr f1, s8, .un])
    (r2 : ∀ t6 : Sl, compL [9] (γN 9) mYes (mD (mCall 2 f_u_law_low (mCons (mD (mOp oSub (mD (mOp oMod (mD (mCl cInt (mCons (mD (mOp oIx (mPk 5) (mD (mOp oAdd (mPk 1) (mPk 9))))) (mNil)))) (mD (mC (.int 7))))) (mD (mC (.int 3))))) (mCons (mD (mOp oAdd (mD (mC (.int 1))) (mD (mOp oMod (mD (mOp oDiv (mD (mCl cInt (mCons (mD (mOp oIx (mPk 5) (mD (mOp oAdd (mPk 1) (mPk 9))))) (mNil)))) (mD (mC (.int 7))))) (mD (mC (.int 2))))))) (mNil))))) UP [] [.fr (.scr ns), .fr (nI n), .ow (LL ++ [.lst f2]), .ow UU, .fr (nI i), .fr (.lst XL), t6, .fr f1, s8, .un] = .ok f5 [.fr (.scr ns), .fr (nI n), .ow (LL ++ [.lst f2]), .ow UU, .fr (nI i), .fr (.lst XL), t6, .fr f1, s8, .un])
    (zD : ∀ (env : En), env[9]? = some .un → compL [9] (γN 9) mYes (mD (mTup (mCons (mD (mC (.int 0))) (mCons (mD (mC (.int 1))) (mNil))))) (Iv.upTo 0 i) [] env = .ok zi env)
    (aC : oAdd (.lst zi) (.lst [f1]) = some (.l f7)) (aD : oAdd (.lst f7) (.lst f5) = some (.l f3)) (hUU : UU.length < 90000) :
    fB2 [.fr (.scr ns), .fr (nI n), .ow (LL ++ [.lst f2]), .ow UU, .fr (nI i), .fr (.lst XL), .ow f6, s7, s8, .un] = .ok .nx [.fr (.scr ns), .fr (nI n), .ow (LL ++ [.lst f2]), .ow (UU ++ [.lst f3]), .fr (nI i), .fr (.lst XL), .ow f6, .fr f1, .ow f5, .un] := by
  generalize LL ++ [D.lst f2] = l0 at *
  have h7 := fB_g7 (f2 := f2) (LL := LL) (f6 := f6) (s7 := s7) hsi lii xi d7 m4 d28 m3 p7 e7 lo lk2 rg r2 zD aC aD hUU
  have h8 := fB_g8 (f2 := f2) (LL := LL) (f6 := f6) (s7 := s7) hsi lii xi d7 m4 d28 m3 p7 e7 lo lk2 rg r2 zD aC aD hUU
  have h9 := fB_g9 (f2 := f2) (LL := LL) (f6 := f6) (s7 := s7) hsi lii xi d7 m4 d28 m3 p7 e7 lo lk2 rg r2 zD aC aD hUU
  unfold fB2
  rw [mSeq_eq, h7]
  dsimp only
  rw [mSeq_eq, h8]
  dsimp only
  exact h9
theorem fB_eq {ns : List Int} {B : Nat} (hB : B ≤ 100000000) (cs : ∀ k, k < 1000000 → (cellAt ns k).natAbs < 2 ^ B) {n i : Nat} (n5 : n ≤ 5) (hi : i < n) {LL UU : List D} (hL : LL.length < 1000) (hU : UU.length < 1000) {s5 s6 s7 s8 : Sl} :
    ∃ (r u : List Rat) (t5 t6 t7 t8 : Sl), PL n i r ∧ PU n i u ∧ fB [.fr (.scr ns), .fr (nI n), .ow LL, .ow UU, .fr (nI i), s5, s6, s7, s8, .un] = .ok .nx [.fr (.scr ns), .fr (nI n), .ow (LL ++ [.lst (r.map enc)]), .ow (UU ++ [.lst (u.map enc)]), .fr (nI i), t5, t6, t7, t8, .un] := by
  obtain ⟨k, hk⟩ : ∃ k, n = i + 1 + k := ⟨n - i - 1, by omega⟩
  have c0 : f_u_law_cell [.scr ns, .int ((1 + i : Nat) : Int)] = _ := cell_eq (by omega)
  have a0 : oAdd (.int 1) (nI i) = some (.d (.int ((1 + i : Nat) : Int))) := by
    show some (Sv.d (.int (1 + (i : Int)))) = _
    rw [Int.natCast_add]
    rfl
  obtain ⟨xs, hx, dw⟩ := draws_eq (n := 2 * n) (cs (1 + i) (by omega)) hB (by omega)
  have mm : oMul (.int 2) (nI n) = some (.d (.int ((2 * n : Nat) : Int))) := by
    have e : oMul (.int 2) (.int (n : Int)) = some (.d (.int (2 * (n : Int)))) := oMul_int (mulOk_of (a := 3) (b := 64) (by decide) (by
      have : (1000000 : Nat) < 2 ^ 64 := by decide
      simp only [Int.natAbs_natCast]; omega) (by decide))
    have e2 : ((2 * n : Nat) : Int) = 2 * (n : Int) := by omega
    rw [e2]
    exact e
  -- the values
  obtain ⟨z, hz⟩ : ∃ z : Nat → Int, z = fun l => (gt xs l).fmod 7 - 3 := ⟨_, rfl⟩
  obtain ⟨d, hd⟩ : ∃ d : Nat → Int, d = fun l => 1 + ((gt xs l).fdiv 7).fmod 2 := ⟨_, rfl⟩
  obtain ⟨p, hp⟩ : ∃ p : Int, p = 1 + ((gt xs i).fdiv 7).fmod 4 := ⟨_, rfl⟩
  obtain ⟨e, he⟩ : ∃ e : Int, e = 1 + ((gt xs i).fdiv 28).fmod 3 := ⟨_, rfl⟩
  have zb : ∀ l, -3 ≤ z l ∧ z l ≤ 3 := fun l => by
    have := fmod_b (x := gt xs l) (k := 7) (by decide)
    simp only [Int.cast_ofNat_Int] at this
    rw [hz]
    dsimp only
    omega
  have db : ∀ l, 1 ≤ d l ∧ d l ≤ 2 := fun l => by
    have := fmod_b (x := (gt xs l).fdiv 7) (k := 2) (by decide)
    simp only [Int.cast_ofNat_Int] at this
    rw [hd]
    dsimp only
    omega
  have pb : 1 ≤ p ∧ p ≤ 4 := by
    have := fmod_b (x := (gt xs i).fdiv 7) (k := 4) (by decide)
    simp only [Int.cast_ofNat_Int] at this
    omega
  have eb : 1 ≤ e ∧ e ≤ 3 := by
    have := fmod_b (x := (gt xs i).fdiv 28) (k := 3) (by decide)
    simp only [Int.cast_ofNat_Int] at this
    omega
  obtain ⟨Lf, hLf⟩ : ∃ Lf : Nat → Rat, Lf = fun l => if l < i then ((z l : Int) : Rat) else if l = i then 1 else 0 := ⟨_, rfl⟩
  obtain ⟨Uf, hUf⟩ : ∃ Uf : Nat → Rat, Uf = fun l => if l < i then 0 else if l = i then Rat.divInt p e else Rat.divInt (z (n + l)) (d (n + l)) := ⟨_, rfl⟩
  -- the lists
  have hsi : small (i : Int) = true := small_nat (by omega)
  have cA : compL [9] (γN 9) mYes (mD (mTup (mCons (mD (mOp oSub (mD (mOp oMod (mD (mCl cInt (mCons (mD (mOp oIx (mPk 5) (mPk 9))) (mNil)))) (mD (mC (.int 7))))) (mD (mC (.int 3))))) (mCons (mD (mC (.int 1))) (mNil))))) (Iv.upTo 0 i) [] [.fr (.scr ns), .fr (nI n), .ow LL, .ow UU, .fr (nI i), .fr (.lst (xs.map D.int)), s6, s7, s8, .un] = .ok (eqL i Lf) [.fr (.scr ns), .fr (nI n), .ow LL, .ow UU, .fr (nI i), .fr (.lst (xs.map D.int)), s6, s7, s8, .un] := by
    have := comp_n (f := mD (mTup (mCons (mD (mOp oSub (mD (mOp oMod (mD (mCl cInt (mCons (mD (mOp oIx (mPk 5) (mPk 9))) (mNil)))) (mD (mC (.int 7))))) (mD (mC (.int 3))))) (mCons (mD (mC (.int 1))) (mNil))))) (n := i) (j := 9) (env := [.fr (.scr ns), .fr (nI n), .ow LL, .ow UU, .fr (nI i), .fr (.lst (xs.map D.int)), s6, s7, s8, .un]) (h := fun l => enc ((z l : Int) : Rat)) (fun l hl => by
      have ix := ix_dn hx (k := l) (by omega)
      have m7 : oMod (.int (gt xs l)) (.int 7) = some (.d (.int ((gt xs l).fmod 7))) := oMod_int (by decide)
      have e1 : z l = (gt xs l).fmod 7 - 3 := by rw [hz]
      have e2 := enc_int (z := z l)
      rw [e1] at e2
      have e : (.int (l : Int) : D) = nI l := rfl
      refine ⟨[.fr (.scr ns), .fr (nI n), .ow LL, .ow UU, .fr (nI i), .fr (.lst (xs.map D.int)), s6, s7, s8, .fr (nI l)], ?_, rfl⟩
      rw [e, e1]
      clear hz hd hLf hUf zb db
      generalize enc (((gt xs l).fmod 7 - 3 : Int) : Rat) = f1 at *
      generalize xs.map D.int = f2 at *
      generalize nI l = f3 at *
      simp [ix, m7, e2])
    rw [this]
    congr 1
    unfold eqL
    exact List.map_congr_left fun l hl => by
      have := List.mem_range.mp hl
      rw [hLf]
      dsimp only
      rw [if_pos this]
  have zer : ∀ (m : Nat) (env : En), env[9]? = some .un → compL [9] (γN 9) mYes (mD (mTup (mCons (mD (mC (.int 0))) (mCons (mD (mC (.int 1))) (mNil))))) (Iv.upTo 0 m) [] env = .ok ((List.range m).map fun _ => enc 0) env := fun m env h9 => by
    refine comp_n (f := mD (mTup (mCons (mD (mC (.int 0))) (mCons (mD (mC (.int 1))) (mNil))))) (n := m) (j := 9) (env := env) (h := fun _ => enc 0) fun l hl => ⟨env.set 9 (.fr (.int (l : Int))), rfl, ?_⟩
    rw [List.set_set]
    have h := (List.getElem?_eq_some_iff.mp h9)
    obtain ⟨h1, h2⟩ := h
    conv => lhs; rw [← h2]
    exact List.set_getElem_self h1
  have aA : oAdd (.lst (eqL i Lf)) (.lst [enc 1]) = some (.l (eqL i Lf ++ [enc 1])) := by
    show (if _ then _ else _) = _
    rw [if_pos (by unfold eqL; rw [List.length_map, List.length_range]; simp; omega)]
  have sb1 : oSub (nI n) (nI i) = some (.d (.int ((n - i : Nat) : Int))) := by
    show some (Sv.d (.int ((n : Int) - (i : Int)))) = _
    rw [show (n : Int) - (i : Int) = ((n - i : Nat) : Int) by omega]
  have sb2 : oSub (.int ((n - i : Nat) : Int)) (.int 1) = some (.d (.int (k : Int))) := by
    show some (Sv.d (.int (((n - i : Nat) : Int) - 1))) = _
    rw [show ((n - i : Nat) : Int) - 1 = (k : Int) by omega]
  have hsk : small (k : Int) = true := small_nat (by omega)
  have lkk : (Iv.upTo 0 k).length ≤ 90000 := by rw [upTo_len]; omega
  have lii : (Iv.upTo 0 i).length ≤ 90000 := by rw [upTo_len]; omega
  have aB : oAdd (.lst (eqL i Lf ++ [enc 1])) (.lst ((List.range k).map fun _ => enc 0)) = some (.l (eqL n Lf)) := by
    show (if _ then _ else _) = _
    rw [if_pos (by unfold eqL; rw [List.length_append, List.length_map, List.length_range, List.length_map, List.length_range]; simp; omega), hk, eqL_three]
    have e1 : Lf i = 1 := by rw [hLf]; dsimp only; rw [if_neg (by omega), if_pos rfl]
    have e2 : ((List.range k).map fun l => enc (Lf (i + 1 + l))) = (List.range k).map fun _ => enc 0 := List.map_congr_left fun l _ => by rw [hLf]; dsimp only; rw [if_neg (by omega), if_neg (by omega)]
    rw [e1, e2]
  have d7 : oDiv (.int (gt xs i)) (.int 7) = some (.d (.int ((gt xs i).fdiv 7))) := oDiv_int (by decide)
  have m4 : oMod (.int ((gt xs i).fdiv 7)) (.int 4) = some (.d (.int (((gt xs i).fdiv 7).fmod 4))) := oMod_int (by decide)
  have d28 : oDiv (.int (gt xs i)) (.int 28) = some (.d (.int ((gt xs i).fdiv 28))) := oDiv_int (by decide)
  have m3 : oMod (.int ((gt xs i).fdiv 28)) (.int 3) = some (.d (.int (((gt xs i).fdiv 28).fmod 3))) := oMod_int (by decide)
  have xi := ix_dn hx (k := i) (by omega)
  have lo := low_eq (n := p) (d := e) (by omega)
  have r2 : ∀ t6 : Sl, compL [9] (γN 9) mYes (mD (mCall 2 f_u_law_low (mCons (mD (mOp oSub (mD (mOp oMod (mD (mCl cInt (mCons (mD (mOp oIx (mPk 5) (mD (mOp oAdd (mPk 1) (mPk 9))))) (mNil)))) (mD (mC (.int 7))))) (mD (mC (.int 3))))) (mCons (mD (mOp oAdd (mD (mC (.int 1))) (mD (mOp oMod (mD (mOp oDiv (mD (mCl cInt (mCons (mD (mOp oIx (mPk 5) (mD (mOp oAdd (mPk 1) (mPk 9))))) (mNil)))) (mD (mC (.int 7))))) (mD (mC (.int 2))))))) (mNil))))) (Iv.upTo ((i : Int) + 1) k) [] [.fr (.scr ns), .fr (nI n), .ow (LL ++ [.lst (eqL n Lf)]), .ow UU, .fr (nI i), .fr (.lst (xs.map D.int)), t6, .fr (enc (Rat.divInt p e)), s8, .un] = .ok ((List.range k).map fun l => enc (Uf (i + 1 + l))) [.fr (.scr ns), .fr (nI n), .ow (LL ++ [.lst (eqL n Lf)]), .ow UU, .fr (nI i), .fr (.lst (xs.map D.int)), t6, .fr (enc (Rat.divInt p e)), s8, .un] := fun t6 => by
    have up : Iv.upTo ((i : Int) + 1) k = (List.range k).map fun l => nI (i + 1 + l) := by
      unfold Iv.upTo
      exact List.map_congr_left fun l _ => by
        show D.int ((i : Int) + 1 + (l : Int)) = D.int ((i + 1 + l : Nat) : Int)
        rw [show (i : Int) + 1 + (l : Int) = ((i + 1 + l : Nat) : Int) by omega]
    rw [up]
    have := compL_map (enc := fun l => nI (i + 1 + l)) (vs := [9]) (γ := γN 9) (cond := mYes) (elt := mD (mCall 2 f_u_law_low (mCons (mD (mOp oSub (mD (mOp oMod (mD (mCl cInt (mCons (mD (mOp oIx (mPk 5) (mD (mOp oAdd (mPk 1) (mPk 9))))) (mNil)))) (mD (mC (.int 7))))) (mD (mC (.int 3))))) (mCons (mD (mOp oAdd (mD (mC (.int 1))) (mD (mOp oMod (mD (mOp oDiv (mD (mCl cInt (mCons (mD (mOp oIx (mPk 5) (mD (mOp oAdd (mPk 1) (mPk 9))))) (mNil)))) (mD (mC (.int 7))))) (mD (mC (.int 2))))))) (mNil))))) (env := [.fr (.scr ns), .fr (nI n), .ow (LL ++ [.lst (eqL n Lf)]), .ow UU, .fr (nI i), .fr (.lst (xs.map D.int)), t6, .fr (enc (Rat.divInt p e)), s8, .un]) (h := fun l => enc (Uf (i + 1 + l))) (xs := List.range k) (acc := []) (fun l hl => by
      have hl := List.mem_range.mp hl
      have ad : oAdd (nI n) (nI (i + 1 + l)) = some (.d (nI (n + (i + 1 + l)))) := by
        show some (Sv.d (.int ((n : Int) + ((i + 1 + l : Nat) : Int)))) = _
        rw [← Int.natCast_add]
        rfl
      have ix := ix_dn hx (k := n + (i + 1 + l)) (by omega)
      have e0 : Uf (i + 1 + l) = Rat.divInt (z (n + (i + 1 + l))) (d (n + (i + 1 + l))) := by rw [hUf]; dsimp only; rw [if_neg (by omega), if_neg (by omega)]
      have dn := (db (n + (i + 1 + l))).1
      have e1 : z (n + (i + 1 + l)) = (gt xs (n + (i + 1 + l))).fmod 7 - 3 := by rw [hz]
      have e2 : d (n + (i + 1 + l)) = 1 + ((gt xs (n + (i + 1 + l))).fdiv 7).fmod 2 := by rw [hd]
      have lo := low_eq (n := z (n + (i + 1 + l))) (d := d (n + (i + 1 + l))) (by omega)
      rw [← e0, e1, e2] at lo
      have m7 : oMod (.int (gt xs (n + (i + 1 + l)))) (.int 7) = some (.d (.int ((gt xs (n + (i + 1 + l))).fmod 7))) := oMod_int (by decide)
      have d7 : oDiv (.int (gt xs (n + (i + 1 + l)))) (.int 7) = some (.d (.int ((gt xs (n + (i + 1 + l))).fdiv 7))) := oDiv_int (by decide)
      have m2 : oMod (.int ((gt xs (n + (i + 1 + l))).fdiv 7)) (.int 2) = some (.d (.int (((gt xs (n + (i + 1 + l))).fdiv 7).fmod 2))) := oMod_int (by decide)
      refine ⟨[.fr (.scr ns), .fr (nI n), .ow (LL ++ [.lst (eqL n Lf)]), .ow UU, .fr (nI i), .fr (.lst (xs.map D.int)), t6, .fr (enc (Rat.divInt p e)), s8, .fr (nI (i + 1 + l))], _, [.fr (.scr ns), .fr (nI n), .ow (LL ++ [.lst (eqL n Lf)]), .ow UU, .fr (nI i), .fr (.lst (xs.map D.int)), t6, .fr (enc (Rat.divInt p e)), s8, .fr (nI (i + 1 + l))], rfl, rfl, ?_, rfl⟩
      clear zer cA aA aB hz hd hLf hUf zb db e0 e1 e2
      generalize enc (Uf (i + 1 + l)) = f1 at *
      generalize LL ++ [.lst (eqL n Lf)] = f7 at *
      generalize enc (Rat.divInt p e) = f8 at *
      generalize gt xs (n + (i + 1 + l)) = g1 at *
      generalize xs.map D.int = f2 at *
      generalize nI (n + (i + 1 + l)) = f3 at *
      generalize nI (i + 1 + l) = f4 at *
      generalize nI n = f5 at *
      generalize nI i = f6 at *
      simp [ad, ix, m7, d7, m2, lo])
    rw [List.nil_append] at this
    exact this
  have aC : oAdd (.lst ((List.range i).map fun _ => enc 0)) (.lst [enc (Rat.divInt p e)]) = some (.l ((List.range i).map (fun _ => enc 0) ++ [enc (Rat.divInt p e)])) := by
    show (if _ then _ else _) = _
    rw [if_pos (by rw [List.length_map, List.length_range]; simp; omega)]
  have aD : oAdd (.lst ((List.range i).map (fun _ => enc 0) ++ [enc (Rat.divInt p e)])) (.lst ((List.range k).map fun l => enc (Uf (i + 1 + l)))) = some (.l (eqL n Uf)) := by
    show (if _ then _ else _) = _
    rw [if_pos (by rw [List.length_append, List.length_map, List.length_range, List.length_map, List.length_range]; simp; omega), hk, eqL_three]
    have e1 : Uf i = Rat.divInt p e := by rw [hUf]; dsimp only; rw [if_neg (by omega), if_pos rfl]
    have e2 : eqL i Uf = (List.range i).map fun _ => enc 0 := by
      unfold eqL
      exact List.map_congr_left fun l hl => by
        have := List.mem_range.mp hl
        rw [hUf]; dsimp only; rw [if_pos this]
    rw [e1, e2]
  have a1 : oAdd (nI i) (.int 1) = some (.d (.int ((i : Int) + 1))) := rfl
  have hs1 : small ((i : Int) + 1) = true := small_nat (n := i + 1) (by omega)
  have hsn : small (n : Int) = true := small_nat (by omega)
  have kn : ((n : Int) - ((i : Int) + 1)).toNat = k := by omega
  have lk2 : (Iv.upTo ((i : Int) + 1) k).length ≤ 90000 := by rw [upTo_len]; omega
  refine ⟨(List.range n).map Lf, (List.range n).map Uf, .fr (.lst (xs.map D.int)), .ow (eqL i Lf ++ [enc 1]), .fr (enc (Rat.divInt p e)), .ow ((List.range k).map fun l => enc (Uf (i + 1 + l))), ⟨by rw [List.length_map, List.length_range], fun l h1 h2 => ?_, ?_, fun q hq => ?_⟩, ⟨by rw [List.length_map, List.length_range], fun l h1 => ?_, ?_, fun q hq => ?_⟩, ?_⟩
  · rw [rngD h2, hLf]
    dsimp only
    rw [if_neg (by omega), if_neg (by omega)]
  · rw [rngD hi, hLf]
    dsimp only
    rw [if_neg (by omega), if_pos rfl]
  · obtain ⟨l, hl, rfl⟩ := List.mem_map.mp hq
    rw [hLf]
    dsimp only
    split
    · have := zb l
      exact ⟨int_sz (by omega) (by decide), Dv.int 1 (z l)⟩
    · split
      · exact ⟨int_sz (z := 1) (by decide) (by decide), Dv.int 1 1⟩
      · exact ⟨int_sz (z := 0) (by decide) (by decide), Dv.int 1 0⟩
  · rw [rngD (by omega), hUf]
    dsimp only
    rw [if_pos h1]
  · rw [rngD hi, hUf]
    dsimp only
    rw [if_neg (by omega), if_pos rfl]
    intro z0
    rw [Rat.divInt_eq_div] at z0
    have e0 : ((e : Int) : Rat) ≠ 0 := fun z => by
      have : e = 0 := Rat.intCast_inj.mp z
      omega
    have := Rat.div_mul_cancel (a := ((p : Int) : Rat)) e0
    rw [z0, Rat.zero_mul] at this
    have : p = 0 := (Rat.intCast_inj.mp this).symm
    omega
  · obtain ⟨l, hl, rfl⟩ := List.mem_map.mp hq
    rw [hUf]
    dsimp only
    split
    · exact ⟨int_sz (z := 0) (by decide) (by decide), Dv.int 6 0⟩
    · split
      · refine ⟨divInt_sz (by omega) (by omega) (by omega), ?_⟩
        rcases (show e = 1 ∨ e = 2 ∨ e = 3 by omega) with h | h | h
        · rw [h]; exact (Dv.divInt (n := p) (d := 1) (by decide)).times 6
        · rw [h]; exact (Dv.divInt (n := p) (d := 2) (by decide)).times 3
        · rw [h]; exact (Dv.divInt (n := p) (d := 3) (by decide)).times 2
      · have := zb (n + l)
        have := db (n + l)
        refine ⟨divInt_sz (by omega) (by omega) (by omega), ?_⟩
        rcases (show d (n + l) = 1 ∨ d (n + l) = 2 by omega) with h | h
        · rw [h]; exact (Dv.divInt (n := z (n + l)) (d := 1) (by decide)).times 6
        · rw [h]; exact (Dv.divInt (n := z (n + l)) (d := 2) (by decide)).times 3
  · rw [eqL_map, eqL_map]
    have zB := zer k
    have zD := zer i
    have hLL : LL.length < 90000 := by omega
    have hUU : UU.length < 90000 := by omega
    have lo0 := lo
    have p7 : oAdd (.int 1) (.int (((gt xs i).fdiv 7).fmod 4)) = some (.d (.int p)) := by rw [hp]; rfl
    have e7 : oAdd (.int 1) (.int (((gt xs i).fdiv 28).fmod 3)) = some (.d (.int e)) := by rw [he]; rfl
    have lo : f_u_law_low [.int (1 + ((gt xs i).fdiv 7).fmod 4), .int (1 + ((gt xs i).fdiv 28).fmod 3)] = .ok (enc (Rat.divInt p e)) := by rw [← hp, ← he]; exact lo
    unfold fB
    rw [fB1_end a0 c0 mm dw hsi lii cA aA sb1 sb2 hsk lkk zB aB hLL xi d7 m4 d28 m3 lo a1 hs1 hsn kn lk2 r2 zD aC aD hUU]
    have rg : ∀ t6 : Sl, mRng2 (mCons (mD (mOp oAdd (mPk 4) (mD (mC (.int 1))))) (mCons (mPk 1) (mNil))) [.fr (.scr ns), .fr (nI n), .ow (LL ++ [.lst (eqL n Lf)]), .ow UU, .fr (nI i), .fr (.lst (xs.map D.int)), t6, .fr (enc (Rat.divInt p e)), s8, .un] = .ok (Iv.upTo ((i : Int) + 1) k) [.fr (.scr ns), .fr (nI n), .ow (LL ++ [.lst (eqL n Lf)]), .ow UU, .fr (nI i), .fr (.lst (xs.map D.int)), t6, .fr (enc (Rat.divInt p e)), s8, .un] := fun t6 => rng2_of rfl hs1 hsn kn
    exact fB2_end hsi lii xi d7 m4 d28 m3 p7 e7 lo0 lk2 rg r2 zD aC aD hUU
end Law
namespace Law
open PySem PySem.Spec PyProof.Rows L2 Evl Iv
open Dt
def lD (F : List (List Rat)) : List D := F.map fun r => .lst (r.map enc)
theorem getD_snoc {α : Type} {l : List α} {x e : α} {j : Nat} : (l ++ [x]).getD j e = if j < l.length then l.getD j e else if j = l.length then x else e := by
  rw [List.getD_eq_getElem?_getD]
  split
  · rw [List.getElem?_append_left (by assumption), List.getD_eq_getElem?_getD]
  · rw [List.getElem?_append_right (by omega)]
    split
    · rename_i h; rw [h, Nat.sub_self]; rfl
    · rw [List.getElem?_eq_none (by simp; omega)]; rfl
theorem factors_eq {ns : List Int} {B : Nat} (hB : B ≤ 100000000) (cs : ∀ k, k < 1000000 → (cellAt ns k).natAbs < 2 ^ B) {n : Nat} (n5 : n ≤ 5) :
    ∃ (L U : List (List Rat)), L.length = n ∧ U.length = n ∧ (∀ i, i < n → PL n i (L.getD i [])) ∧ (∀ i, i < n → PU n i (U.getD i [])) ∧ f_u_law_factors [.scr ns, nI n] = .ok (.tup [rowsD' D.lst D.lst L, rowsD' D.lst D.lst U]) := by
  have key := for_inv (γ := γN 4) (g := fB) (all := Iv.upTo 0 n) (env := [.fr (.scr ns), .fr (nI n), .ow [], .ow [], .un, .un, .un, .un, .un, .un])
    (fun i env => ∃ (L U : List (List Rat)) (t4 t5 t6 t7 t8 : Sl), i ≤ n ∧ L.length = i ∧ U.length = i ∧ (∀ j, j < i → PL n j (L.getD j [])) ∧ (∀ j, j < i → PU n j (U.getD j [])) ∧ env = [.fr (.scr ns), .fr (nI n), .ow (lD L), .ow (lD U), t4, t5, t6, t7, t8, .un]) ⟨[], [], .un, .un, .un, .un, .un, Nat.zero_le _, rfl, rfl, fun j h => absurd h (Nat.not_lt_zero j), fun j h => absurd h (Nat.not_lt_zero j), rfl⟩ (by
      rintro i x env hx ⟨L, U, t4, t5, t6, t7, t8, hin, lL, lU, pl, pu, rfl⟩
      have hi : i < n := by
        have := (List.getElem?_eq_some_iff.mp hx).1
        rwa [upTo_len] at this
      rw [upN, List.getElem?_map, List.getElem?_range hi] at hx
      cases hx
      have lLL : (lD L).length < 1000 := by unfold lD; rw [List.length_map]; omega
      have lUU : (lD U).length < 1000 := by unfold lD; rw [List.length_map]; omega
      obtain ⟨r, u, u5, u6, u7, u8, hr, hu, e⟩ := fB_eq hB cs n5 hi lLL lUU (s5 := t5) (s6 := t6) (s7 := t7) (s8 := t8)
      have eL : lD L ++ [.lst (r.map enc)] = lD (L ++ [r]) := by unfold lD; rw [List.map_append]; rfl
      have eU : lD U ++ [.lst (u.map enc)] = lD (U ++ [u]) := by unfold lD; rw [List.map_append]; rfl
      rw [eL, eU] at e
      refine ⟨_, _, rfl, e, L ++ [r], U ++ [u], _, u5, u6, u7, u8, hi, by rw [List.length_append, lL]; rfl, by rw [List.length_append, lU]; rfl, fun j hj => ?_, fun j hj => ?_, rfl⟩
      · rw [getD_snoc]
        split
        · exact pl j (by omega)
        · rw [if_pos (by omega), show j = i by omega]
          exact hr
      · rw [getD_snoc]
        split
        · exact pu j (by omega)
        · rw [if_pos (by omega), show j = i by omega]
          exact hu)
  obtain ⟨env', k1, L, U, t4, t5, t6, t7, t8, _, lL, lU, pl, pu, rfl⟩ := key
  rw [upTo_len] at lL lU pl pu
  have hsm : small (n : Int) = true := small_nat (by omega)
  refine ⟨L, U, lL, lU, pl, pu, ?_⟩
  have eL : rowsD' D.lst D.lst L = .lst (lD L) := rfl
  have eU : rowsD' D.lst D.lst U = .lst (lD U) := rfl
  rw [eL, eU]
  unfold fB fB1 fB2 at k1
  generalize lD L = f1 at *
  generalize lD U = f2 at *
  unfold nI at *
  simp [f_u_law_factors, g_u_law_factors, hsm, k1]
/-! ### the replaced row -/
def repM (n a : Nat) (A : List (List Rat)) (m : List Rat) : List (List Rat) := A.take a ++ m :: A.drop (a + 1)
noncomputable def rB : M Fl := (mIfS (mB (mOp oNe (mPk 5) (mPk 1))) (mSeq (mSet 7 (mTup (mCons (mD (mOp oSub (mD (mOp oMod (mD (mCl cInt (mCons (mD (mOp oIx (mPk 2) (mPk 5))) (mNil)))) (mD (mC (.int 5))))) (mD (mC (.int 2))))) (mCons (mD (mC (.int 1))) (mNil)))))
    (mSet 4 (mLc [6] (γN 6) (mRng1 (mCons (mPk 3) (mNil))) (mYes) (mD (mCall 2 f_u_law_add (mCons (mD (mOp oIx (mPk 4) (mPk 6))) (mCons (mD (mCall 2 f_u_law_multiply (mCons (mD (mVar 7)) (mCons (mD (mOp oIx (mD (mOp oIx (mPk 0) (mPk 5))) (mPk 6))) (mNil))))) (mNil)))))))) (mNx))
theorem rB_eq {n a i : Nat} (n5 : n ≤ 5) (hi : i < n) {A : List (List Rat)} (lA : A.length = n) (wA : ∀ r ∈ A, r.length = n) (zA : ∀ r ∈ A, ∀ q ∈ r, Sz 50 q) {xs : List D} {v : Int} (hx : oIx (.lst xs) (nI i) = some (.d (.int v))) {f : Nat → Rat} (hf : ∀ l, l < n → Sz (60 * i + 10) (f l)) {s7 : Sl} :
    ∃ t7, rB [.fr (.lst (A.map qT)), .fr (nI a), .fr (.lst xs), .fr (nI n), .ow (eqL n f), .fr (nI i), .un, s7] = .ok .nx [.fr (.lst (A.map qT)), .fr (nI a), .fr (.lst xs), .fr (nI n), .ow (eqL n fun l => f l + (if i = a then 0 else ((v.fmod 5 - 2 : Int) : Rat)) * ent A i l), .fr (nI i), .un, t7] := by
  have ne : oNe (nI i) (nI a) = some (.d (.bl (!decide (i = a)))) := by
    show some (Sv.d (.bl (!((i : Int) == (a : Int))))) = _
    by_cases h : i = a
    · rw [decide_eq_true h, h]; simp
    · rw [decide_eq_false h, show ((i : Int) == (a : Int)) = false from by rw [beq_eq_false_iff_ne]; omega]
  by_cases h : i = a
  · rw [decide_eq_true h] at ne
    refine ⟨s7, ?_⟩
    have e : (eqL n fun l => f l + (if i = a then 0 else ((v.fmod 5 - 2 : Int) : Rat)) * ent A i l) = eqL n f := eqL_congr fun l _ => by rw [if_pos h]; grind
    rw [e]
    generalize A.map qT = f1 at *
    generalize eqL n f = f2 at *
    generalize nI i = f3 at *
    generalize nI a = f4 at *
    generalize nI n = f5 at *
    simp [rB, ne]
  · rw [decide_eq_false h] at ne
    have m5 : oMod (.int v) (.int 5) = some (.d (.int (v.fmod 5))) := oMod_int (by decide)
    have vb := fmod_b (x := v) (k := 5) (by decide)
    simp only [Int.cast_ofNat_Int] at vb
    have mz : Sz 3 (((v.fmod 5 - 2 : Int)) : Rat) := int_sz (by omega) (by decide)
    have ei := enc_int (z := v.fmod 5 - 2)
    have e : (eqL n fun l => f l + (if i = a then 0 else ((v.fmod 5 - 2 : Int) : Rat)) * ent A i l) = eqL n fun l => f l + ((v.fmod 5 - 2 : Int) : Rat) * ent A i l := eqL_congr fun l _ => by rw [if_neg h]
    rw [e]
    refine ⟨.fr (enc ((v.fmod 5 - 2 : Int) : Rat)), ?_⟩
    have ir : oIx (.lst (A.map qT)) (nI i) = some (.d (qT (A.getD i []))) := by
      show (atI (A.map qT) (i : Int)).map Sv.d = _
      rw [atI_nat', List.getElem?_map, List.getD_eq_getElem?_getD, List.getElem?_eq_getElem (by omega)]
      rfl
    have mem : A.getD i [] ∈ A := by rw [List.getD_eq_getElem?_getD, List.getElem?_eq_getElem (by omega)]; exact List.getElem_mem _
    have cm := comp_n (f := mD (mCall 2 f_u_law_add (mCons (mD (mOp oIx (mPk 4) (mPk 6))) (mCons (mD (mCall 2 f_u_law_multiply (mCons (mD (mVar 7)) (mCons (mD (mOp oIx (mD (mOp oIx (mPk 0) (mPk 5))) (mPk 6))) (mNil))))) (mNil))))) (n := n) (j := 6) (env := [.fr (.lst (A.map qT)), .fr (nI a), .fr (.lst xs), .fr (nI n), .ow (eqL n f), .fr (nI i), .un, .fr (enc ((v.fmod 5 - 2 : Int) : Rat))]) (h := fun l => enc (f l + ((v.fmod 5 - 2 : Int) : Rat) * ent A i l)) (fun l hl => by
      have x1 : oIx (.lst (eqL n f)) (nI l) = some (.d (enc (f l))) := by
        show (atI _ _).map Sv.d = _
        rw [eqL_at hl]
        rfl
      have x2 : oIx (qT (A.getD i [])) (nI l) = some (.d (enc (ent A i l))) := ix_rews (wA _ mem) hl
      have ez : Sz 50 (ent A i l) := by
        unfold ent
        rw [List.getD_eq_getElem?_getD (l := A.getD i []), List.getElem?_eq_getElem (by rw [wA _ mem]; exact hl)]
        exact zA _ mem _ (List.getElem_mem _)
      have mu := lmul_eq mz ez (by decide)
      have ad := ladd_eq (hf l hl) (mz.mul ez) (by omega)
      refine ⟨[.fr (.lst (A.map qT)), .fr (nI a), .fr (.lst xs), .fr (nI n), .ow (eqL n f), .fr (nI i), .fr (nI l), .fr (enc ((v.fmod 5 - 2 : Int) : Rat))], ?_, rfl⟩
      have e : (.int (l : Int) : D) = nI l := rfl
      rw [e]
      clear ne hx ei
      generalize enc (f l + ((v.fmod 5 - 2 : Int) : Rat) * ent A i l) = g1 at *
      generalize enc (((v.fmod 5 - 2 : Int) : Rat) * ent A i l) = g2 at *
      generalize enc ((v.fmod 5 - 2 : Int) : Rat) = g3 at *
      generalize enc (ent A i l) = g4 at *
      generalize enc (f l) = g5 at *
      generalize qT (A.getD i []) = g6 at *
      generalize A.map qT = f1 at *
      generalize eqL n f = f2 at *
      generalize nI i = f3 at *
      generalize nI a = f4 at *
      generalize nI n = f5 at *
      generalize nI l = f6 at *
      simp [x1, x2, ir, mu, ad])
    have hsn : small (n : Int) = true := small_nat (by omega)
    have l9 : (Iv.upTo 0 n).length ≤ 90000 := by rw [upTo_len]; omega
    have el : ((List.range n).map fun l => enc (f l + ((v.fmod 5 - 2 : Int) : Rat) * ent A i l)) = eqL n fun l => f l + ((v.fmod 5 - 2 : Int) : Rat) * ent A i l := rfl
    rw [el] at cm
    generalize (eqL n fun l => f l + ((v.fmod 5 - 2 : Int) : Rat) * ent A i l) = g0 at *
    generalize enc ((v.fmod 5 - 2 : Int) : Rat) = g3 at *
    generalize A.map qT = f1 at *
    generalize eqL n f = f2 at *
    generalize nI i = f3 at *
    generalize nI a = f4 at *
    unfold nI at *
    simp [rB, ne, hx, m5, ei, hsn, l9, cm]
end Law
namespace Law
open PySem PySem.Spec PyProof.Rows L2 Evl Iv
open Dt
theorem rep_get {n a i : Nat} {A : List (List Rat)} {m : List Rat} (lA : A.length = n) (ha : a < n) : (repM n a A m).getD i [] = if i = a then m else A.getD i [] := by
  unfold repM
  rw [List.getD_eq_getElem?_getD]
  by_cases h : i < a
  · rw [List.getElem?_append_left (by rw [List.length_take]; omega), if_neg (by omega), List.getElem?_take, if_pos h, List.getD_eq_getElem?_getD]
  · rw [List.getElem?_append_right (by rw [List.length_take]; omega), List.length_take, show min a A.length = a by omega]
    by_cases h2 : i = a
    · rw [if_pos h2, h2, Nat.sub_self]
      rfl
    · rw [if_neg h2, show i - a = (i - a - 1) + 1 by omega, List.getElem?_cons_succ, List.getElem?_drop, show a + 1 + (i - a - 1) = i by omega, List.getD_eq_getElem?_getD]
theorem rep_mem {n a : Nat} {A : List (List Rat)} {m r : List Rat} (h : r ∈ repM n a A m) : r = m ∨ r ∈ A := by
  rcases List.mem_append.mp h with h | h
  · exact .inr (List.mem_of_mem_take h)
  · rcases List.mem_cons.mp h with h | h
    · exact .inl h
    · exact .inr (List.mem_of_mem_drop h)
theorem rep_len {n a : Nat} {A : List (List Rat)} {m : List Rat} (lA : A.length = n) (ha : a < n) : (repM n a A m).length = n := by
  unfold repM
  rw [List.length_append, List.length_take, List.length_cons, List.length_drop]
  omega
theorem replaced_eq {n a : Nat} (n5 : n ≤ 5) (ha : a < n) {A : List (List Rat)} (lA : A.length = n) (wA : ∀ r ∈ A, r.length = n) (zA : ∀ r ∈ A, ∀ q ∈ r, Sz 50 q ∧ Dv 6 q) {xs : List D} {v : Nat → Int} (hx : ∀ i, i < n → oIx (.lst xs) (nI i) = some (.d (.int (v i)))) :
    ∃ (m : List Rat) (y : Nat → Rat), m.length = n ∧ (∀ q ∈ m, Sz 310 q ∧ Dv 6 q) ∧ (∀ j, j < n → sumN n (fun i => y i * ent (repM n a A m) i j) = 0) ∧ y a ≠ 0 ∧ f_u_law_replaced [.lst (A.map qT), nI a, .lst xs] = .ok (matD (repM n a A m)) := by
  obtain ⟨c, hc⟩ : ∃ c : Nat → Rat, c = fun i => if i = a then 0 else (((v i).fmod 5 - 2 : Int) : Rat) := ⟨_, rfl⟩
  have czero : c a = 0 := by rw [hc]; dsimp only; rw [if_pos rfl]
  have cz : ∀ i, Sz 3 (c i) ∧ Dv 1 (c i) := fun i => by
    rw [hc]
    dsimp only
    split
    · exact ⟨int_sz (z := 0) (by decide) (by decide), Dv.int 1 0⟩
    · have vb := fmod_b (x := v i) (k := 5) (by decide)
      simp only [Int.cast_ofNat_Int] at vb
      exact ⟨int_sz (by omega) (by decide), Dv.int 1 _⟩
  have eA : ∀ i l, i < n → l < n → Sz 50 (ent A i l) ∧ Dv 6 (ent A i l) := fun i l hi hl => by
    have mem : A.getD i [] ∈ A := by rw [List.getD_eq_getElem?_getD, List.getElem?_eq_getElem (by omega)]; exact List.getElem_mem _
    unfold ent
    rw [List.getD_eq_getElem?_getD (l := A.getD i []), List.getElem?_eq_getElem (by rw [wA _ mem]; exact hl)]
    exact zA _ mem _ (List.getElem_mem _)
  have fz : ∀ i l, i ≤ n → l < n → Sz (60 * i + 10) (sumN i fun r => c r * ent A r l) := fun i l hi hl => (sumN_sz (a := 53) fun r hr => (cz r).1.mul (eA r l (by omega) hl).1).mono (by omega)
  have key := for_inv (γ := γN 5) (g := rB) (all := Iv.upTo 0 n) (env := [.fr (.lst (A.map qT)), .fr (nI a), .fr (.lst xs), .fr (nI n), .ow (eqL n fun l => sumN 0 fun r => c r * ent A r l), .un, .un, .un])
    (fun i env => ∃ t5 t7, env = [.fr (.lst (A.map qT)), .fr (nI a), .fr (.lst xs), .fr (nI n), .ow (eqL n fun l => sumN i fun r => c r * ent A r l), t5, .un, t7]) ⟨.un, .un, rfl⟩ (by
      rintro i x env hxi ⟨t5, t7, rfl⟩
      have hi : i < n := by
        have := (List.getElem?_eq_some_iff.mp hxi).1
        rwa [upTo_len] at this
      rw [upN, List.getElem?_map, List.getElem?_range hi] at hxi
      cases hxi
      obtain ⟨u7, e⟩ := rB_eq (a := a) n5 hi lA wA (fun r hr q hq => (zA r hr q hq).1) (hx i hi) (f := fun l => sumN i fun r => c r * ent A r l) (fun l hl => fz i l (by omega) hl) (s7 := t7)
      have e2 : (eqL n fun l => (sumN i fun r => c r * ent A r l) + (if i = a then 0 else (((v i).fmod 5 - 2 : Int) : Rat)) * ent A i l) = eqL n fun l => sumN (i + 1) fun r => c r * ent A r l := eqL_congr fun l _ => by
        show _ = sumN i _ + c i * ent A i l
        rw [hc]
      rw [e2] at e
      exact ⟨_, _, rfl, e, _, u7, rfl⟩)
  obtain ⟨env', k1, t5, t7, rfl⟩ := key
  rw [upTo_len] at k1
  obtain ⟨m, hm⟩ : ∃ m, m = (List.range n).map fun l => sumN n fun r => c r * ent A r l := ⟨_, rfl⟩
  have ml : m.length = n := by rw [hm, List.length_map, List.length_range]
  have mg : ∀ l, l < n → m.getD l 0 = sumN n fun r => c r * ent A r l := fun l hl => by rw [hm, rngD hl]
  refine ⟨m, fun i => if i = a then -1 else c i, ml, fun q hq => ?_, fun j hj => ?_, ?_, ?_⟩
  · rw [hm] at hq
    obtain ⟨l, hl, rfl⟩ := List.mem_map.mp hq
    have hl := List.mem_range.mp hl
    refine ⟨(fz n l (Nat.le_refl n) hl).mono (by omega), sumN_dv fun r hr => ?_⟩
    have := (cz r).2.mul (eA r l hr hl).2
    exact this
  · have e1 : sumN n (fun i => (if i = a then -1 else c i) * ent (repM n a A m) i j) = sumN n (fun i => c i * ent A i j + (if i = a then -(sumN n fun r => c r * ent A r j) else 0)) := sumN_congr fun i hi => by
      have eg : ent (repM n a A m) i j = if i = a then m.getD j 0 else ent A i j := by
        unfold ent
        rw [rep_get lA ha]
        split <;> rfl
      rw [eg]
      by_cases h : i = a
      · rw [if_pos h, if_pos h, if_pos h, h, czero, mg j hj]
        grind
      · rw [if_neg h, if_neg h, if_neg h]
        grind
    rw [e1, sumN_add, sumN_one (f := fun i => if i = a then -(sumN n fun r => c r * ent A r j) else 0) ha fun l _ hne => by rw [if_neg hne]]
    rw [if_pos rfl]
    grind
  · dsimp only
    rw [if_pos rfl]
    decide
  · have ln : cLen [.lst (A.map qT)] = some (.d (nI n)) := by
      show some (Sv.d (D.int ((A.map qT).length : Nat))) = _
      rw [List.length_map, lA]
      rfl
    have hsn : small (n : Int) = true := small_nat (by omega)
    have l9 : (Iv.upTo 0 n).length ≤ 90000 := by rw [upTo_len]; omega
    have c4 := comp_n (f := mD (mTup (mCons (mD (mC (.int 0))) (mCons (mD (mC (.int 1))) (mNil))))) (n := n) (j := 6) (env := [.fr (.lst (A.map qT)), .fr (nI a), .fr (.lst xs), .fr (nI n), .un, .un, .un, .un]) (h := fun _ => enc 0) (fun l hl => ⟨_, rfl, rfl⟩)
    have e0 : ((List.range n).map fun _ => enc 0) = eqL n fun l => sumN 0 fun r => c r * ent A r l := rfl
    rw [e0] at c4
    have s1 : oSl (.lst (A.map qT)) none (some (a : Int)) = some (.l ((A.take a).map qT)) := by
      show some (Sv.l (cutL _ none (some (a : Int)))) = _
      rw [cut_to, List.map_take]
    have s2 : oSl (.lst (A.map qT)) (some ((a + 1 : Nat) : Int)) none = some (.l ((A.drop (a + 1)).map qT)) := by
      show some (Sv.l (cutL _ (some ((a + 1 : Nat) : Int)) none)) = _
      rw [cut_from, List.map_drop]
    have a1 : oAdd (nI a) (.int 1) = some (.d (.int ((a + 1 : Nat) : Int))) := by
      show some (Sv.d (.int ((a : Int) + 1))) = _
      rw [show (a : Int) + 1 = ((a + 1 : Nat) : Int) by omega]
    have em : D.tup (eqL n fun l => sumN n fun r => c r * ent A r l) = qT m := by
      rw [hm]
      unfold qT
      rw [eqL_map]
    have k1' : oCat (.tup ((A.take a).map qT)) (.tup [qT m]) = some (.d (.tup ((A.take a).map qT ++ [qT m]))) := by
      show (if _ then _ else _) = _
      rw [if_pos (by rw [List.length_map, List.length_take]; simp; omega)]
    have k2' : oAdd (.tup ((A.take a).map qT ++ [qT m])) (.tup ((A.drop (a + 1)).map qT)) = some (.d (matD (repM n a A m))) := by
      show (if _ then _ else _) = _
      rw [if_pos ⟨by rw [List.length_append, List.length_map, List.length_take, List.length_map, List.length_drop]; simp; omega, by simp⟩]
      unfold matD repM
      rw [List.map_append, List.map_cons, List.append_assoc]
      rfl
    unfold rB at k1
    generalize (eqL n fun l => sumN 0 fun r => c r * ent A r l) = g0 at *
    generalize (eqL n fun l => sumN n fun r => c r * ent A r l) = g1 at *
    generalize matD (repM n a A m) = g2 at *
    generalize (A.take a).map qT = g3 at *
    generalize (A.drop (a + 1)).map qT = g4 at *
    generalize ((a + 1 : Nat) : Int) = g5 at *
    generalize qT m = g6 at *
    generalize A.map qT = g7 at *
    clear hx e0
    unfold nI at *
    simp [f_u_law_replaced, g_u_law_replaced, ln, hsn, l9, enc_zero, c4, k1, s1, s2, a1, em, k1', k2']
/-! ### the turned product of the factors is regular -/
theorem reg_LU {n t : Nat} {L U : List (List Rat)} (lL : L.length = n) (lU : U.length = n) (pl : ∀ i, i < n → PL n i (L.getD i [])) (pu : ∀ i, i < n → PU n i (U.getD i [])) : Reg n ((mulM L U n).drop t ++ (mulM L U n).take t) := fun z hz => by
  have lP : (mulM L U n).length = n := by unfold mulM; rw [List.length_map, lL]
  have row : ∀ p, p < n → (mulM L U n).getD p [] = (List.range n).map fun k => sumN U.length fun l => (L.getD p []).getD l 0 * ent U l k := fun p hp => by
    unfold mulM
    rw [List.getD_eq_getElem?_getD, List.getElem?_map, List.getD_eq_getElem?_getD, List.getElem?_eq_getElem (by omega)]
    rfl
  have all : ∀ p, p < n → sumN n (fun j => ((mulM L U n).getD p []).getD j 0 * z j) = 0 := fun p hp => by
    have mem : (mulM L U n).getD p [] ∈ (mulM L U n).drop t ++ (mulM L U n).take t := by
      have h0 : (mulM L U n).getD p [] ∈ mulM L U n := by rw [List.getD_eq_getElem?_getD, List.getElem?_eq_getElem (by omega)]; exact List.getElem_mem _
      have h : (mulM L U n).getD p [] ∈ List.take t (mulM L U n) ++ List.drop t (mulM L U n) := by
        rw [List.take_append_drop]
        exact h0
      rw [List.mem_append] at *
      exact h.symm
    obtain ⟨i, hi, e⟩ := List.getElem_of_mem mem
    have li : i < n := by rw [List.length_append, List.length_drop, List.length_take, lP] at hi; omega
    have := hz i li
    unfold ent at this
    rw [List.getD_eq_getElem?_getD (l := (mulM L U n).drop t ++ (mulM L U n).take t), List.getElem?_eq_getElem hi, e] at this
    exact this
  have wz : ∀ p, p < n → sumN n (fun j => ent U p j * z j) = 0 := fun p => by
    induction p using Nat.strongRecOn with
    | ind p ih =>
      intro hp
      have a := all p hp
      have e : sumN n (fun j => ((mulM L U n).getD p []).getD j 0 * z j) = sumN n (fun l => (L.getD p []).getD l 0 * sumN n (fun j => ent U l j * z j)) := by
        have : sumN n (fun j => ((mulM L U n).getD p []).getD j 0 * z j) = sumN n (fun j => sumN n (fun l => (L.getD p []).getD l 0 * ent U l j * z j)) := sumN_congr fun j hj => by
          rw [row p hp, rngD hj, lU, Rat.mul_comm, ← sumN_mul]
          exact sumN_congr fun l _ => Rat.mul_comm _ _
        rw [this, sumN_swap]
        exact sumN_congr fun l _ => by
          rw [← sumN_mul]
          exact sumN_congr fun j _ => by grind
      rw [e, sumN_one hp fun l hl hne => by
        by_cases h : l < p
        · rw [ih l h hl, Rat.mul_zero]
        · rw [(pl p hp).out l (by omega) hl, Rat.zero_mul], (pl p hp).one, Rat.one_mul] at a
      exact a
  have back : ∀ d p, p < n → n - p ≤ d → z p = 0 := fun d => by
    induction d with
    | zero => intro p hp h; omega
    | succ d ih =>
      intro p hp h
      have a := wz p hp
      rw [sumN_one hp fun l hl hne => by
        by_cases h2 : l < p
        · have : ent U p l = 0 := (pu p hp).out l h2
          rw [this, Rat.zero_mul]
        · rw [ih l hl (by omega), Rat.mul_zero]] at a
      exact (Rat.mul_eq_zero.mp a).resolve_left (pu p hp).ne
  exact fun l hl => back n l hl (by omega)
end Law
namespace Law
open PySem PySem.Spec PyProof.Rows L2 Evl Iv
open Dt
theorem mod_n {x : Int} {n : Nat} (hn : 0 < n) : ∃ a : Nat, a < n ∧ oMod (.int x) (nI n) = some (.d (nI a)) := by
  have mq : oMod (.int x) (.int (n : Int)) = _ := oMod_int (by omega)
  have b := fmod_b (x := x) hn
  obtain ⟨a, ha⟩ := nat_of b.1
  rw [ha] at mq b
  exact ⟨a, by omega, mq⟩
theorem mul_nI {n m : Nat} (hn : n ≤ 1000) (hm : m ≤ 1000) : oMul (nI n) (nI m) = some (.d (nI (n * m))) := by
  have e : oMul (.int (n : Int)) (.int (m : Int)) = some (.d (.int ((n : Int) * (m : Int)))) := oMul_int (mulOk_of (a := 64) (b := 64) (by
      have : (1000000 : Nat) < 2 ^ 64 := by decide
      simp only [Int.natAbs_natCast]; omega) (by
      have : (1000000 : Nat) < 2 ^ 64 := by decide
      simp only [Int.natAbs_natCast]; omega) (by decide))
  rw [← Int.natCast_mul] at e
  exact e
theorem add_nI {n m : Nat} : oAdd (nI n) (nI m) = some (.d (nI (n + m))) := by
  show some (Sv.d (.int ((n : Int) + (m : Int)))) = _
  rw [← Int.natCast_add]
  rfl
/-! ### the table -/
noncomputable def tA : M Fl := (mSet 14 (mLc [16] (γN 16) (mRng1 (mCons (mPk 3) (mNil))) (mYes) (mD (mCall 2 f_u_law_low (mCons (mD (mOp oSub (mD (mOp oMod (mD (mCl cInt (mCons (mD (mOp oIx (mPk 7) (mD (mOp oAdd (mD (mOp oMul (mPk 9) (mPk 3))) (mPk 16))))) (mNil)))) (mD (mC (.int 13))))) (mD (mC (.int 6))))) (mCons (mD (mOp oAdd (mD (mC (.int 1))) (mD (mOp oMod (mD (mOp oDiv (mD (mCl cInt (mCons (mD (mOp oIx (mPk 7) (mD (mOp oAdd (mD (mOp oMul (mPk 9) (mPk 3))) (mPk 16))))) (mNil)))) (mD (mC (.int 13))))) (mD (mC (.int 4))))))) (mNil)))))))
noncomputable def tC : M Fl := (mIfS (mAndB (mB (mOp oEq (mPk 9) (mD (mC (.int 0))))) (mB (mOp oEq (mD (mOp oMod (mD (mCl cInt (mCons (mD (mOp oIx (mPk 1) (mD (mC (.int 3))))) (mNil)))) (mD (mC (.int 4))))) (mD (mC (.int 1)))))) (mPut 14 (mD (mC (.int 0))) (mD (mTup (mCons (mD (mOp oAdd (mD (mOp oPow (mD (mC (.int 10))) (mD (mC (.int 30))))) (mD (mCl cInt (mCons (mD (mOp oIx (mPk 1) (mD (mC (.int 4))))) (mNil)))))) (mCons (mD (mC (.int 1))) (mNil)))))) (mNx))
noncomputable def tB : M Fl := (mSeq tA (mSeq tC (mApp 8 (mD (mCl cTuple (mCons (mPk 14) (mNil)))))))
theorem tA_eq {n w i : Nat} (n5 : n ≤ 5) (w2 : w ≤ 2) (hi : i < n) {ys : List Int} (hy : Dr (n * w + n) ys) {s0 s1 s2 s4 s5 s6 s8 s10 s11 s12 s13 s14 s15 s17 : Sl} :
    ∃ f : Nat → Rat, (∀ l, Sz 110 (f l) ∧ Dv 12 (f l)) ∧ tA [s0, s1, s2, .fr (nI w), s4, s5, s6, .fr (.lst (ys.map D.int)), s8, .fr (nI i), s10, s11, s12, s13, s14, s15, .un, s17] = .ok .nx [s0, s1, s2, .fr (nI w), s4, s5, s6, .fr (.lst (ys.map D.int)), s8, .fr (nI i), s10, s11, s12, s13, .ow (eqL w f), s15, .un, s17] := by
  obtain ⟨p, hp⟩ : ∃ p : Nat → Int, p = fun k => (gt ys (i * w + k)).fmod 13 - 6 := ⟨_, rfl⟩
  obtain ⟨d, hd⟩ : ∃ d : Nat → Int, d = fun k => 1 + ((gt ys (i * w + k)).fdiv 13).fmod 4 := ⟨_, rfl⟩
  have pb : ∀ l, -6 ≤ p l ∧ p l ≤ 6 := fun l => by
    have := fmod_b (x := gt ys (i * w + l)) (k := 13) (by decide)
    simp only [Int.cast_ofNat_Int] at this
    rw [hp]
    dsimp only
    omega
  have db : ∀ l, 1 ≤ d l ∧ d l ≤ 4 := fun l => by
    have := fmod_b (x := (gt ys (i * w + l)).fdiv 13) (k := 4) (by decide)
    simp only [Int.cast_ofNat_Int] at this
    rw [hd]
    dsimp only
    omega
  have iw : i * w + w ≤ n * w := by
    have := Nat.mul_le_mul_right w (show i + 1 ≤ n by omega)
    rw [Nat.add_mul, Nat.one_mul] at this
    exact this
  refine ⟨fun l => Rat.divInt (p l) (d l), fun l => ?_, ?_⟩
  · have := pb l
    have := db l
    refine ⟨(divInt_sz (b := 4) (by omega) (by omega) (by omega)).mono (by decide), ?_⟩
    dsimp only
    rcases (show d l = 1 ∨ d l = 2 ∨ d l = 3 ∨ d l = 4 by omega) with h | h | h | h
    · rw [h]; exact (Dv.divInt (n := p l) (d := 1) (by decide)).times 12
    · rw [h]; exact (Dv.divInt (n := p l) (d := 2) (by decide)).times 6
    · rw [h]; exact (Dv.divInt (n := p l) (d := 3) (by decide)).times 4
    · rw [h]; exact (Dv.divInt (n := p l) (d := 4) (by decide)).times 3
  · have cm := comp_n (f := mD (mCall 2 f_u_law_low (mCons (mD (mOp oSub (mD (mOp oMod (mD (mCl cInt (mCons (mD (mOp oIx (mPk 7) (mD (mOp oAdd (mD (mOp oMul (mPk 9) (mPk 3))) (mPk 16))))) (mNil)))) (mD (mC (.int 13))))) (mD (mC (.int 6))))) (mCons (mD (mOp oAdd (mD (mC (.int 1))) (mD (mOp oMod (mD (mOp oDiv (mD (mCl cInt (mCons (mD (mOp oIx (mPk 7) (mD (mOp oAdd (mD (mOp oMul (mPk 9) (mPk 3))) (mPk 16))))) (mNil)))) (mD (mC (.int 13))))) (mD (mC (.int 4))))))) (mNil))))) (n := w) (j := 16) (env := [s0, s1, s2, .fr (nI w), s4, s5, s6, .fr (.lst (ys.map D.int)), s8, .fr (nI i), s10, s11, s12, s13, s14, s15, .un, s17]) (h := fun l => enc (Rat.divInt (p l) (d l))) (fun l hl => by
      have mu := mul_nI (n := i) (m := w) (by omega) (by omega)
      have ad := add_nI (n := i * w) (m := l)
      have ix := ix_dn hy (k := i * w + l) (by omega)
      have m13 : oMod (.int (gt ys (i * w + l))) (.int 13) = some (.d (.int ((gt ys (i * w + l)).fmod 13))) := oMod_int (by decide)
      have d13 : oDiv (.int (gt ys (i * w + l))) (.int 13) = some (.d (.int ((gt ys (i * w + l)).fdiv 13))) := oDiv_int (by decide)
      have m4 : oMod (.int ((gt ys (i * w + l)).fdiv 13)) (.int 4) = some (.d (.int (((gt ys (i * w + l)).fdiv 13).fmod 4))) := oMod_int (by decide)
      have lo := low_eq (n := p l) (d := d l) (by have := db l; omega)
      have p6 : oSub (.int ((gt ys (i * w + l)).fmod 13)) (.int 6) = some (.d (.int (p l))) := by rw [hp]; rfl
      have d1 : oAdd (.int 1) (.int (((gt ys (i * w + l)).fdiv 13).fmod 4)) = some (.d (.int (d l))) := by rw [hd]; rfl
      refine ⟨[s0, s1, s2, .fr (nI w), s4, s5, s6, .fr (.lst (ys.map D.int)), s8, .fr (nI i), s10, s11, s12, s13, s14, s15, .fr (nI l), s17], ?_, rfl⟩
      have e : (.int (l : Int) : D) = nI l := rfl
      rw [e]
      clear hp hd pb db
      generalize enc (Rat.divInt (p l) (d l)) = f1 at *
      generalize p l = pl at *
      generalize d l = dl at *
      generalize gt ys (i * w + l) = g1 at *
      generalize ys.map D.int = f2 at *
      generalize nI (i * w + l) = f3 at *
      generalize nI (i * w) = f4 at *
      generalize nI i = f5 at *
      generalize nI w = f6 at *
      generalize nI l = f7 at *
      simp [-oAdd_int, -oSub_int, mu, ad, ix, m13, d13, m4, p6, d1, lo])
    have hsw : small (w : Int) = true := small_nat (by omega)
    have l9 : (Iv.upTo 0 w).length ≤ 90000 := by rw [upTo_len]; omega
    have el : ((List.range w).map fun l => enc (Rat.divInt (p l) (d l))) = eqL w fun l => Rat.divInt (p l) (d l) := rfl
    rw [el] at cm
    generalize (eqL w fun l => Rat.divInt (p l) (d l)) = f1 at *
    generalize ys.map D.int = f2 at *
    unfold nI at *
    simp [tA, hsw, l9, cm]
theorem tC_eq {w i : Nat} (w1 : 1 ≤ w) {xs : List Int} (hx : Dr 5 xs) {f : Nat → Rat} (hf : ∀ l, Sz 110 (f l) ∧ Dv 12 (f l)) {s0 s2 s3 s4 s5 s6 s7 s8 s10 s11 s12 s13 s15 s16 s17 : Sl} :
    ∃ g : Nat → Rat, (∀ l, Sz 110 (g l) ∧ Dv 12 (g l)) ∧ tC [s0, .fr (.lst (xs.map D.int)), s2, s3, s4, s5, s6, s7, s8, .fr (nI i), s10, s11, s12, s13, .ow (eqL w f), s15, s16, s17] = .ok .nx [s0, .fr (.lst (xs.map D.int)), s2, s3, s4, s5, s6, s7, s8, .fr (nI i), s10, s11, s12, s13, .ow (eqL w g), s15, s16, s17] := by
  have i3 : oIx (.lst (xs.map D.int)) (.int 3) = _ := ix_dn (k := 3) hx (by decide)
  have i4 : oIx (.lst (xs.map D.int)) (.int 4) = _ := ix_dn (k := 4) hx (by decide)
  have m4 : oMod (.int (gt xs 3)) (.int 4) = some (.d (.int ((gt xs 3).fmod 4))) := oMod_int (by decide)
  have e0 : oEq (nI i) (.int 0) = some (.d (.bl (decide (i = 0)))) := by
    show some (Sv.d (.bl ((i : Int) == 0))) = _
    by_cases h : i = 0
    · rw [decide_eq_true h, h]; rfl
    · rw [decide_eq_false h, show ((i : Int) == 0) = false from by rw [beq_eq_false_iff_ne]; omega]
  by_cases h : i = 0
  · rw [decide_eq_true h] at e0
    by_cases h4 : (gt xs 3).fmod 4 = 1
    · rw [h4] at m4
      have gb := hx.2 (gt xs 4) (by
        unfold gt
        rw [List.getD_eq_getElem?_getD, List.getElem?_eq_getElem (by rw [hx.1]; decide)]
        exact List.getElem_mem _)
      have x2 := ix_eqL (f := f) (show 0 < w by omega)
      have x3 := eqL_set (f := f) (q := ((1000000000000000000000000000000 + gt xs 4 : Int) : Rat)) (show 0 < w by omega)
      have ei := enc_int (z := 1000000000000000000000000000000 + gt xs 4)
      have pa : oAdd (.int 1000000000000000000000000000000) (.int (gt xs 4)) = some (.d (.int (1000000000000000000000000000000 + gt xs 4))) := rfl
      refine ⟨fun l => if l = 0 then ((1000000000000000000000000000000 + gt xs 4 : Int) : Rat) else f l, fun l => ?_, ?_⟩
      · dsimp only
        split
        · refine ⟨int_sz ?_ (by decide), Dv.int 12 _⟩
          have : (1000000000000000000000000000000 + 5040 : Nat) < 2 ^ 110 := by decide
          omega
        · exact hf l
      · have p30 := pow_30
        have c0 : ((0 : Nat) : Int) = 0 := rfl
        rw [c0] at x2
        generalize (1000000000000000000000000000000 + gt xs 4 : Int) = big at *
        generalize (1000000000000000000000000000000 : Int) = ten at *
        generalize (eqL w fun l => if l = 0 then ((big : Int) : Rat) else f l) = l2 at *
        generalize enc ((big : Int) : Rat) = f1 at *
        generalize eqL w f = l1 at *
        generalize gt xs 4 = g4 at *
        generalize gt xs 3 = g3 at *
        generalize xs.map D.int = f2 at *
        generalize nI i = f3 at *
        simp [-oAdd_int, tC, e0, i3, m4, i4, p30, pa, ei, x2, x3]
    · refine ⟨f, hf, ?_⟩
      generalize (gt xs 3).fmod 4 = e at *
      generalize eqL w f = l1 at *
      generalize xs.map D.int = f2 at *
      generalize nI i = f3 at *
      simp [tC, e0, i3, m4, h4]
  · rw [decide_eq_false h] at e0
    refine ⟨f, hf, ?_⟩
    generalize eqL w f = l1 at *
    generalize xs.map D.int = f2 at *
    generalize nI i = f3 at *
    simp [tC, e0]
theorem tB_eq {n w i : Nat} (n5 : n ≤ 5) (w1 : 1 ≤ w) (w2 : w ≤ 2) (hi : i < n) {xs ys : List Int} (hx : Dr 5 xs) (hy : Dr (n * w + n) ys) {TT : List D} (hT : TT.length < 1000) {s0 s2 s4 s5 s6 s10 s11 s12 s13 s14 s15 s17 : Sl} :
    ∃ (r : List Rat) (t14 : Sl), r.length = w ∧ (∀ q ∈ r, Sz 110 q ∧ Dv 12 q) ∧ tB [s0, .fr (.lst (xs.map D.int)), s2, .fr (nI w), s4, s5, s6, .fr (.lst (ys.map D.int)), .ow TT, .fr (nI i), s10, s11, s12, s13, s14, s15, .un, s17] = .ok .nx [s0, .fr (.lst (xs.map D.int)), s2, .fr (nI w), s4, s5, s6, .fr (.lst (ys.map D.int)), .ow (TT ++ [qT r]), .fr (nI i), s10, s11, s12, s13, t14, s15, .un, s17] := by
  obtain ⟨f, hf, e1⟩ := tA_eq n5 w2 hi hy (s0 := s0) (s1 := .fr (.lst (xs.map D.int))) (s2 := s2) (s4 := s4) (s5 := s5) (s6 := s6) (s8 := .ow TT) (s10 := s10) (s11 := s11) (s12 := s12) (s13 := s13) (s14 := s14) (s15 := s15) (s17 := s17)
  obtain ⟨g, hg, e2⟩ := tC_eq (i := i) w1 hx hf (s0 := s0) (s2 := s2) (s3 := .fr (nI w)) (s4 := s4) (s5 := s5) (s6 := s6) (s7 := .fr (.lst (ys.map D.int))) (s8 := .ow TT) (s10 := s10) (s11 := s11) (s12 := s12) (s13 := s13) (s15 := s15) (s16 := .un) (s17 := s17)
  refine ⟨(List.range w).map g, .ow (eqL w g), by rw [List.length_map, List.length_range], fun q hq => ?_, ?_⟩
  · obtain ⟨l, hl, rfl⟩ := List.mem_map.mp hq
    exact hg l
  · have eq : qT ((List.range w).map g) = .tup (eqL w g) := by unfold qT; rw [eqL_map]
    have hT9 : TT.length < 90000 := by omega
    rw [eq]
    unfold tB
    rw [mSeq_eq, e1]
    dsimp only
    rw [mSeq_eq, e2]
    dsimp only
    generalize eqL w g = l1 at *
    simp [hT9]
end Law
namespace Law
open PySem PySem.Spec PyProof.Rows L2 Evl Iv
open Dt
theorem mul_mem {F G : List (List Rat)} {w n a b N M : Nat} (wF : ∀ r ∈ F, r.length = n) (lG : G.length = n) (wG : ∀ r ∈ G, r.length = w) (zF : ∀ r ∈ F, ∀ q ∈ r, Sz a q ∧ Dv N q) (zG : ∀ r ∈ G, ∀ q ∈ r, Sz b q ∧ Dv M q) :
    ∀ r ∈ mulM F G w, r.length = w ∧ ∀ q ∈ r, Sz ((a + b + 1) * n + 1) q ∧ Dv (N * M) q := fun r hr => by
  obtain ⟨f, hf, rfl⟩ := List.mem_map.mp hr
  refine ⟨by rw [List.length_map, List.length_range], fun q hq => ?_⟩
  obtain ⟨k, hk, rfl⟩ := List.mem_map.mp hq
  have hk := List.mem_range.mp hk
  rw [lG]
  have e1 : ∀ l, l < n → Sz a (f.getD l 0) ∧ Dv N (f.getD l 0) := fun l hl => by
    rw [List.getD_eq_getElem?_getD, List.getElem?_eq_getElem (by rw [wF f hf]; exact hl)]
    exact zF f hf _ (List.getElem_mem _)
  have e2 : ∀ l, l < n → Sz b (ent G l k) ∧ Dv M (ent G l k) := fun l hl => by
    have mem : G.getD l [] ∈ G := by rw [List.getD_eq_getElem?_getD, List.getElem?_eq_getElem (by omega)]; exact List.getElem_mem _
    unfold ent
    rw [List.getD_eq_getElem?_getD (l := G.getD l []), List.getElem?_eq_getElem (by rw [wG _ mem]; exact hk)]
    exact zG _ mem _ (List.getElem_mem _)
  exact ⟨sumN_sz fun l hl => (e1 l hl).1.mul (e2 l hl).1, sumN_dv fun l hl => (e1 l hl).2.mul (e2 l hl).2⟩
theorem mul_ent {F G : List (List Rat)} {w i j : Nat} (hi : i < F.length) (hj : j < w) : ent (mulM F G w) i j = sumN G.length fun l => ent F i l * ent G l j := by
  unfold mulM
  have e : (F.map fun r => (List.range w).map fun k => sumN G.length fun l => r.getD l 0 * ent G l k).getD i [] = (List.range w).map fun k => sumN G.length fun l => (F.getD i []).getD l 0 * ent G l k := by
    rw [List.getD_eq_getElem?_getD, List.getElem?_map, List.getD_eq_getElem?_getD, List.getElem?_eq_getElem hi]
    rfl
  show ((F.map fun r => (List.range w).map fun k => sumN G.length fun l => r.getD l 0 * ent G l k).getD i []).getD j 0 = _
  rw [e, rngD hj]
  rfl
theorem mul_len {F G : List (List Rat)} {w : Nat} : (mulM F G w).length = F.length := by unfold mulM; rw [List.length_map]
theorem sys_mul {n w : Nat} (n5 : n ≤ 5) (w2 : w ≤ 2) {A T : List (List Rat)} (lA : A.length = n) (wA : ∀ r ∈ A, r.length = n) (zA : ∀ r ∈ A, ∀ q ∈ r, Sz 310 q ∧ Dv 6 q) {R : List (List Rat)} (lR : R.length = n) (wR : ∀ r ∈ R, r.length = w ∧ ∀ q ∈ r, Sz 2200 q ∧ Dv 72 q) : Sys n w 2200 A R where
  lA := lA
  lB := lR
  wA := wA
  wB := fun r hr => (wR r hr).1
  sz := fun i hi q hq => by
    rcases List.mem_append.mp hq with hq | hq
    · have mem : A.getD i [] ∈ A := by rw [List.getD_eq_getElem?_getD, List.getElem?_eq_getElem (by omega)]; exact List.getElem_mem _
      exact (zA _ mem q hq).1.mono (by decide)
    · have mem : R.getD i [] ∈ R := by rw [List.getD_eq_getElem?_getD, List.getElem?_eq_getElem (by omega)]; exact List.getElem_mem _
      exact ((wR _ mem).2 q hq).1
  lc := fun i hi => lcmQ_lt (N := 72) (fun q hq => by
    rcases List.mem_append.mp hq with hq | hq
    · have mem : A.getD i [] ∈ A := by rw [List.getD_eq_getElem?_getD, List.getElem?_eq_getElem (by omega)]; exact List.getElem_mem _
      exact (zA _ mem q hq).2.times 12
    · have mem : R.getD i [] ∈ R := by rw [List.getD_eq_getElem?_getD, List.getElem?_eq_getElem (by omega)]; exact List.getElem_mem _
      exact ((wR _ mem).2 q hq).2) (by decide) (by decide)
  n9 := by omega
  k9 := by omega
  b9 := by omega
  bb := by decide
/-- same entries, same matrix -/
theorem mat_ext {n w : Nat} {X T : List (List Rat)} (lX : X.length = n) (lT : T.length = n) (wX : ∀ r ∈ X, r.length = w) (wT : ∀ r ∈ T, r.length = w) (h : ∀ i, i < n → ∀ j, j < w → ent X i j = ent T i j) : X = T := by
  refine List.ext_getElem (by omega) fun i h1 h2 => ?_
  refine List.ext_getElem (by rw [wX _ (List.getElem_mem _), wT _ (List.getElem_mem _)]) fun j h3 h4 => ?_
  have := h i (by omega) j (by rw [wX _ (List.getElem_mem _)] at h3; exact h3)
  unfold ent at this
  rw [List.getD_eq_getElem?_getD (l := X), List.getElem?_eq_getElem h1, List.getD_eq_getElem?_getD (l := T), List.getElem?_eq_getElem h2] at this
  have this : (X[i]).getD j 0 = (T[i]).getD j 0 := this
  rwa [getD_of h3, getD_of h4] at this
where
  getD_of {r : List Rat} {j : Nat} (h : j < r.length) : r.getD j 0 = r[j] := by
    rw [List.getD_eq_getElem?_getD, List.getElem?_eq_getElem h]
    rfl
theorem solve_mul {n w : Nat} (n5 : n ≤ 5) (w2 : w ≤ 2) {A T : List (List Rat)} (lA : A.length = n) (wA : ∀ r ∈ A, r.length = n) (zA : ∀ r ∈ A, ∀ q ∈ r, Sz 50 q ∧ Dv 6 q) (lT : T.length = n) (zT : ∀ r ∈ T, r.length = w ∧ ∀ q ∈ r, Sz 110 q ∧ Dv 12 q) (hr : Reg n A) : f_solve [matD A, matD (mulM A T w)] = .ok (.tup [.str "solution", matD T]) := by
  have mm := mul_mem (w := w) wA lT (fun r hr => (zT r hr).1) zA (fun r hr => (zT r hr).2)
  have S : Sys n w 2200 A (mulM A T w) := sys_mul (T := T) n5 w2 lA wA (fun r hr q hq => ⟨(zA r hr q hq).1.mono (by decide), (zA r hr q hq).2⟩) (by rw [mul_len, lA]) fun r hr => ⟨(mm r hr).1, fun q hq => ⟨((mm r hr).2 q hq).1.mono (by omega), ((mm r hr).2 q hq).2⟩⟩
  obtain ⟨X, lX, wX, _, e, hX⟩ := solve_reg S hr
  have : X = T := mat_ext lX lT wX (fun r hr => (zT r hr).1) fun i hi j hj => by
    have key := hr (fun l => ent X l j - ent T l j) (fun i hi => by
      have a := hX i hi j hj
      rw [mul_ent (by omega) hj, lT] at a
      have : sumN n (fun l => ent A i l * (ent X l j - ent T l j)) = sumN n (fun l => ent A i l * ent X l j) - sumN n (fun l => ent A i l * ent T l j) := by
        have h2 : sumN n (fun l => ent A i l * (ent X l j - ent T l j)) = sumN n (fun l => ent A i l * ent X l j + -(ent A i l * ent T l j)) := sumN_congr fun l _ => by grind
        rw [h2, sumN_add, sumN_neg]
        grind
      rw [this, a]
      grind) i hi
    have key : ent X i j - ent T i j = 0 := key
    grind
  rw [this] at e
  exact e
theorem table_eq' {n w : Nat} {T : List (List Rat)} (hn : n ≤ 1000) (hw : w ≤ 1000) (lT : T.length = n) (wT : ∀ r ∈ T, r.length = w) : f_u_law_is_table [matD T, nI n, nI w] = .ok (.bl true) := by
  have ln : cLen [matD T] = some (.d (nI n)) := by
    show some (Sv.d (D.int ((T.map qT).length : Nat))) = _
    rw [List.length_map, lT]
    rfl
  have is : cIsi [matD T, .ty "tuple"] = some (.d (.bl true)) := rfl
  have it : itemsOf (matD T) = some (T.map qT) := rfl
  have ne : ∀ m : Nat, oNe (nI m) (nI m) = some (.d (.bl false)) := fun m => by
    show some (Sv.d (.bl (!((m : Int) == (m : Int))))) = _
    simp
  have nn := ne n
  have nw := ne w
  have key := for_inv (γ := γN 3) (g := (mIfS (mOrB (mNotB (mB (mCl cIsi (mCons (mPk 3) (mCons (mD (mC (.ty "tuple"))) (mNil)))))) (mOrB (mB (mOp oNe (mD (mCl cLen (mCons (mPk 3) (mNil)))) (mPk 2))) (mNotB (mB (mCl cAll (mCons (mD (mLc [4] (γN 4) (mIt (mD (mVar 3))) (mYes) (mD (mCall 1 f_u_law_is_ratio (mCons (mD (mVar 4)) (mNil)))))) (mNil))))))) (mRet (mD (mC (.bl false)))) (mNx))) (all := T.map qT) (env := [.fr (matD T), .fr (nI n), .fr (nI w), .un, .un])
    (fun i env => ∃ s3, env = [.fr (matD T), .fr (nI n), .fr (nI w), s3, .un]) ⟨.un, rfl⟩ (by
      rintro i x env hx ⟨s3, rfl⟩
      rw [List.getElem?_map] at hx
      obtain ⟨r, hr, rfl⟩ := Option.map_eq_some_iff.mp hx
      have mem := List.mem_of_getElem? hr
      have lr : cLen [qT r] = some (.d (nI w)) := by
        show some (Sv.d (D.int ((r.map enc).length : Nat))) = _
        rw [List.length_map, wT r mem]
        rfl
      have isr : cIsi [qT r, .ty "tuple"] = some (.d (.bl true)) := rfl
      have itr : itemsOf (qT r) = some (r.map enc) := rfl
      have l9 : (r.map enc).length ≤ 90000 := by rw [List.length_map, wT r mem]; omega
      have cm := compL_map (enc := enc) (vs := [4]) (γ := γN 4) (cond := mYes) (elt := mD (mCall 1 f_u_law_is_ratio (mCons (mD (mVar 4)) (mNil)))) (env := [.fr (matD T), .fr (nI n), .fr (nI w), .fr (qT r), .un]) (h := fun _ => .bl true) (xs := r) (acc := []) (fun q _ => by
        have ir := is_rat (q := q)
        refine ⟨[.fr (matD T), .fr (nI n), .fr (nI w), .fr (qT r), .fr (enc q)], _, [.fr (matD T), .fr (nI n), .fr (nI w), .fr (qT r), .fr (enc q)], rfl, rfl, ?_, rfl⟩
        generalize matD T = f1 at *
        generalize qT r = f2 at *
        generalize enc q = f3 at *
        simp [ir])
      rw [List.nil_append] at cm
      have ca : cAll [.lst (r.map fun _ => D.bl true)] = some (.d (.bl true)) := all_true r
      refine ⟨_, [.fr (matD T), .fr (nI n), .fr (nI w), .fr (qT r), .un], rfl, ?_, _, rfl⟩
      show (mIfS _ _ _) [.fr (matD T), .fr (nI n), .fr (nI w), .fr (qT r), .un] = _
      generalize (r.map fun _ => D.bl true) = f0 at *
      generalize r.map enc = f4 at *
      generalize matD T = f1 at *
      generalize qT r = f2 at *
      generalize nI w = f5 at *
      generalize nI n = f6 at *
      simp [isr, lr, nw, itr, l9, cm, ca])
  obtain ⟨env', k1, s3, rfl⟩ := key
  generalize T.map qT = f4 at *
  generalize matD T = f1 at *
  generalize nI w = f5 at *
  generalize nI n = f6 at *
  simp [f_u_law_is_table, g_u_law_is_table, is, ln, nn, it, k1]
where
  all_true (r : List Rat) : cAll [.lst (r.map fun _ => D.bl true)] = some (.d (.bl true)) := by
    rw [cAll_map (p := fun _ => true)]
    simp
theorem same_mat {n w : Nat} {T : List (List Rat)} (hn : n ≤ 1000) (hw : w ≤ 1000) (lT : T.length = n) (wT : ∀ r ∈ T, r.length = w) : f_u_law_same [matD T, matD T] = .ok (.bl true) := by
  refine same_seq (n := 7) (.inl rfl) (by rw [List.length_map]; omega) fun x hx => ?_
  obtain ⟨r, hr, rfl⟩ := List.mem_map.mp hx
  refine same_seq (n := 6) (.inl rfl) (by rw [List.length_map, wT r hr]; omega) fun y hy => ?_
  obtain ⟨q, hq, rfl⟩ := List.mem_map.mp hy
  exact same_self (n := 6) Pl.enc
end Law
namespace Law
open PySem PySem.Spec PyProof.Rows L2 Evl Iv
open Dt
noncomputable def colB : M Fl := (mIfS (mNotB (mB (mCall 2 f_u_law_same (mCons (mD (mCall 2 f_u_law_times (mCons (mD (mOp oIx (mPk 11) (mD (mC (.int 1))))) (mCons (mD (mLc [14] (γN 14) (mIt (mD (mVar 12))) (mYes) (mD (mOp oIx (mPk 14) (mPk 15))))) (mNil))))) (mCons (mD (mTup (mCons (mD (mC (.int 0))) (mCons (mD (mC (.int 1))) (mNil))))) (mNil)))))) (mRet (mD (mC (.bl false)))) (mNx))
theorem colB_eq {n j : Nat} (n5 : n ≤ 5) (hj : j < n) {A : List (List Rat)} (lA : A.length = n) (wA : ∀ r ∈ A, r.length = n) (zA : ∀ r ∈ A, ∀ q ∈ r, Sz 310 q ∧ Dv 6 q) {Y : List Rat} (lY : Y.length = n) (zY : ∀ q ∈ Y, Sz 11351 q) (hY : sumN n (fun i => Y.getD i 0 * ent A i j) = 0) {h0 : D} {s0 s1 s2 s3 s4 s5 s6 s7 s8 s9 s10 s13 s14 s16 s17 : Sl} :
    colB [s0, s1, s2, s3, s4, s5, s6, s7, s8, s9, s10, .fr (.tup [h0, qT Y]), .fr (matD A), s13, s14, .fr (nI j), s16, s17] = .ok .nx [s0, s1, s2, s3, s4, s5, s6, s7, s8, s9, s10, .fr (.tup [h0, qT Y]), .fr (matD A), s13, .un, .fr (nI j), s16, s17] := by
  have it : itemsOf (matD A) = some (A.map qT) := rfl
  have l9 : (A.map qT).length ≤ 90000 := by rw [List.length_map]; omega
  have i1 : oIx (.tup [h0, qT Y]) (.int 1) = some (.d (qT Y)) := rfl
  have cm := compL_map (enc := qT) (vs := [14]) (γ := γN 14) (cond := mYes) (elt := mD (mOp oIx (mPk 14) (mPk 15))) (env := [s0, s1, s2, s3, s4, s5, s6, s7, s8, s9, s10, .fr (.tup [h0, qT Y]), .fr (matD A), s13, .un, .fr (nI j), s16, s17]) (h := fun r : List Rat => enc (r.getD j 0)) (xs := A) (acc := []) (fun r hr => by
    have ix : oIx (qT r) (nI j) = some (.d (enc (r.getD j 0))) := ix_rews (wA r hr) hj
    refine ⟨[s0, s1, s2, s3, s4, s5, s6, s7, s8, s9, s10, .fr (.tup [h0, qT Y]), .fr (matD A), s13, .fr (qT r), .fr (nI j), s16, s17], _, [s0, s1, s2, s3, s4, s5, s6, s7, s8, s9, s10, .fr (.tup [h0, qT Y]), .fr (matD A), s13, .fr (qT r), .fr (nI j), s16, s17], rfl, rfl, ?_, rfl⟩
    generalize D.tup [h0, qT Y] = f1 at *
    generalize matD A = f2 at *
    generalize qT r = f3 at *
    generalize enc (r.getD j 0) = f4 at *
    generalize nI j = f5 at *
    simp [ix])
  rw [List.nil_append] at cm
  have e8 : (A.map fun r => enc (r.getD j 0)) = (A.map fun r => r.getD j 0).map enc := by rw [List.map_map]; rfl
  rw [e8] at cm
  have tm := times_eq (c1 := D.tup) (c2 := D.lst) LT.t LT.l (r := Y) (c := A.map fun r => r.getD j 0) (n := n) (a := 11351) (b := 310) lY (by rw [List.length_map]; exact lA) (by omega) (fun l hl => by
    rw [List.getD_eq_getElem?_getD, List.getElem?_eq_getElem (by omega)]
    exact zY _ (List.getElem_mem _)) (fun l hl => by
    rw [List.getD_eq_getElem?_getD, List.getElem?_map, List.getElem?_eq_getElem (by omega)]
    show Sz 310 ((A[l]).getD j 0)
    rw [List.getD_eq_getElem?_getD, List.getElem?_eq_getElem (by rw [wA _ (List.getElem_mem _)]; exact hj)]
    exact (zA _ (List.getElem_mem _) _ (List.getElem_mem _)).1) (by omega)
  have es : (sumN n fun l => Y.getD l 0 * (A.map fun r => r.getD j 0).getD l 0) = 0 := by
    refine Eq.trans (sumN_congr fun l hl => ?_) hY
    rw [col_get (by omega)]
  rw [es] at tm
  have eY : D.tup (Y.map enc) = qT Y := rfl
  rw [eY] at tm
  have sm := same_enc (q := 0)
  generalize (A.map fun r => r.getD j 0).map enc = g1 at *
  generalize hg : D.tup [h0, qT Y] = f1 at *
  clear hg
  generalize qT Y = f6 at *
  generalize matD A = f2 at *
  generalize A.map qT = f3 at *
  generalize nI j = f5 at *
  simp [colB, i1, it, l9, cm, tm, enc_zero, sm]
noncomputable def dB : M Fl := (mSeq (mSet 11 (mCall 2 f_solve (mCons (mD (mVar 12)) (mCons (mD (mVar 13)) (mNil)))))
    (mSeq (mIfS (mOrB (mNotB (mB (mCl cIsi (mCons (mPk 11) (mCons (mD (mC (.ty "tuple"))) (mNil)))))) (mOrB (mB (mOp oNe (mD (mCl cLen (mCons (mPk 11) (mNil)))) (mD (mC (.int 2))))) (mNotB (mB (mCall 2 f_u_law_same (mCons (mD (mOp oIx (mPk 11) (mD (mC (.int 0))))) (mCons (mD (mC (.str "dependency"))) (mNil)))))))) (mRet (mD (mC (.bl false)))) (mNx))
    (mSeq (mIfS (mOrB (mNotB (mB (mCall 3 f_u_law_is_table (mCons (mD (mTup (mCons (mD (mOp oIx (mPk 11) (mD (mC (.int 1))))) (mNil)))) (mCons (mD (mC (.int 1))) (mCons (mD (mVar 2)) (mNil))))))) (mNotB (mB (mCl cAny (mCons (mD (mLc [17] (γN 17) (mIt (mD (mOp oIx (mPk 11) (mD (mC (.int 1)))))) (mYes) (mD (mOp oNe (mD (mOp oIx (mPk 17) (mD (mC (.int 0))))) (mD (mC (.int 0))))))) (mNil)))))) (mRet (mD (mC (.bl false)))) (mNx))
    (mFor (γN 15) (mRng1 (mCons (mPk 2) (mNil))) colB))))
theorem any_ne {Y : List Rat} (h : ∃ q ∈ Y, q ≠ 0) : cAny [.lst (Y.map fun q => D.bl (!(q.num == 0)))] = some (.d (.bl true)) := by
  rw [cAny_map (p := fun q : Rat => !(q.num == 0))]
  have : (Y.any fun q => !(q.num == 0)) = true := by
    rw [List.any_eq_true]
    obtain ⟨q, hq, ne⟩ := h
    refine ⟨q, hq, ?_⟩
    have : q.num ≠ 0 := fun z => ne (Rat.num_eq_zero.mp z)
    simp [this]
  rw [this]
theorem dB_eq {n w : Nat} (n5 : n ≤ 5) {A R0 : List (List Rat)} (S : Sys n w 2200 A R0) (zA : ∀ r ∈ A, ∀ q ∈ r, Sz 310 q ∧ Dv 6 q) {y : Nat → Rat} (hy : ∀ j, j < n → sumN n (fun i => y i * ent A i j) = 0) (y0 : ∃ i, i < n ∧ y i ≠ 0) {Y : List Rat} (lY : Y.length = n) (zY : ∀ q ∈ Y, Sz 11351 q) (Yn : ∃ q ∈ Y, q ≠ 0) (hY : ∀ j, j < n → sumN n (fun i => Y.getD i 0 * ent A i j) = 0) (dep : f_dependency [matD A] = .ok (qT Y))
    {s0 s1 s3 s4 s5 s6 s7 s8 s9 s10 s11 s14 s15 s16 : Sl} : ∃ t11 t14 t15, dB [s0, s1, .fr (nI n), s3, s4, s5, s6, s7, s8, s9, s10, s11, .fr (matD A), .fr (matD R0), s14, s15, s16, .un] = .ok .nx [s0, s1, .fr (nI n), s3, s4, s5, s6, s7, s8, s9, s10, t11, .fr (matD A), .fr (matD R0), t14, t15, s16, .un] := by
  have so := solve_sing S (by decide) hy y0 dep
  have key := for_inv (γ := γN 15) (g := colB) (all := Iv.upTo 0 n) (env := [s0, s1, .fr (nI n), s3, s4, s5, s6, s7, s8, s9, s10, .fr (.tup [.str "dependency", qT Y]), .fr (matD A), .fr (matD R0), s14, s15, s16, .un])
    (fun i env => ∃ t14 t15, env = [s0, s1, .fr (nI n), s3, s4, s5, s6, s7, s8, s9, s10, .fr (.tup [.str "dependency", qT Y]), .fr (matD A), .fr (matD R0), t14, t15, s16, .un]) ⟨s14, s15, rfl⟩ (by
      rintro i x env hx ⟨t14, t15, rfl⟩
      have hi : i < n := by
        have := (List.getElem?_eq_some_iff.mp hx).1
        rwa [upTo_len] at this
      rw [upN, List.getElem?_map, List.getElem?_range hi] at hx
      cases hx
      exact ⟨_, _, rfl, colB_eq n5 hi S.lA S.wA zA lY zY (hY i hi), _, _, rfl⟩)
  obtain ⟨env', k1, t14, t15, rfl⟩ := key
  have is : cIsi [.tup [.str "dependency", qT Y], .ty "tuple"] = some (.d (.bl true)) := rfl
  have l2 : cLen [.tup [.str "dependency", qT Y]] = some (.d (.int 2)) := rfl
  have i0 : oIx (.tup [.str "dependency", qT Y]) (.int 0) = some (.d (.str "dependency")) := rfl
  have i1 : oIx (.tup [.str "dependency", qT Y]) (.int 1) = some (.d (qT Y)) := rfl
  have sm : f_u_law_same [.str "dependency", .str "dependency"] = .ok (.bl true) := same_self (n := 8) True.intro
  have tb : f_u_law_is_table [.tup [qT Y], .int 1, nI n] = .ok (.bl true) := table_eq' (T := [Y]) (n := 1) (w := n) (by decide) (by omega) rfl fun r hr => by rw [List.mem_singleton.mp hr]; exact lY
  have it : itemsOf (qT Y) = some (Y.map enc) := rfl
  have l9 : (Y.map enc).length ≤ 90000 := by rw [List.length_map]; omega
  have cm := compL_map (enc := enc) (vs := [17]) (γ := γN 17) (cond := mYes) (elt := mD (mOp oNe (mD (mOp oIx (mPk 17) (mD (mC (.int 0))))) (mD (mC (.int 0))))) (env := [s0, s1, .fr (nI n), s3, s4, s5, s6, s7, s8, s9, s10, .fr (.tup [.str "dependency", qT Y]), .fr (matD A), .fr (matD R0), s14, s15, s16, .un]) (h := fun q : Rat => .bl (!(q.num == 0))) (xs := Y) (acc := []) (fun q _ => ⟨[s0, s1, .fr (nI n), s3, s4, s5, s6, s7, s8, s9, s10, .fr (.tup [.str "dependency", qT Y]), .fr (matD A), .fr (matD R0), s14, s15, s16, .fr (enc q)], _, [s0, s1, .fr (nI n), s3, s4, s5, s6, s7, s8, s9, s10, .fr (.tup [.str "dependency", qT Y]), .fr (matD A), .fr (matD R0), s14, s15, s16, .fr (enc q)], rfl, rfl, rfl, rfl⟩)
  rw [List.nil_append] at cm
  have ca := any_ne Yn
  have hsn : small (n : Int) = true := small_nat (by omega)
  refine ⟨.fr (.tup [.str "dependency", qT Y]), t14, t15, ?_⟩
  generalize (Y.map fun q => D.bl (!(q.num == 0))) = g1 at *
  generalize Y.map enc = g2 at *
  generalize hg : D.tup [.str "dependency", qT Y] = f1 at *
  clear hg
  generalize qT Y = f2 at *
  generalize matD A = f3 at *
  generalize matD R0 = f4 at *
  unfold nI at *
  simp [dB, so, is, l2, i0, i1, sm, tb, it, l9, cm, ca, hsn, k1]
end Law
namespace Law
open PySem PySem.Spec PyProof.Rows L2 Evl Iv
open Dt
theorem head_eq {ns : List Int} {B : Nat} (hB : B ≤ 100000000) (cs : ∀ k, k < 1000000 → (cellAt ns k).natAbs < 2 ^ B) : ∃ (n w : Nat) (xs : List Int), 1 ≤ n ∧ n ≤ 5 ∧ 1 ≤ w ∧ w ≤ 2 ∧ Dr 5 xs ∧ t0_law (stE 18 [.scr ns]) = t4_law [.fr (.scr ns), .fr (.lst (xs.map D.int)), .fr (nI n), .fr (nI w), .un, .un, .un, .un, .un, .un, .un, .un, .un, .un, .un, .un, .un, .un] := by
  have c0 : f_u_law_cell [.scr ns, .int 0] = _ := cell_eq (ns := ns) (k := 0) (by decide)
  obtain ⟨xs, hx, dw⟩ := draws_eq (n := 5) (cs 0 (by decide)) hB (by decide)
  have dw : f_u_law_draws [.int (cellAt ns 0), .int 5] = .ok (.lst (xs.map .int)) := dw
  have i0 : oIx (.lst (xs.map D.int)) (.int 0) = _ := ix_dn (k := 0) hx (by decide)
  have i1 : oIx (.lst (xs.map D.int)) (.int 1) = _ := ix_dn (k := 1) hx (by decide)
  have m3 : oMod (.int (gt xs 0)) (.int 3) = some (.d (.int ((gt xs 0).fmod 3))) := oMod_int (by decide)
  have d3 : oDiv (.int (gt xs 0)) (.int 3) = some (.d (.int ((gt xs 0).fdiv 3))) := oDiv_int (by decide)
  have m4 : oMod (.int ((gt xs 0).fdiv 3)) (.int 4) = some (.d (.int (((gt xs 0).fdiv 3).fmod 4))) := oMod_int (by decide)
  have d12 : oDiv (.int (gt xs 0)) (.int 12) = some (.d (.int ((gt xs 0).fdiv 12))) := oDiv_int (by decide)
  have m5 : oMod (.int ((gt xs 0).fdiv 12)) (.int 5) = some (.d (.int (((gt xs 0).fdiv 12).fmod 5))) := oMod_int (by decide)
  have m2 : oMod (.int (gt xs 1)) (.int 2) = some (.d (.int ((gt xs 1).fmod 2))) := oMod_int (by decide)
  have b3 := fmod_b (x := gt xs 0) (k := 3) (by decide)
  have b5 := fmod_b (x := (gt xs 0).fdiv 12) (k := 5) (by decide)
  have b2 := fmod_b (x := gt xs 1) (k := 2) (by decide)
  simp only [Int.cast_ofNat_Int] at b3 b5 b2
  obtain ⟨n3, h3⟩ := nat_of (i := 1 + (gt xs 0).fmod 3) (by omega)
  obtain ⟨n5, h5⟩ := nat_of (i := 1 + ((gt xs 0).fdiv 12).fmod 5) (by omega)
  obtain ⟨w, hw⟩ := nat_of (i := 1 + (gt xs 1).fmod 2) (by omega)
  have a3 : oAdd (.int 1) (.int ((gt xs 0).fmod 3)) = some (.d (nI n3)) := by show some (Sv.d (.int (1 + _))) = _; rw [h3]; rfl
  have a5 : oAdd (.int 1) (.int (((gt xs 0).fdiv 12).fmod 5)) = some (.d (nI n5)) := by show some (Sv.d (.int (1 + _))) = _; rw [h5]; rfl
  have aw : oAdd (.int 1) (.int ((gt xs 1).fmod 2)) = some (.d (nI w)) := by show some (Sv.d (.int (1 + _))) = _; rw [hw]; rfl
  by_cases h : ((gt xs 0).fdiv 3).fmod 4 = 1
  · refine ⟨n5, w, xs, by omega, by omega, by omega, by omega, hx, ?_⟩
    rw [h] at m4
    clear h3 h5 hw b3 b5 b2
    generalize (gt xs 0).fmod 3 = e3 at *
    generalize ((gt xs 0).fdiv 12).fmod 5 = e5 at *
    generalize (gt xs 0).fdiv 12 = e12 at *
    generalize (gt xs 0).fdiv 3 = f3 at *
    generalize (gt xs 1).fmod 2 = e2 at *
    generalize gt xs 0 = g0 at *
    generalize gt xs 1 = g1 at *
    generalize xs.map D.int = xl at *
    generalize nI n3 = v3 at *
    generalize nI n5 = v5 at *
    generalize nI w = vw at *
    generalize hr : t4_law = r4 at *
    simp [-oAdd_int, t0_law, t1_law, t2_law, t3_law, hr, c0, dw, i0, i1, m3, d3, m4, d12, m5, m2, a3, a5, aw]
  · refine ⟨n3, w, xs, by omega, by omega, by omega, by omega, hx, ?_⟩
    clear h3 h5 hw b3 b5 b2
    generalize (gt xs 0).fmod 3 = e3 at *
    generalize ((gt xs 0).fdiv 12).fmod 5 = e5 at *
    generalize (gt xs 0).fdiv 12 = e12 at *
    generalize ((gt xs 0).fdiv 3).fmod 4 = f4 at *
    generalize (gt xs 0).fdiv 3 = f3 at *
    generalize (gt xs 1).fmod 2 = e2 at *
    generalize gt xs 0 = g0 at *
    generalize gt xs 1 = g1 at *
    generalize xs.map D.int = xl at *
    generalize nI n3 = v3 at *
    generalize nI n5 = v5 at *
    generalize nI w = vw at *
    generalize hr : t4_law = r4 at *
    simp [-oAdd_int, t0_law, t1_law, t2_law, t3_law, hr, c0, dw, i0, i1, m3, d3, m4, h, m2, a3, aw]
theorem law_go {ns : List Int} {B : Nat} (hB : B ≤ 100000000) (cs : ∀ k, k < 1000000 → (cellAt ns k).natAbs < 2 ^ B) : f_law [.scr ns] = .ok (.bl true) := by
  obtain ⟨n, w, xs, n1, n5, w1, w2, hx, P⟩ := head_eq hB cs
  obtain ⟨L, U, lL, lU, pl, pu, fe⟩ := factors_eq hB cs n5
  obtain ⟨t, ht, m2⟩ := mod_n (x := gt xs 2) (n := n) (by omega)
  obtain ⟨a, ha, m4⟩ := mod_n (x := gt xs 4) (n := n) (by omega)
  have i2 : oIx (.lst (xs.map D.int)) (.int 2) = _ := ix_dn (k := 2) hx (by decide)
  have i4 : oIx (.lst (xs.map D.int)) (.int 4) = _ := ix_dn (k := 4) hx (by decide)
  have gL : ∀ r ∈ L, r.length = n ∧ ∀ q ∈ r, Sz 3 q ∧ Dv 1 q := fun r hr => by
    obtain ⟨i, hi, rfl⟩ := List.getElem_of_mem hr
    have := pl i (by omega)
    rw [List.getD_eq_getElem?_getD, List.getElem?_eq_getElem hi] at this
    exact ⟨this.len, this.sz⟩
  have gU : ∀ r ∈ U, r.length = n ∧ ∀ q ∈ r, Sz 4 q ∧ Dv 6 q := fun r hr => by
    obtain ⟨i, hi, rfl⟩ := List.getElem_of_mem hr
    have := pu i (by omega)
    rw [List.getD_eq_getElem?_getD, List.getElem?_eq_getElem hi] at this
    exact ⟨this.len, this.sz⟩
  have pe := product_eq LT.l LT.l LT.l LT.l (F := L) (G := U) (w := n) (n := n) (a := 3) (b := 4) (by omega) (fun r hr => (gL r hr).1) lU (fun r hr => (gU r hr).1) (by omega) (by omega) (fun r hr q hq => ((gL r hr).2 q hq).1) (fun r hr q hq => ((gU r hr).2 q hq).1) (by omega)
  have pm := mul_mem (w := n) (fun r hr => (gL r hr).1) lU (fun r hr => (gU r hr).1) (fun r hr => (gL r hr).2) (fun r hr => (gU r hr).2)
  have rg := reg_LU (t := t) lL lU pl pu
  have lP : (mulM L U n).length = n := by rw [mul_len, lL]
  generalize hPm : mulM L U n = Pm at *
  obtain ⟨A, hA⟩ : ∃ A, A = Pm.drop t ++ Pm.take t := ⟨_, rfl⟩
  rw [← hA] at rg
  have lA : A.length = n := by rw [hA, List.length_append, List.length_drop, List.length_take]; omega
  have gA : ∀ r ∈ A, r.length = n ∧ ∀ q ∈ r, Sz 50 q ∧ Dv 6 q := fun r hr => by
    have : r ∈ Pm := by
      rw [hA] at hr
      rcases List.mem_append.mp hr with h | h
      · exact List.mem_of_mem_drop h
      · exact List.mem_of_mem_take h
    have h := pm r this
    exact ⟨h.1, fun q hq => ⟨(h.2 q hq).1.mono (by omega), (h.2 q hq).2⟩⟩
  have s1 : oSl (.lst (Pm.map qT)) (some (t : Int)) none = some (.l ((Pm.drop t).map qT)) := by
    show some (Sv.l (cutL _ (some (t : Int)) none)) = _
    rw [cut_from, List.map_drop]
  have s2 : oSl (.lst (Pm.map qT)) none (some (t : Int)) = some (.l ((Pm.take t).map qT)) := by
    show some (Sv.l (cutL _ none (some (t : Int)))) = _
    rw [cut_to, List.map_take]
  have s3 : oAdd (.lst ((Pm.drop t).map qT)) (.lst ((Pm.take t).map qT)) = some (.l (A.map qT)) := by
    show (if _ then _ else _) = _
    rw [if_pos (by rw [List.length_map, List.length_map, List.length_drop, List.length_take]; omega), hA, List.map_append]
  have c7 : f_u_law_cell [.scr ns, .int 7] = _ := cell_eq (ns := ns) (k := 7) (by decide)
  have nw : n * w ≤ 10 := Nat.mul_le_mul n5 w2
  obtain ⟨ys, hy, dy⟩ := draws_eq (n := n * w + n) (cs 7 (by decide)) hB (by omega)
  have dy : f_u_law_draws [.int (cellAt ns 7), nI (n * w + n)] = .ok (.lst (ys.map .int)) := dy
  have mu := mul_nI (n := n) (m := w) (by omega) (by omega)
  have ad := add_nI (n := n * w) (m := n)
  have P1 : t4_law [.fr (.scr ns), .fr (.lst (xs.map D.int)), .fr (nI n), .fr (nI w), .un, .un, .un, .un, .un, .un, .un, .un, .un, .un, .un, .un, .un, .un] = t10_law [.fr (.scr ns), .fr (.lst (xs.map D.int)), .fr (nI n), .fr (nI w), .fr (.tup [rowsD' D.lst D.lst L, rowsD' D.lst D.lst U]), .ow (A.map qT), .fr (nI t), .fr (.lst (ys.map D.int)), .ow [], .un, .un, .un, .un, .un, .un, .un, .un, .un] := by
    have u0 : ∀ p q : D, oIx (.tup [p, q]) (.int 0) = some (.d p) := fun _ _ => rfl
    have u1 : ∀ p q : D, oIx (.tup [p, q]) (.int 1) = some (.d q) := fun _ _ => rfl
    have u0 := u0 (rowsD' D.lst D.lst L) (rowsD' D.lst D.lst U)
    have u1 := u1 (rowsD' D.lst D.lst L) (rowsD' D.lst D.lst U)
    generalize hft : D.tup [rowsD' D.lst D.lst L, rowsD' D.lst D.lst U] = ft at *
    clear hft
    generalize rowsD' D.lst D.lst L = l1 at *
    generalize rowsD' D.lst D.lst U = l2 at *
    generalize (Pm.drop t).map qT = l3 at *
    generalize (Pm.take t).map qT = l4 at *
    generalize Pm.map qT = l5 at *
    generalize A.map qT = l6 at *
    generalize gt xs 2 = g2 at *
    generalize xs.map D.int = l7 at *
    generalize ys.map D.int = l8 at *
    generalize nI (n * w + n) = v1 at *
    generalize nI (n * w) = v2 at *
    generalize hr : t10_law = r10 at *
    unfold nI at *
    simp [t4_law, t5_law, t6_law, t7_law, t8_law, t9_law, hr, fe, u0, u1, pe, i2, m2, s1, s2, s3, c7, mu, ad, dy]
  -- the table
  have K := for_inv (γ := γN 9) (g := tB) (all := Iv.upTo 0 n) (env := [.fr (.scr ns), .fr (.lst (xs.map D.int)), .fr (nI n), .fr (nI w), .fr (.tup [rowsD' D.lst D.lst L, rowsD' D.lst D.lst U]), .ow (A.map qT), .fr (nI t), .fr (.lst (ys.map D.int)), .ow [], .un, .un, .un, .un, .un, .un, .un, .un, .un])
    (fun i env => ∃ (T : List (List Rat)) (t9 t14 : Sl), i ≤ n ∧ T.length = i ∧ (∀ r ∈ T, r.length = w ∧ ∀ q ∈ r, Sz 110 q ∧ Dv 12 q) ∧ env = [.fr (.scr ns), .fr (.lst (xs.map D.int)), .fr (nI n), .fr (nI w), .fr (.tup [rowsD' D.lst D.lst L, rowsD' D.lst D.lst U]), .ow (A.map qT), .fr (nI t), .fr (.lst (ys.map D.int)), .ow (T.map qT), t9, .un, .un, .un, .un, t14, .un, .un, .un]) ⟨[], .un, .un, Nat.zero_le _, rfl, fun r h => absurd h List.not_mem_nil, rfl⟩ (by
      rintro i x env hxi ⟨T, t9, t14, hin, lT, gT, rfl⟩
      have hi : i < n := by
        have := (List.getElem?_eq_some_iff.mp hxi).1
        rwa [upTo_len] at this
      rw [upN, List.getElem?_map, List.getElem?_range hi] at hxi
      cases hxi
      obtain ⟨r, u14, lr, zr, e⟩ := tB_eq n5 w1 w2 hi hx hy (TT := T.map qT) (by rw [List.length_map]; omega) (s0 := .fr (.scr ns)) (s2 := .fr (nI n)) (s4 := .fr (.tup [rowsD' D.lst D.lst L, rowsD' D.lst D.lst U])) (s5 := .ow (A.map qT)) (s6 := .fr (nI t)) (s10 := .un) (s11 := .un) (s12 := .un) (s13 := .un) (s14 := t14) (s15 := .un) (s17 := .un)
      have eT : T.map qT ++ [qT r] = (T ++ [r]).map qT := by rw [List.map_append]; rfl
      rw [eT] at e
      exact ⟨_, _, rfl, e, T ++ [r], _, u14, hi, by rw [List.length_append, lT]; rfl, fun r' hr' => (List.mem_append.mp hr').elim (gT r') fun h => by rw [List.mem_singleton.mp h]; exact ⟨lr, zr⟩, rfl⟩)
  obtain ⟨env10, k10, T, t9, t14, _, lT, gT, rfl⟩ := K
  rw [upTo_len] at lT
  -- the systems
  have so := solve_mul n5 w2 lA (fun r hr => (gA r hr).1) (fun r hr => (gA r hr).2) lT gT rg
  have wT : ∀ r ∈ T, r.length = w := fun r hr => (gT r hr).1
  have tb := table_eq' (T := T) (n := n) (w := w) (by omega) (by omega) lT wT
  have sm := same_mat (T := T) (n := n) (w := w) (by omega) (by omega) lT wT
  have dr : ∀ i, i < n → oIx (.lst ((ys.map D.int).drop (n * w))) (nI i) = some (.d (.int (gt ys (n * w + i)))) := fun i hi => by
    show (atI _ (i : Int)).map Sv.d = _
    rw [atI_nat', List.getElem?_drop]
    have := ix_dn hy (k := n * w + i) (by omega)
    have e : (atI (ys.map D.int) ((n * w + i : Nat) : Int)).map Sv.d = some (.d (.int (gt ys (n * w + i)))) := this
    rw [atI_nat'] at e
    exact e
  obtain ⟨m, y, lm, zm, hyy, ya, re⟩ := replaced_eq n5 ha lA (fun r hr => (gA r hr).1) (fun r hr => (gA r hr).2) dr
  obtain ⟨A', hA'⟩ : ∃ A', A' = repM n a A m := ⟨_, rfl⟩
  rw [← hA'] at hyy re
  have lA' : A'.length = n := by rw [hA']; exact rep_len lA ha
  have gA' : ∀ r ∈ A', r.length = n ∧ ∀ q ∈ r, Sz 310 q ∧ Dv 6 q := fun r hr => by
    rw [hA'] at hr
    rcases rep_mem hr with rfl | h
    · exact ⟨lm, zm⟩
    · exact ⟨(gA r h).1, fun q hq => ⟨((gA r h).2 q hq).1.mono (by decide), ((gA r h).2 q hq).2⟩⟩
  have colm : ∀ j, j < n → ∀ q ∈ A'.map fun r => r.getD j 0, Sz 2200 q ∧ Dv 6 q := fun j hj q hq => by
    obtain ⟨r, hr, rfl⟩ := List.mem_map.mp hq
    have h := gA' r hr
    rw [List.getD_eq_getElem?_getD, List.getElem?_eq_getElem (by rw [h.1]; exact hj)]
    have := h.2 _ (List.getElem_mem (by rw [h.1]; exact hj))
    exact ⟨this.1.mono (by decide), this.2⟩
  obtain ⟨Y, lY, zY, Yn, hY, dep⟩ := dependency_eq (b := 2200) lA' (fun r hr => (gA' r hr).1) (by omega) (fun j hj q hq => (colm j hj q hq).1) (fun j hj => lcmQ_lt (N := 6) (fun q hq => (colm j hj q hq).2) (by decide) (by decide)) (by omega) (by decide) hyy ⟨a, ha, ya⟩
  have zY : ∀ q ∈ Y, Sz 11351 q := fun q hq => (zY q hq).mono (by omega)
  have m1 := mul_mem (w := w) (fun r hr => (gA r hr).1) lT wT (fun r hr => (gA r hr).2) (fun r hr => (gT r hr).2)
  have m2' := mul_mem (w := w) (fun r hr => (gA' r hr).1) lT wT (fun r hr => (gA' r hr).2) (fun r hr => (gT r hr).2)
  have S1 : Sys n w 2200 A' (mulM A T w) := sys_mul (T := T) n5 w2 lA' (fun r hr => (gA' r hr).1) (fun r hr => (gA' r hr).2) (by rw [mul_len, lA]) fun r hr => ⟨(m1 r hr).1, fun q hq => ⟨((m1 r hr).2 q hq).1.mono (by omega), ((m1 r hr).2 q hq).2⟩⟩
  have S2 : Sys n w 2200 A' (mulM A' T w) := sys_mul (T := T) n5 w2 lA' (fun r hr => (gA' r hr).1) (fun r hr => (gA' r hr).2) (by rw [mul_len, lA']) fun r hr => ⟨(m2' r hr).1, fun q hq => ⟨((m2' r hr).2 q hq).1.mono (by omega), ((m2' r hr).2 q hq).2⟩⟩
  have pr1 : f_u_law_product [.lst (A.map qT), .lst (T.map qT), nI w] = .ok (.lst ((mulM A T w).map qT)) := product_eq LT.l LT.t LT.l LT.t (F := A) (G := T) (w := w) (n := n) (a := 50) (b := 110) (by omega) (fun r hr => (gA r hr).1) lT wT (by omega) (by omega) (fun r hr q hq => ((gA r hr).2 q hq).1) (fun r hr q hq => ((gT r hr).2 q hq).1) (by omega)
  have pr2 : f_u_law_product [matD A', .lst (T.map qT), nI w] = .ok (.lst ((mulM A' T w).map qT)) := product_eq LT.t LT.t LT.l LT.t (F := A') (G := T) (w := w) (n := n) (a := 310) (b := 110) (by omega) (fun r hr => (gA' r hr).1) lT wT (by omega) (by omega) (fun r hr q hq => ((gA' r hr).2 q hq).1) (fun r hr q hq => ((gT r hr).2 q hq).1) (by omega)
  have sl : oSl (.lst (ys.map D.int)) (some ((n * w : Nat) : Int)) none = some (.l ((ys.map D.int).drop (n * w))) := by
    show some (Sv.l (cutL _ (some ((n * w : Nat) : Int)) none)) = _
    rw [cut_from]
  have tm1 : ∀ M : List (List Rat), cTuple [.lst (M.map qT)] = some (.d (matD M)) := fun M => rfl
  have ta := tm1 A
  have tt := tm1 T
  have tr := tm1 (mulM A T w)
  have tr2 := tm1 (mulM A' T w)
  have is : cIsi [.tup [.str "solution", matD T], .ty "tuple"] = some (.d (.bl true)) := rfl
  have l2 : cLen [.tup [.str "solution", matD T]] = some (.d (.int 2)) := rfl
  have j0 : oIx (.tup [.str "solution", matD T]) (.int 0) = some (.d (.str "solution")) := rfl
  have j1 : oIx (.tup [.str "solution", matD T]) (.int 1) = some (.d (matD T)) := rfl
  have ss : f_u_law_same [.str "solution", .str "solution"] = .ok (.bl true) := same_self (n := 8) True.intro
  have hsn : small (n : Int) = true := small_nat (by omega)
  have P2 : t10_law [.fr (.scr ns), .fr (.lst (xs.map D.int)), .fr (nI n), .fr (nI w), .fr (.tup [rowsD' D.lst D.lst L, rowsD' D.lst D.lst U]), .ow (A.map qT), .fr (nI t), .fr (.lst (ys.map D.int)), .ow [], .un, .un, .un, .un, .un, .un, .un, .un, .un] = t16_law [.fr (.scr ns), .fr (.lst (xs.map D.int)), .fr (nI n), .fr (nI w), .fr (.tup [rowsD' D.lst D.lst L, rowsD' D.lst D.lst U]), .fr (.lst (A.map qT)), .fr (nI t), .fr (.lst (ys.map D.int)), .fr (.lst (T.map qT)), t9, .fr (matD (mulM A T w)), .fr (.tup [.str "solution", matD T]), .fr (matD A'), .un, t14, .un, .un, .un] := by
    unfold tB tA tC at k10
    have nk : nI (n * w) = .int ((n * w : Nat) : Int) := rfl
    rw [nk] at mu
    generalize hft : D.tup [rowsD' D.lst D.lst L, rowsD' D.lst D.lst U] = ft at *
    generalize hsl : D.tup [.str "solution", matD T] = st at *
    clear hft hsl P1 dr
    generalize (ys.map D.int).drop (n * w) = l9 at *
    generalize ((n * w : Nat) : Int) = v2 at *
    generalize matD (mulM A T w) = b1 at *
    generalize (mulM A T w).map qT = b2 at *
    generalize matD A = b3 at *
    generalize matD A' = b4 at *
    generalize matD T = b5 at *
    generalize A.map qT = b6 at *
    generalize T.map qT = b7 at *
    generalize xs.map D.int = l7 at *
    generalize ys.map D.int = l8 at *
    generalize gt xs 4 = g4 at *
    generalize hr : t16_law = r16 at *
    generalize nI a = v5 at *
    generalize nI t = v6 at *
    generalize nI w = v7 at *
    unfold nI at *
    simp [t10_law, t11_law, t12_law, t13_law, t14_law, t15_law, hr, hsn, k10, pr1, tr, ta, so, is, l2, j0, j1, ss, tb, tt, sm, i4, m4, mu, sl, re]
  obtain ⟨u11, u14, u15, d1⟩ := dB_eq n5 S1 (fun r hr => (gA' r hr).2) hyy ⟨a, ha, ya⟩ lY zY Yn hY dep (s0 := .fr (.scr ns)) (s1 := .fr (.lst (xs.map D.int))) (s3 := .fr (nI w)) (s4 := .fr (.tup [rowsD' D.lst D.lst L, rowsD' D.lst D.lst U])) (s5 := .fr (.lst (A.map qT))) (s6 := .fr (nI t)) (s7 := .fr (.lst (ys.map D.int))) (s8 := .fr (.lst (T.map qT))) (s9 := t9) (s10 := .fr (matD (mulM A T w))) (s11 := .fr (.tup [.str "solution", matD T])) (s14 := t14) (s15 := .un) (s16 := .un)
  obtain ⟨v11, v14, v15, d2⟩ := dB_eq n5 S2 (fun r hr => (gA' r hr).2) hyy ⟨a, ha, ya⟩ lY zY Yn hY dep (s0 := .fr (.scr ns)) (s1 := .fr (.lst (xs.map D.int))) (s3 := .fr (nI w)) (s4 := .fr (.tup [rowsD' D.lst D.lst L, rowsD' D.lst D.lst U])) (s5 := .fr (.lst (A.map qT))) (s6 := .fr (nI t)) (s7 := .fr (.lst (ys.map D.int))) (s8 := .fr (.lst (T.map qT))) (s9 := t9) (s10 := .fr (matD (mulM A T w))) (s11 := u11) (s14 := u14) (s15 := u15) (s16 := .un)
  have P3 : t16_law [.fr (.scr ns), .fr (.lst (xs.map D.int)), .fr (nI n), .fr (nI w), .fr (.tup [rowsD' D.lst D.lst L, rowsD' D.lst D.lst U]), .fr (.lst (A.map qT)), .fr (nI t), .fr (.lst (ys.map D.int)), .fr (.lst (T.map qT)), t9, .fr (matD (mulM A T w)), .fr (.tup [.str "solution", matD T]), .fr (matD A'), .un, t14, .un, .un, .un] = .ok (.rt (.bl true)) [.fr (.scr ns), .fr (.lst (xs.map D.int)), .fr (nI n), .fr (nI w), .fr (.tup [rowsD' D.lst D.lst L, rowsD' D.lst D.lst U]), .fr (.lst (A.map qT)), .fr (nI t), .fr (.lst (ys.map D.int)), .fr (.lst (T.map qT)), t9, .fr (matD (mulM A T w)), v11, .fr (matD A'), .fr (matD (mulM A' T w)), v14, v15, .un, .un] := by
    have itl : ∀ p q : D, itemsOf (.lst [p, q]) = some [p, q] := fun _ _ => rfl
    have itl := itl (matD (mulM A T w)) (matD (mulM A' T w))
    have ed : t16_law = mSeq (mFor (γN 13) (mIt (mD (mLst (mCons (mD (mVar 10)) (mCons (mD (mCl cTuple (mCons (mD (mCall 3 f_u_law_product (mCons (mD (mVar 12)) (mCons (mD (mVar 8)) (mCons (mD (mVar 3)) (mNil)))))) (mNil)))) (mNil)))))) dB) t17_law := rfl
    rw [ed]
    generalize hft : D.tup [rowsD' D.lst D.lst L, rowsD' D.lst D.lst U] = ft at *
    generalize hsl : D.tup [.str "solution", matD T] = st at *
    generalize matD (mulM A T w) = b1 at *
    generalize matD (mulM A' T w) = b8 at *
    generalize (mulM A' T w).map qT = b9 at *
    generalize matD A' = b4 at *
    generalize A.map qT = b6 at *
    generalize T.map qT = b7 at *
    generalize xs.map D.int = l7 at *
    generalize ys.map D.int = l8 at *
    generalize nI t = v6 at *
    generalize nI w = v7 at *
    generalize nI n = v8 at *
    generalize dB = db at *
    simp [pr2, tr2, itl, d1, d2, t17_law]
  unfold f_law
  rw [runF_eq, P, P1, P2, P3]
theorem law_true (ns : List Int) (h : ns.length ≤ 63) (hb : ∀ i ∈ ns, Builtin.Int.intBits i ≤ 1048576) : f_law [.scr ns] = .ok (.bl true) := by
  obtain ⟨B, hB⟩ : ∃ B, B = 1048576 := ⟨_, rfl⟩
  rw [← hB] at hb
  exact law_go (B := B) (by omega) fun k hk => cell_sz hb (by omega) hk
end Law

set_option Elab.async false
set_option linter.all false
set_option maxRecDepth 100000
set_option maxHeartbeats 4000000
namespace Law
open PySem PySem.Spec PyProof.Rows L2 Evl Iv
theorem r_u_law_same {w : World} {K : PySem.W.Frag} {mg : Str → Option Value} {base : Heap} {S : Xs} (B : Bl mg) (df : Df K mg "_law_same" s_u_law_same ["actual", "due"]) : ∀ n, Cl PySem.Challenge.pw_anycompany_k08_solve_built_systems w K mg base S (40 + n) "_law_same" 2 (sameF n)
  | 0 => cl_bad df
  | n + 1 => d_u_law_same B df (Nat.le_add_right _ _) (r_u_law_same B df n)
theorem all_mk {w : World} {K : PySem.W.Frag} {h : Heap} {mg : Str → Option Value} {S : Xs} {fa f0 f1 f2 f3 f4 f5 f6 f7 f8 f9 f10 f11 f12 f13 f14 f15 f16 f17 f18 f19 f20 f21 f22 f23 f24 : Addr} (X : K.In h) (G : h.Ns mainGlobals mg) (hfa : mg "law" = some (.ref fa))
    {od0 an0 od1 an1 od2 an2 od3 an3 od4 an4 od5 an5 od6 an6 od7 an7 od8 an8 od9 an9 od10 an10 od11 an11 od12 an12 od13 an13 od14 an14 od15 an15 od16 an16 od17 an17 od18 an18 od19 an19 od20 an20 od21 an21 od22 an22 od23 an23 od24 an24 : Option Addr} {sl0 sl1 sl2 sl3 sl4 sl5 sl6 sl7 sl8 sl9 sl10 sl11 sl12 sl13 sl14 sl15 sl16 sl17 sl18 sl19 sl20 sl21 sl22 sl23 sl24 : Array (Option Value)} {oc0 kV0 dc0 pm0 cd0 ct0 oc1 kV1 dc1 pm1 cd1 ct1 oc2 kV2 dc2 pm2 cd2 ct2 oc3 kV3 dc3 pm3 cd3 ct3 oc4 kV4 dc4 pm4 cd4 ct4 oc5 kV5 dc5 pm5 cd5 ct5 oc6 kV6 dc6 pm6 cd6 ct6 oc7 kV7 dc7 pm7 cd7 ct7 oc8 kV8 dc8 pm8 cd8 ct8 oc9 kV9 dc9 pm9 cd9 ct9 oc10 kV10 dc10 pm10 cd10 ct10 oc11 kV11 dc11 pm11 cd11 ct11 oc12 kV12 dc12 pm12 cd12 ct12 oc13 kV13 dc13 pm13 cd13 ct13 oc14 kV14 dc14 pm14 cd14 ct14 oc15 kV15 dc15 pm15 cd15 ct15 oc16 kV16 dc16 pm16 cd16 ct16 oc17 kV17 dc17 pm17 cd17 ct17 oc18 kV18 dc18 pm18 cd18 ct18 oc19 kV19 dc19 pm19 cd19 ct19 oc20 kV20 dc20 pm20 cd20 ct20 oc21 kV21 dc21 pm21 cd21 ct21 oc22 kV22 dc22 pm22 cd22 ct22 oc23 kV23 dc23 pm23 cd23 ct23 oc24 kV24 dc24 pm24 cd24 ct24 : Value}
    (a0 : PySem.W.nsIn K mainGlobals "_law_cell" = some (some (.ref f0))) (l0 : K.lookup f0 = some ⟨oc0, od0, .func (PySem.W.fnOf "_law_cell" "_law_cell" (defArgs s_u_law_cell) (defBody s_u_law_cell) (defScope s_u_law_cell) .none kV0 dc0 pm0 an0 cd0 ct0), sl0⟩) (c0 : PySem.W.codeIn K cd0 "_law_cell" = true) (k0 : PySem.W.keepIn K (.ref f0) = true)
    (a1 : PySem.W.nsIn K mainGlobals "_law_draws" = some (some (.ref f1))) (l1 : K.lookup f1 = some ⟨oc1, od1, .func (PySem.W.fnOf "_law_draws" "_law_draws" (defArgs s_u_law_draws) (defBody s_u_law_draws) (defScope s_u_law_draws) .none kV1 dc1 pm1 an1 cd1 ct1), sl1⟩) (c1 : PySem.W.codeIn K cd1 "_law_draws" = true) (k1 : PySem.W.keepIn K (.ref f1) = true)
    (a2 : PySem.W.nsIn K mainGlobals "_law_gcd" = some (some (.ref f2))) (l2 : K.lookup f2 = some ⟨oc2, od2, .func (PySem.W.fnOf "_law_gcd" "_law_gcd" (defArgs s_u_law_gcd) (defBody s_u_law_gcd) (defScope s_u_law_gcd) .none kV2 dc2 pm2 an2 cd2 ct2), sl2⟩) (c2 : PySem.W.codeIn K cd2 "_law_gcd" = true) (k2 : PySem.W.keepIn K (.ref f2) = true)
    (a3 : PySem.W.nsIn K mainGlobals "_law_low" = some (some (.ref f3))) (l3 : K.lookup f3 = some ⟨oc3, od3, .func (PySem.W.fnOf "_law_low" "_law_low" (defArgs s_u_law_low) (defBody s_u_law_low) (defScope s_u_law_low) .none kV3 dc3 pm3 an3 cd3 ct3), sl3⟩) (c3 : PySem.W.codeIn K cd3 "_law_low" = true) (k3 : PySem.W.keepIn K (.ref f3) = true)
    (a4 : PySem.W.nsIn K mainGlobals "_law_factors" = some (some (.ref f4))) (l4 : K.lookup f4 = some ⟨oc4, od4, .func (PySem.W.fnOf "_law_factors" "_law_factors" (defArgs s_u_law_factors) (defBody s_u_law_factors) (defScope s_u_law_factors) .none kV4 dc4 pm4 an4 cd4 ct4), sl4⟩) (c4 : PySem.W.codeIn K cd4 "_law_factors" = true) (k4 : PySem.W.keepIn K (.ref f4) = true)
    (a5 : PySem.W.nsIn K mainGlobals "_law_multiply" = some (some (.ref f5))) (l5 : K.lookup f5 = some ⟨oc5, od5, .func (PySem.W.fnOf "_law_multiply" "_law_multiply" (defArgs s_u_law_multiply) (defBody s_u_law_multiply) (defScope s_u_law_multiply) .none kV5 dc5 pm5 an5 cd5 ct5), sl5⟩) (c5 : PySem.W.codeIn K cd5 "_law_multiply" = true) (k5 : PySem.W.keepIn K (.ref f5) = true)
    (a6 : PySem.W.nsIn K mainGlobals "_law_add" = some (some (.ref f6))) (l6 : K.lookup f6 = some ⟨oc6, od6, .func (PySem.W.fnOf "_law_add" "_law_add" (defArgs s_u_law_add) (defBody s_u_law_add) (defScope s_u_law_add) .none kV6 dc6 pm6 an6 cd6 ct6), sl6⟩) (c6 : PySem.W.codeIn K cd6 "_law_add" = true) (k6 : PySem.W.keepIn K (.ref f6) = true)
    (a7 : PySem.W.nsIn K mainGlobals "_law_times" = some (some (.ref f7))) (l7 : K.lookup f7 = some ⟨oc7, od7, .func (PySem.W.fnOf "_law_times" "_law_times" (defArgs s_u_law_times) (defBody s_u_law_times) (defScope s_u_law_times) .none kV7 dc7 pm7 an7 cd7 ct7), sl7⟩) (c7 : PySem.W.codeIn K cd7 "_law_times" = true) (k7 : PySem.W.keepIn K (.ref f7) = true)
    (a8 : PySem.W.nsIn K mainGlobals "_law_product" = some (some (.ref f8))) (l8 : K.lookup f8 = some ⟨oc8, od8, .func (PySem.W.fnOf "_law_product" "_law_product" (defArgs s_u_law_product) (defBody s_u_law_product) (defScope s_u_law_product) .none kV8 dc8 pm8 an8 cd8 ct8), sl8⟩) (c8 : PySem.W.codeIn K cd8 "_law_product" = true) (k8 : PySem.W.keepIn K (.ref f8) = true)
    (a9 : PySem.W.nsIn K mainGlobals "whole_row" = some (some (.ref f9))) (l9 : K.lookup f9 = some ⟨oc9, od9, .func (PySem.W.fnOf "whole_row" "whole_row" (defArgs s_whole_row) (defBody s_whole_row) (defScope s_whole_row) .none kV9 dc9 pm9 an9 cd9 ct9), sl9⟩) (c9 : PySem.W.codeIn K cd9 "whole_row" = true) (k9 : PySem.W.keepIn K (.ref f9) = true)
    (a10 : PySem.W.nsIn K mainGlobals "pivot_position" = some (some (.ref f10))) (l10 : K.lookup f10 = some ⟨oc10, od10, .func (PySem.W.fnOf "pivot_position" "pivot_position" (defArgs s_pivot_position) (defBody s_pivot_position) (defScope s_pivot_position) .none kV10 dc10 pm10 an10 cd10 ct10), sl10⟩) (c10 : PySem.W.codeIn K cd10 "pivot_position" = true) (k10 : PySem.W.keepIn K (.ref f10) = true)
    (a11 : PySem.W.nsIn K mainGlobals "brought_up" = some (some (.ref f11))) (l11 : K.lookup f11 = some ⟨oc11, od11, .func (PySem.W.fnOf "brought_up" "brought_up" (defArgs s_brought_up) (defBody s_brought_up) (defScope s_brought_up) .none kV11 dc11 pm11 an11 cd11 ct11), sl11⟩) (c11 : PySem.W.codeIn K cd11 "brought_up" = true) (k11 : PySem.W.keepIn K (.ref f11) = true)
    (a12 : PySem.W.nsIn K mainGlobals "combined" = some (some (.ref f12))) (l12 : K.lookup f12 = some ⟨oc12, od12, .func (PySem.W.fnOf "combined" "combined" (defArgs s_combined) (defBody s_combined) (defScope s_combined) .none kV12 dc12 pm12 an12 cd12 ct12), sl12⟩) (c12 : PySem.W.codeIn K cd12 "combined" = true) (k12 : PySem.W.keepIn K (.ref f12) = true)
    (a13 : PySem.W.nsIn K mainGlobals "without_first_column" = some (some (.ref f13))) (l13 : K.lookup f13 = some ⟨oc13, od13, .func (PySem.W.fnOf "without_first_column" "without_first_column" (defArgs s_without_first_column) (defBody s_without_first_column) (defScope s_without_first_column) .none kV13 dc13 pm13 an13 cd13 ct13), sl13⟩) (c13 : PySem.W.codeIn K cd13 "without_first_column" = true) (k13 : PySem.W.keepIn K (.ref f13) = true)
    (a14 : PySem.W.nsIn K mainGlobals "eliminated" = some (some (.ref f14))) (l14 : K.lookup f14 = some ⟨oc14, od14, .func (PySem.W.fnOf "eliminated" "eliminated" (defArgs s_eliminated) (defBody s_eliminated) (defScope s_eliminated) .none kV14 dc14 pm14 an14 cd14 ct14), sl14⟩) (c14 : PySem.W.codeIn K cd14 "eliminated" = true) (k14 : PySem.W.keepIn K (.ref f14) = true)
    (a15 : PySem.W.nsIn K mainGlobals "make_ratio" = some (some (.ref f15))) (l15 : K.lookup f15 = some ⟨oc15, od15, .func (PySem.W.fnOf "make_ratio" "make_ratio" (defArgs s_make_ratio) (defBody s_make_ratio) (defScope s_make_ratio) .none kV15 dc15 pm15 an15 cd15 ct15), sl15⟩) (c15 : PySem.W.codeIn K cd15 "make_ratio" = true) (k15 : PySem.W.keepIn K (.ref f15) = true)
    (a16 : PySem.W.nsIn K mainGlobals "ratio_row" = some (some (.ref f16))) (l16 : K.lookup f16 = some ⟨oc16, od16, .func (PySem.W.fnOf "ratio_row" "ratio_row" (defArgs s_ratio_row) (defBody s_ratio_row) (defScope s_ratio_row) .none kV16 dc16 pm16 an16 cd16 ct16), sl16⟩) (c16 : PySem.W.codeIn K cd16 "ratio_row" = true) (k16 : PySem.W.keepIn K (.ref f16) = true)
    (a17 : PySem.W.nsIn K mainGlobals "dependency" = some (some (.ref f17))) (l17 : K.lookup f17 = some ⟨oc17, od17, .func (PySem.W.fnOf "dependency" "dependency" (defArgs s_dependency) (defBody s_dependency) (defScope s_dependency) .none kV17 dc17 pm17 an17 cd17 ct17), sl17⟩) (c17 : PySem.W.codeIn K cd17 "dependency" = true) (k17 : PySem.W.keepIn K (.ref f17) = true)
    (a18 : PySem.W.nsIn K mainGlobals "solve" = some (some (.ref f18))) (l18 : K.lookup f18 = some ⟨oc18, od18, .func (PySem.W.fnOf "solve" "solve" (defArgs s_solve) (defBody s_solve) (defScope s_solve) .none kV18 dc18 pm18 an18 cd18 ct18), sl18⟩) (c18 : PySem.W.codeIn K cd18 "solve" = true) (k18 : PySem.W.keepIn K (.ref f18) = true)
    (a19 : PySem.W.nsIn K mainGlobals "_law_same" = some (some (.ref f19))) (l19 : K.lookup f19 = some ⟨oc19, od19, .func (PySem.W.fnOf "_law_same" "_law_same" (defArgs s_u_law_same) (defBody s_u_law_same) (defScope s_u_law_same) .none kV19 dc19 pm19 an19 cd19 ct19), sl19⟩) (c19 : PySem.W.codeIn K cd19 "_law_same" = true) (k19 : PySem.W.keepIn K (.ref f19) = true)
    (a20 : PySem.W.nsIn K mainGlobals "_law_is_integer" = some (some (.ref f20))) (l20 : K.lookup f20 = some ⟨oc20, od20, .func (PySem.W.fnOf "_law_is_integer" "_law_is_integer" (defArgs s_u_law_is_integer) (defBody s_u_law_is_integer) (defScope s_u_law_is_integer) .none kV20 dc20 pm20 an20 cd20 ct20), sl20⟩) (c20 : PySem.W.codeIn K cd20 "_law_is_integer" = true) (k20 : PySem.W.keepIn K (.ref f20) = true)
    (a21 : PySem.W.nsIn K mainGlobals "_law_is_ratio" = some (some (.ref f21))) (l21 : K.lookup f21 = some ⟨oc21, od21, .func (PySem.W.fnOf "_law_is_ratio" "_law_is_ratio" (defArgs s_u_law_is_ratio) (defBody s_u_law_is_ratio) (defScope s_u_law_is_ratio) .none kV21 dc21 pm21 an21 cd21 ct21), sl21⟩) (c21 : PySem.W.codeIn K cd21 "_law_is_ratio" = true) (k21 : PySem.W.keepIn K (.ref f21) = true)
    (a22 : PySem.W.nsIn K mainGlobals "_law_is_table" = some (some (.ref f22))) (l22 : K.lookup f22 = some ⟨oc22, od22, .func (PySem.W.fnOf "_law_is_table" "_law_is_table" (defArgs s_u_law_is_table) (defBody s_u_law_is_table) (defScope s_u_law_is_table) .none kV22 dc22 pm22 an22 cd22 ct22), sl22⟩) (c22 : PySem.W.codeIn K cd22 "_law_is_table" = true) (k22 : PySem.W.keepIn K (.ref f22) = true)
    (a23 : PySem.W.nsIn K mainGlobals "_law_replaced" = some (some (.ref f23))) (l23 : K.lookup f23 = some ⟨oc23, od23, .func (PySem.W.fnOf "_law_replaced" "_law_replaced" (defArgs s_u_law_replaced) (defBody s_u_law_replaced) (defScope s_u_law_replaced) .none kV23 dc23 pm23 an23 cd23 ct23), sl23⟩) (c23 : PySem.W.codeIn K cd23 "_law_replaced" = true) (k23 : PySem.W.keepIn K (.ref f23) = true)
    (a24 : PySem.W.nsIn K mainGlobals "law" = some (some (.ref f24))) (l24 : K.lookup f24 = some ⟨oc24, od24, .func (PySem.W.fnOf "law" "law" (defArgs s_law) (defBody s_law) (defScope s_law) .none kV24 dc24 pm24 an24 cd24 ct24), sl24⟩) (c24 : PySem.W.codeIn K cd24 "law" = true) (k24 : PySem.W.keepIn K (.ref f24) = true)
    (z_len : PySem.W.nsIn K mainGlobals "len" = some none) (z_abs : PySem.W.nsIn K mainGlobals "abs" = some none) (z_int : PySem.W.nsIn K mainGlobals "int" = some none) (z_isinstance : PySem.W.nsIn K mainGlobals "isinstance" = some none) (z_max : PySem.W.nsIn K mainGlobals "max" = some none) (z_min : PySem.W.nsIn K mainGlobals "min" = some none) (z_list : PySem.W.nsIn K mainGlobals "list" = some none) (z_tuple : PySem.W.nsIn K mainGlobals "tuple" = some none) (z_sum : PySem.W.nsIn K mainGlobals "sum" = some none) (z_any : PySem.W.nsIn K mainGlobals "any" = some none) (z_all : PySem.W.nsIn K mainGlobals "all" = some none) (z_range : PySem.W.nsIn K mainGlobals "range" = some none) (z_sorted : PySem.W.nsIn K mainGlobals "sorted" = some none) (z_bool : PySem.W.nsIn K mainGlobals "bool" = some none) (z_str : PySem.W.nsIn K mainGlobals "str" = some none) (z_dict : PySem.W.nsIn K mainGlobals "dict" = some none) (z_zip : PySem.W.nsIn K mainGlobals "zip" = some none)
    (zg : PySem.W.nsIn K mainGlobals "gcd" = some (some (.builtin "math.gcd")))
    (zl : PySem.W.nsIn K mainGlobals "lcm" = some (some (.builtin "math.lcm")))
    : ∃ fd : FuncData, (∀ (s : Shared) (u : Value), BindsTo s fd ⟨[u], []⟩ [("script", u)]) ∧ LawOk PySem.Challenge.pw_anycompany_k08_solve_built_systems w K mg S 49 fa fd "script" f_law := by
  have e := hfa.symm.trans (PySem.W.mg_of X G a24)
  cases e
  have B : Bl mg := ⟨PySem.W.mg_none_of X G z_len, PySem.W.mg_none_of X G z_abs, PySem.W.mg_none_of X G z_int, PySem.W.mg_none_of X G z_isinstance, PySem.W.mg_none_of X G z_max, PySem.W.mg_none_of X G z_min, PySem.W.mg_none_of X G z_list, PySem.W.mg_none_of X G z_tuple, PySem.W.mg_none_of X G z_sum, PySem.W.mg_none_of X G z_any, PySem.W.mg_none_of X G z_all, PySem.W.mg_none_of X G z_range, PySem.W.mg_none_of X G z_sorted, PySem.W.mg_none_of X G z_bool, PySem.W.mg_none_of X G z_str, PySem.W.mg_none_of X G z_dict, PySem.W.mg_none_of X G z_zip⟩
  have mgcd := PySem.W.mg_of X G zg
  have mlcm := PySem.W.mg_of X G zl
  have df_u_law_cell : Df K mg "_law_cell" s_u_law_cell ["script", "k"] := df_mk X G a0 l0 c0 k0 fun _ _ _ _ _ _ us hl => match us, hl with | [_, _], _ => rfl
  have df_u_law_draws : Df K mg "_law_draws" s_u_law_draws ["cell", "count"] := df_mk X G a1 l1 c1 k1 fun _ _ _ _ _ _ us hl => match us, hl with | [_, _], _ => rfl
  have df_u_law_gcd : Df K mg "_law_gcd" s_u_law_gcd ["a", "b"] := df_mk X G a2 l2 c2 k2 fun _ _ _ _ _ _ us hl => match us, hl with | [_, _], _ => rfl
  have df_u_law_low : Df K mg "_law_low" s_u_law_low ["n", "d"] := df_mk X G a3 l3 c3 k3 fun _ _ _ _ _ _ us hl => match us, hl with | [_, _], _ => rfl
  have df_u_law_factors : Df K mg "_law_factors" s_u_law_factors ["script", "size"] := df_mk X G a4 l4 c4 k4 fun _ _ _ _ _ _ us hl => match us, hl with | [_, _], _ => rfl
  have df_u_law_multiply : Df K mg "_law_multiply" s_u_law_multiply ["a", "b"] := df_mk X G a5 l5 c5 k5 fun _ _ _ _ _ _ us hl => match us, hl with | [_, _], _ => rfl
  have df_u_law_add : Df K mg "_law_add" s_u_law_add ["a", "b"] := df_mk X G a6 l6 c6 k6 fun _ _ _ _ _ _ us hl => match us, hl with | [_, _], _ => rfl
  have df_u_law_times : Df K mg "_law_times" s_u_law_times ["row", "column"] := df_mk X G a7 l7 c7 k7 fun _ _ _ _ _ _ us hl => match us, hl with | [_, _], _ => rfl
  have df_u_law_product : Df K mg "_law_product" s_u_law_product ["first", "second", "width"] := df_mk X G a8 l8 c8 k8 fun _ _ _ _ _ _ us hl => match us, hl with | [_, _, _], _ => rfl
  have df_whole_row : Df K mg "whole_row" s_whole_row ["row"] := df_mk X G a9 l9 c9 k9 fun _ _ _ _ _ _ us hl => match us, hl with | [_], _ => rfl
  have df_pivot_position : Df K mg "pivot_position" s_pivot_position ["rows", "start"] := df_mk X G a10 l10 c10 k10 fun _ _ _ _ _ _ us hl => match us, hl with | [_, _], _ => rfl
  have df_brought_up : Df K mg "brought_up" s_brought_up ["rows", "first", "second"] := df_mk X G a11 l11 c11 k11 fun _ _ _ _ _ _ us hl => match us, hl with | [_, _, _], _ => rfl
  have df_combined : Df K mg "combined" s_combined ["row", "head", "scale"] := df_mk X G a12 l12 c12 k12 fun _ _ _ _ _ _ us hl => match us, hl with | [_, _, _], _ => rfl
  have df_without_first_column : Df K mg "without_first_column" s_without_first_column ["rows", "at", "scale"] := df_mk X G a13 l13 c13 k13 fun _ _ _ _ _ _ us hl => match us, hl with | [_, _, _], _ => rfl
  have df_eliminated : Df K mg "eliminated" s_eliminated ["rows", "size"] := df_mk X G a14 l14 c14 k14 fun _ _ _ _ _ _ us hl => match us, hl with | [_, _], _ => rfl
  have df_make_ratio : Df K mg "make_ratio" s_make_ratio ["n", "d"] := df_mk X G a15 l15 c15 k15 fun _ _ _ _ _ _ us hl => match us, hl with | [_, _], _ => rfl
  have df_ratio_row : Df K mg "ratio_row" s_ratio_row ["wholes", "scale"] := df_mk X G a16 l16 c16 k16 fun _ _ _ _ _ _ us hl => match us, hl with | [_, _], _ => rfl
  have df_dependency : Df K mg "dependency" s_dependency ["matrix"] := df_mk X G a17 l17 c17 k17 fun _ _ _ _ _ _ us hl => match us, hl with | [_], _ => rfl
  have df_solve : Df K mg "solve" s_solve ["matrix", "right"] := df_mk X G a18 l18 c18 k18 fun _ _ _ _ _ _ us hl => match us, hl with | [_, _], _ => rfl
  have df_u_law_same : Df K mg "_law_same" s_u_law_same ["actual", "due"] := df_mk X G a19 l19 c19 k19 fun _ _ _ _ _ _ us hl => match us, hl with | [_, _], _ => rfl
  have df_u_law_is_integer : Df K mg "_law_is_integer" s_u_law_is_integer ["value"] := df_mk X G a20 l20 c20 k20 fun _ _ _ _ _ _ us hl => match us, hl with | [_], _ => rfl
  have df_u_law_is_ratio : Df K mg "_law_is_ratio" s_u_law_is_ratio ["value"] := df_mk X G a21 l21 c21 k21 fun _ _ _ _ _ _ us hl => match us, hl with | [_], _ => rfl
  have df_u_law_is_table : Df K mg "_law_is_table" s_u_law_is_table ["table", "height", "width"] := df_mk X G a22 l22 c22 k22 fun _ _ _ _ _ _ us hl => match us, hl with | [_, _, _], _ => rfl
  have df_u_law_replaced : Df K mg "_law_replaced" s_u_law_replaced ["rows", "at", "draws"] := df_mk X G a23 l23 c23 k23 fun _ _ _ _ _ _ us hl => match us, hl with | [_, _, _], _ => rfl
  refine ⟨PySem.W.fnOf "law" "law" (defArgs s_law) (defBody s_law) (defScope s_law) .none kV24 dc24 pm24 an24 cd24 ct24, fun s u => .of_eq rfl, fun base _ _ seer => ?_⟩
  have c_u_law_cell := d_u_law_cell (w := w) (K := K) (mg := mg) (base := base) (S := S) B df_u_law_cell
  have c_u_law_draws := d_u_law_draws (w := w) (K := K) (mg := mg) (base := base) (S := S) B seer df_u_law_draws
  have c_u_law_gcd := d_u_law_gcd (w := w) (K := K) (mg := mg) (base := base) (S := S) B df_u_law_gcd
  have c_u_law_low := d_u_law_low (w := w) (K := K) (mg := mg) (base := base) (S := S) B seer df_u_law_low c_u_law_gcd
  have c_u_law_factors := d_u_law_factors (w := w) (K := K) (mg := mg) (base := base) (S := S) B seer df_u_law_factors c_u_law_cell c_u_law_draws c_u_law_low
  have c_u_law_multiply := d_u_law_multiply (w := w) (K := K) (mg := mg) (base := base) (S := S) B df_u_law_multiply c_u_law_low
  have c_u_law_add := d_u_law_add (w := w) (K := K) (mg := mg) (base := base) (S := S) B df_u_law_add c_u_law_low
  have c_u_law_times := d_u_law_times (w := w) (K := K) (mg := mg) (base := base) (S := S) B df_u_law_times c_u_law_multiply c_u_law_add
  have c_u_law_product := d_u_law_product (w := w) (K := K) (mg := mg) (base := base) (S := S) B df_u_law_product c_u_law_times
  have c_whole_row := d_whole_row (w := w) (K := K) (mg := mg) (base := base) (S := S) B mlcm seer df_whole_row
  have c_pivot_position := d_pivot_position (w := w) (K := K) (mg := mg) (base := base) (S := S) B df_pivot_position
  have c_brought_up := d_brought_up (w := w) (K := K) (mg := mg) (base := base) (S := S) B df_brought_up
  have c_combined := d_combined (w := w) (K := K) (mg := mg) (base := base) (S := S) B seer df_combined
  have c_without_first_column := d_without_first_column (w := w) (K := K) (mg := mg) (base := base) (S := S) B df_without_first_column c_combined
  have c_eliminated := d_eliminated (w := w) (K := K) (mg := mg) (base := base) (S := S) B df_eliminated c_pivot_position c_brought_up c_without_first_column
  have c_make_ratio := d_make_ratio (w := w) (K := K) (mg := mg) (base := base) (S := S) B mgcd seer df_make_ratio
  have c_ratio_row := d_ratio_row (w := w) (K := K) (mg := mg) (base := base) (S := S) B df_ratio_row c_make_ratio
  have c_dependency := d_dependency (w := w) (K := K) (mg := mg) (base := base) (S := S) B df_dependency c_whole_row c_eliminated c_ratio_row
  have c_solve := d_solve (w := w) (K := K) (mg := mg) (base := base) (S := S) B df_solve c_whole_row c_eliminated c_dependency c_ratio_row
  have c_u_law_same : Cl PySem.Challenge.pw_anycompany_k08_solve_built_systems w K mg base S 48 "_law_same" 2 f_u_law_same := r_u_law_same B df_u_law_same 8
  have c_u_law_is_integer := d_u_law_is_integer (w := w) (K := K) (mg := mg) (base := base) (S := S) B df_u_law_is_integer
  have c_u_law_is_ratio := d_u_law_is_ratio (w := w) (K := K) (mg := mg) (base := base) (S := S) B df_u_law_is_ratio c_u_law_is_integer c_u_law_gcd
  have c_u_law_is_table := d_u_law_is_table (w := w) (K := K) (mg := mg) (base := base) (S := S) B df_u_law_is_table c_u_law_is_ratio
  have c_u_law_replaced := d_u_law_replaced (w := w) (K := K) (mg := mg) (base := base) (S := S) B df_u_law_replaced c_u_law_multiply c_u_law_add
  exact d_law B seer (fun_mk l24 c24 k24) c_u_law_cell c_u_law_draws c_u_law_factors c_u_law_product c_u_law_low c_solve c_u_law_same c_u_law_is_table c_u_law_replaced c_u_law_times
end Law
open PySem PySem.W PyProof.Rows in
set_option maxRecDepth 100000 in
set_option maxHeartbeats 0 in
theorem PySem.Challenge.cw_anycompany_k08_solve_built_systems_holds : PySem.Challenge.rw_anycompany_k08_solve_built_systems.Holds := by
  w_on; o_law; k_head; (case hw => w_witness2)
  k_fill
  refine Iv.end_of (l := PySem.Challenge.rw_anycompany_k08_solve_built_systems) (n := 63) (k := 49) (x := "script") (S := fun _ _ => Law.xs) (fn := Law.f_law) rfl (by decide) rfl ⟨rfl, by decide, by decide⟩ (by decide +kernel) (fun w h Y => PySem.W.kIn_of Y) ?F Law.law_true
  case F =>
    intro w mg fa h KX G hmg
    refine' Law.all_mk KX G hmg ?a0 ?l0 ?c0 ?k0 ?a1 ?l1 ?c1 ?k1 ?a2 ?l2 ?c2 ?k2 ?a3 ?l3 ?c3 ?k3 ?a4 ?l4 ?c4 ?k4 ?a5 ?l5 ?c5 ?k5 ?a6 ?l6 ?c6 ?k6 ?a7 ?l7 ?c7 ?k7 ?a8 ?l8 ?c8 ?k8 ?a9 ?l9 ?c9 ?k9 ?a10 ?l10 ?c10 ?k10 ?a11 ?l11 ?c11 ?k11 ?a12 ?l12 ?c12 ?k12 ?a13 ?l13 ?c13 ?k13 ?a14 ?l14 ?c14 ?k14 ?a15 ?l15 ?c15 ?k15 ?a16 ?l16 ?c16 ?k16 ?a17 ?l17 ?c17 ?k17 ?a18 ?l18 ?c18 ?k18 ?a19 ?l19 ?c19 ?k19 ?a20 ?l20 ?c20 ?k20 ?a21 ?l21 ?c21 ?k21 ?a22 ?l22 ?c22 ?k22 ?a23 ?l23 ?c23 ?k23 ?a24 ?l24 ?c24 ?k24 ?z_len ?z_abs ?z_int ?z_isinstance ?z_max ?z_min ?z_list ?z_tuple ?z_sum ?z_any ?z_all ?z_range ?z_sorted ?z_bool ?z_str ?z_dict ?z_zip ?zg ?zl
    (case a0 => k_is)
    (case l0 => k_is)
    (case c0 => k_is)
    (case k0 => k_is)
    (case a1 => k_is)
    (case l1 => k_is)
    (case c1 => k_is)
    (case k1 => k_is)
    (case a2 => k_is)
    (case l2 => k_is)
    (case c2 => k_is)
    (case k2 => k_is)
    (case a3 => k_is)
    (case l3 => k_is)
    (case c3 => k_is)
    (case k3 => k_is)
    (case a4 => k_is)
    (case l4 => k_is)
    (case c4 => k_is)
    (case k4 => k_is)
    (case a5 => k_is)
    (case l5 => k_is)
    (case c5 => k_is)
    (case k5 => k_is)
    (case a6 => k_is)
    (case l6 => k_is)
    (case c6 => k_is)
    (case k6 => k_is)
    (case a7 => k_is)
    (case l7 => k_is)
    (case c7 => k_is)
    (case k7 => k_is)
    (case a8 => k_is)
    (case l8 => k_is)
    (case c8 => k_is)
    (case k8 => k_is)
    (case a9 => k_is)
    (case l9 => k_is)
    (case c9 => k_is)
    (case k9 => k_is)
    (case a10 => k_is)
    (case l10 => k_is)
    (case c10 => k_is)
    (case k10 => k_is)
    (case a11 => k_is)
    (case l11 => k_is)
    (case c11 => k_is)
    (case k11 => k_is)
    (case a12 => k_is)
    (case l12 => k_is)
    (case c12 => k_is)
    (case k12 => k_is)
    (case a13 => k_is)
    (case l13 => k_is)
    (case c13 => k_is)
    (case k13 => k_is)
    (case a14 => k_is)
    (case l14 => k_is)
    (case c14 => k_is)
    (case k14 => k_is)
    (case a15 => k_is)
    (case l15 => k_is)
    (case c15 => k_is)
    (case k15 => k_is)
    (case a16 => k_is)
    (case l16 => k_is)
    (case c16 => k_is)
    (case k16 => k_is)
    (case a17 => k_is)
    (case l17 => k_is)
    (case c17 => k_is)
    (case k17 => k_is)
    (case a18 => k_is)
    (case l18 => k_is)
    (case c18 => k_is)
    (case k18 => k_is)
    (case a19 => k_is)
    (case l19 => k_is)
    (case c19 => k_is)
    (case k19 => k_is)
    (case a20 => k_is)
    (case l20 => k_is)
    (case c20 => k_is)
    (case k20 => k_is)
    (case a21 => k_is)
    (case l21 => k_is)
    (case c21 => k_is)
    (case k21 => k_is)
    (case a22 => k_is)
    (case l22 => k_is)
    (case c22 => k_is)
    (case k22 => k_is)
    (case a23 => k_is)
    (case l23 => k_is)
    (case c23 => k_is)
    (case k23 => k_is)
    (case a24 => k_is)
    (case l24 => k_is)
    (case c24 => k_is)
    (case k24 => k_is)
    (case z_len => k_is)
    (case z_abs => k_is)
    (case z_int => k_is)
    (case z_isinstance => k_is)
    (case z_max => k_is)
    (case z_min => k_is)
    (case z_list => k_is)
    (case z_tuple => k_is)
    (case z_sum => k_is)
    (case z_any => k_is)
    (case z_all => k_is)
    (case z_range => k_is)
    (case z_sorted => k_is)
    (case z_bool => k_is)
    (case z_str => k_is)
    (case z_dict => k_is)
    (case z_zip => k_is)
    (case zg => k_is)
    (case zl => k_is)

