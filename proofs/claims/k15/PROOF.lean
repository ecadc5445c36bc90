import PyProof.Rows.All
import Wide.All
import OpenK.AllK
import Wide.FinOn
import HandS.ForMost
import HandS.Exc
import HandS.ExcOwn
import HandS.TryOnly
import HandS.ExcCtx
import HandS.ExcIs
import HandS.HotCalls
import HandS.WordsExc
import HandS.Evl
import HandS.IsInst
import HandS.Gcd
import HandS.Wide
import HandS.EndBits
import PyProof.EqAt
import PyProof.EqKinds
import HandS.DictSubView
import HandS.SortInts
import HandS.Iter
import HandS.More
import KE.KDictList
import PySem.Challenge.RW_anycompany_k15_steady_throw_pay_row
set_option Elab.async false
set_option linter.all false
set_option maxRecDepth 100000
/-! Data of Python as plain Lean data, and how it lies in the heap. -/
namespace Iv
open PySem L2 Evl

inductive D where
  | non | bl (b : Bool) | int (i : Int) | str (s : Str) | ty (n : String)
  | tup (l : List D) | lst (l : List D) | scr (ns : List Int)
  | dct (ks : List Key) (ds : List D)

mutual
def R (K : PySem.W.Frag) (H : Hp) : D → V → Prop
  | .non, v => v = .non
  | .bl b, v => v = .bl b
  | .int i, v => v = .int i
  | .str s, v => v = .str s
  | .ty n, v => v = .ty n
  | .tup l, v => ∃ a vs, v = .ref a ∧ H a = some (.tup vs) ∧ Rs K H l vs
  | .lst l, v => ∃ a vs, v = .ref a ∧ H a = some (.lst vs) ∧ Rs K H l vs
  | .scr ns, v => ∃ a, v = .ref a ∧ SqL K H a (ns.map V.int)
  | .dct ks ds, v => ∃ a vs, v = .ref a ∧ H a = some (.dK (ks.zip vs)) ∧ vs.length = ks.length ∧ Rs K H ds vs
def Rs (K : PySem.W.Frag) (H : Hp) : List D → List V → Prop
  | [], vs => vs = []
  | d :: ds, vs => ∃ v r, vs = v :: r ∧ R K H d v ∧ Rs K H ds r
end

section
variable {K : PySem.W.Frag} {F H H' F' : Hp} {σ : L2.St}
mutual
theorem R.mono (e : Ex H H') : ∀ {d : D} {v : V}, R K H d v → R K H' d v
  | .non, _, h => by simpa only [R] using h
  | .bl _, _, h => by simpa only [R] using h
  | .int _, _, h => by simpa only [R] using h
  | .str _, _, h => by simpa only [R] using h
  | .ty _, _, h => by simpa only [R] using h
  | .tup l, _, h => by
    simp only [R] at h ⊢
    obtain ⟨a, vs, e1, e2, e3⟩ := h
    exact ⟨a, vs, e1, e a _ e2, Rs.mono e e3⟩
  | .lst l, _, h => by
    simp only [R] at h ⊢
    obtain ⟨a, vs, e1, e2, e3⟩ := h
    exact ⟨a, vs, e1, e a _ e2, Rs.mono e e3⟩
  | .scr ns, _, h => by
    simp only [R] at h ⊢
    obtain ⟨a, e1, e2⟩ := h
    exact ⟨a, e1, ex_l e e2⟩
  | .dct ks ds, _, h => by
    simp only [R] at h ⊢
    obtain ⟨a, vs, e1, e2, e3, e4⟩ := h
    exact ⟨a, vs, e1, e a _ e2, e3, Rs.mono e e4⟩
theorem Rs.mono (e : Ex H H') : ∀ {l : List D} {vs : List V}, Rs K H l vs → Rs K H' l vs
  | [], _, h => by simpa only [Rs] using h
  | d :: ds, _, h => by
    simp only [Rs] at h ⊢
    obtain ⟨v, r, e1, e2, e3⟩ := h
    exact ⟨v, r, e1, R.mono e e2, Rs.mono e e3⟩
end
theorem Rs.length : ∀ {l : List D} {vs : List V}, Rs K H l vs → vs.length = l.length
  | [], _, h => by simp only [Rs] at h; rw [h]; rfl
  | d :: ds, _, h => by
    simp only [Rs] at h
    obtain ⟨v, r, e1, _, e3⟩ := h
    rw [e1, List.length_cons, List.length_cons, Rs.length e3]
theorem Rs.get : ∀ {l : List D} {vs : List V} {i : Nat} {v : V}, Rs K H l vs → vs[i]? = some v → ∃ d, l[i]? = some d ∧ R K H d v
  | [], _, _, _, h, e => by simp only [Rs] at h; rw [h] at e; cases e
  | d :: ds, _, i, v, h, e => by
    simp only [Rs] at h
    obtain ⟨w, r, e1, e2, e3⟩ := h
    subst e1
    cases i with
    | zero =>
      have : w = v := Option.some.inj e
      subst this
      exact ⟨d, rfl, e2⟩
    | succ i => exact Rs.get (i := i) e3 (by simpa using e)
theorem Rs.get' : ∀ {l : List D} {vs : List V} {i : Nat} {d : D}, Rs K H l vs → l[i]? = some d → ∃ v, vs[i]? = some v ∧ R K H d v
  | [], _, _, _, h, e => by cases e
  | d :: ds, _, i, d', h, e => by
    simp only [Rs] at h
    obtain ⟨w, r, e1, e2, e3⟩ := h
    subst e1
    cases i with
    | zero =>
      have : d = d' := Option.some.inj e
      subst this
      exact ⟨w, rfl, e2⟩
    | succ i => exact Rs.get' (i := i) e3 (by simpa using e)
theorem Rs.nil : Rs K H [] [] := by simp only [Rs]
theorem Rs.cons {d : D} {v : V} {l : List D} {vs : List V} (h : R K H d v) (t : Rs K H l vs) : Rs K H (d :: l) (v :: vs) := by
  simp only [Rs]; exact ⟨v, vs, rfl, h, t⟩
theorem Rs.append : ∀ {l l' : List D} {vs vs' : List V}, Rs K H l vs → Rs K H l' vs' → Rs K H (l ++ l') (vs ++ vs')
  | [], _, _, _, h, h' => by simp only [Rs] at h; subst h; exact h'
  | d :: ds, _, _, _, h, h' => by
    simp only [Rs] at h
    obtain ⟨w, r, e1, e2, e3⟩ := h
    subst e1
    exact Rs.cons e2 (Rs.append e3 h')
theorem Rs.take : ∀ (n : Nat) {l : List D} {vs : List V}, Rs K H l vs → Rs K H (l.take n) (vs.take n)
  | 0, _, _, _ => Rs.nil
  | n + 1, [], _, h => by simp only [Rs] at h; subst h; exact Rs.nil
  | n + 1, d :: ds, _, h => by
    simp only [Rs] at h
    obtain ⟨w, r, e1, e2, e3⟩ := h
    subst e1
    exact Rs.cons e2 (Rs.take n e3)
theorem Rs.drop : ∀ (n : Nat) {l : List D} {vs : List V}, Rs K H l vs → Rs K H (l.drop n) (vs.drop n)
  | 0, _, _, h => h
  | n + 1, [], _, h => by simp only [Rs] at h; subst h; exact Rs.nil
  | n + 1, d :: ds, _, h => by
    simp only [Rs] at h
    obtain ⟨w, r, e1, e2, e3⟩ := h
    subst e1
    exact Rs.drop n e3
theorem Rs.set : ∀ {l : List D} {vs : List V} (i : Nat) {d : D} {v : V}, R K H d v → Rs K H l vs → Rs K H (l.set i d) (vs.set i v)
  | [], _, _, _, _, _, h => by simp only [Rs] at h; subst h; exact Rs.nil
  | d :: ds, _, i, _, _, q, h => by
    simp only [Rs] at h
    obtain ⟨w, r, e1, e2, e3⟩ := h
    subst e1
    cases i with
    | zero => exact Rs.cons q e3
    | succ i => exact Rs.cons e2 (Rs.set i q e3)
theorem Rs.of_map {α : Type} {f : α → D} {g : α → V} (h : ∀ x, R K H (f x) (g x)) : ∀ l : List α, Rs K H (l.map f) (l.map g)
  | [] => Rs.nil
  | x :: l => Rs.cons (h x) (Rs.of_map h l)
theorem Rs.ints : ∀ {ns : List Int} {vs : List V}, Rs K H (ns.map D.int) vs → vs = ns.map V.int
  | [], _, h => by simpa only [List.map_nil, Rs] using h
  | n :: ns, _, h => by
    simp only [List.map_cons, Rs, R] at h ⊢
    obtain ⟨v, r, e1, e2, e3⟩ := h
    rw [e1, e2, Rs.ints e3]
theorem Rs.bls : ∀ {ns : List Bool} {vs : List V}, Rs K H (ns.map D.bl) vs → vs = ns.map V.bl
  | [], _, h => by simpa only [List.map_nil, Rs] using h
  | n :: ns, _, h => by
    simp only [List.map_cons, Rs, R] at h ⊢
    obtain ⟨v, r, e1, e2, e3⟩ := h
    rw [e1, e2, Rs.bls e3]

/-! ### slots -/
/-- a slot's state: unknown; data that nobody changes; a list of the def's own; a dict of the def's own -/
inductive Sl where
  | un | fr (d : D) | ow (l : List D) | od (ks : List Key) (ds : List D) | xo (a : Addr)
abbrev En := List Sl
def Sl.own : Sl → Bool
  | .ow _ => true
  | .od _ _ => true
  | _ => false
def RSl (K : PySem.W.Frag) (F H : Hp) : Sl → Option V → Prop
  | .un, _ => True
  | .fr d, o => ∃ v, o = some v ∧ R K F d v
  | .ow l, o => ∃ p vs, o = some (.ref p) ∧ F p = none ∧ H p = some (.lst vs) ∧ Rs K F l vs
  | .od ks ds, o => ∃ p vs, o = some (.ref p) ∧ F p = none ∧ H p = some (.dK (ks.zip vs)) ∧ vs.length = ks.length ∧ Rs K F ds vs
  | .xo a, o => o = some (.ref a)
/-- an address that a slot owns -/
def Owned (σ : L2.St) (env : En) (a : Addr) : Prop := ∃ (i : Nat) (s : Sl), env[i]? = some s ∧ s.own = true ∧ σ[i]? = some (some (.ref a))
structure Rel (K : PySem.W.Frag) (F H : Hp) (σ : L2.St) (env : En) : Prop where
  len : env.length = σ.length
  ex : Ex F H
  at_ : ∀ (i : Nat) (s : Sl), env[i]? = some s → ∃ o, σ[i]? = some o ∧ RSl K F H s o
  dis : ∀ (i j : Nat) (s t : Sl) (a : Addr), env[i]? = some s → env[j]? = some t → s.own = true → t.own = true → σ[i]? = some (some (.ref a)) → σ[j]? = some (some (.ref a)) → i = j
/-- what an expression leaves -/
structure Gr (σ : L2.St) (env : En) (F H : Hp) (env' : En) (F' H' : Hp) : Prop where
  f : Ex F F'
  h : Ex H H'
  own : ∀ a, Owned σ env' a → Owned σ env a
  keep : ∀ a, H a ≠ none → F a = none → ¬ Owned σ env a → F' a = none
theorem Gr.refl {env : En} : Gr σ env F H env F H := ⟨Ex.refl _, Ex.refl _, fun _ h => h, fun _ _ h _ => h⟩
theorem Ex.some {H H' : Hp} (e : Ex H H') {a : Addr} (h : H a ≠ none) : H' a ≠ none := fun q => by
  cases r : H a with
  | none => exact h r
  | some o => rw [e a o r] at q; cases q
theorem Gr.trans {env env1 env2 : En} {F1 H1 F2 H2 : Hp} (a : Gr σ env F H env1 F1 H1) (b : Gr σ env1 F1 H1 env2 F2 H2) : Gr σ env F H env2 F2 H2 :=
  ⟨a.f.trans b.f, a.h.trans b.h, fun x h => a.own x (b.own x h), fun x h1 h2 h3 => b.keep x (Ex.some a.h h1) (a.keep x h1 h2 h3) fun q => h3 (a.own x q)⟩

theorem Rel.owned {env : En} {a : Addr} (r : Rel K F H σ env) (h : Owned σ env a) : F a = none ∧ H a ≠ none := by
  obtain ⟨i, s, e1, e2, e3⟩ := h
  obtain ⟨o, q1, q2⟩ := r.at_ i s e1
  rw [e3] at q1
  cases q1
  cases s with
  | un => cases e2
  | xo a => cases e2
  | fr d => cases e2
  | ow l =>
    obtain ⟨p, vs, e, n, hp, _⟩ := q2
    cases e
    exact ⟨n, by rw [hp]; exact fun z => nomatch z⟩
  | od ks ds =>
    obtain ⟨p, vs, e, n, hp, _⟩ := q2
    cases e
    exact ⟨n, by rw [hp]; exact fun z => nomatch z⟩
theorem RSl.mono {s : Sl} {o : Option V} (h : RSl K F H s o) (ef : Ex F F') (eh : Ex H H') (hp : ∀ a, s.own = true → o = some (.ref a) → F' a = none) : RSl K F' H' s o := by
  cases s with
  | un => trivial
  | xo a => exact h
  | fr d => obtain ⟨v, e, r⟩ := h; exact ⟨v, e, r.mono ef⟩
  | ow l => obtain ⟨p, vs, e, n, q, r⟩ := h; exact ⟨p, vs, e, hp p rfl e, eh p _ q, r.mono ef⟩
  | od ks ds => obtain ⟨p, vs, e, n, q, z, r⟩ := h; exact ⟨p, vs, e, hp p rfl e, eh p _ q, z, r.mono ef⟩
/-- the ghost heap and the heap grow, the own ones stay -/
theorem Rel.grow {env : En} (r : Rel K F H σ env) (ef : Ex F F') (eh : Ex H H') (efh : Ex F' H') (k : ∀ a, Owned σ env a → F' a = none) : Rel K F' H' σ env :=
  ⟨r.len, efh, fun i s e => by
    obtain ⟨o, e1, q⟩ := r.at_ i s e
    exact ⟨o, e1, q.mono ef eh fun a hs ho => k a ⟨i, s, e, hs, by rw [e1, ho]⟩⟩, r.dis⟩
/-- a slot is set -/
theorem Rel.set {env : En} {i : Nat} {s : Sl} {o : Option V} (r : Rel K F H σ env) (q : RSl K F H s o) (n : ∀ a, s.own = true → o = some (.ref a) → ∀ (j : Nat) (t : Sl), j ≠ i → env[j]? = some t → t.own = true → σ[j]? ≠ some (some (.ref a))) : Rel K F H (σ.set i o) (env.set i s) where
  len := by rw [List.length_set, List.length_set]; exact r.len
  ex := r.ex
  at_ := fun j t e => by
    by_cases h : i = j
    · subst h
      have hi : i < env.length := by
        have := (List.getElem?_eq_some_iff.mp e).1
        simpa using this
      rw [List.getElem?_set_self hi] at e
      cases e
      exact ⟨o, List.getElem?_set_self (by rw [← r.len]; exact hi), q⟩
    · rw [List.getElem?_set_ne h] at e ⊢
      exact r.at_ j t e
  dis := fun a b s' t c e1 e2 o1 o2 v1 v2 => by
    have hl : ∀ {j : Nat} {t : Sl}, (env.set i s)[j]? = some t → (i = j ∧ t = s ∧ j < env.length) ∨ (i ≠ j ∧ env[j]? = some t) := fun {j t} e => by
      by_cases h : i = j
      · subst h
        have hi : i < env.length := by
          have := (List.getElem?_eq_some_iff.mp e).1
          simpa using this
        rw [List.getElem?_set_self hi] at e
        cases e
        exact .inl ⟨rfl, rfl, hi⟩
      · rw [List.getElem?_set_ne h] at e
        exact .inr ⟨h, e⟩
    rcases hl e1 with ⟨ha, hs, hn⟩ | ⟨ha, hs⟩
    · rcases hl e2 with ⟨hb, _, _⟩ | ⟨hb, ht⟩
      · exact ha.symm.trans hb
      · subst ha hs
        rw [List.getElem?_set_self (by rw [← r.len]; exact hn)] at v1
        rw [List.getElem?_set_ne hb] at v2
        exact absurd v2 (n c o1 (Option.some.inj v1) b t (Ne.symm hb) ht o2)
    · rcases hl e2 with ⟨hb, ht, hn⟩ | ⟨hb, ht⟩
      · subst hb ht
        rw [List.getElem?_set_self (by rw [← r.len]; exact hn)] at v2
        rw [List.getElem?_set_ne ha] at v1
        exact absurd v1 (n c o2 (Option.some.inj v2) a s' (Ne.symm ha) hs o1)
      · rw [List.getElem?_set_ne ha] at v1
        rw [List.getElem?_set_ne hb] at v2
        exact r.dis a b s' t c hs ht o1 o2 v1 v2
end
end Iv

set_option Elab.async false
set_option linter.all false
set_option maxRecDepth 100000
/-! Expressions by what they yield: a program's expression has a plain Lean function as its meaning. -/
namespace Iv
open PySem PySem.Spec PyProof.Rows L2 Evl

/-! ### results -/
inductive Res (α : Type) where
  | ok (a : α) (e : En) | ex (c : Nat) (x : Option D) (e : En) | bad
abbrev M (α : Type) := En → Res α
def Res.bind {α β : Type} (r : Res α) (k : α → En → Res β) : Res β := match r with
  | .ok a e => k a e
  | .ex c x e => .ex c x e
  | .bad => .bad
@[simp] theorem Res.bind_ok {α β : Type} {a : α} {e : En} {k : α → En → Res β} : (Res.ok a e).bind k = k a e := rfl
@[simp] theorem Res.bind_ex {α β : Type} {c : Nat} {x : Option D} {e : En} {k : α → En → Res β} : (Res.ex c x e : Res α).bind k = .ex c x e := rfl
@[simp] theorem Res.bind_bad {α β : Type} {k : α → En → Res β} : (Res.bad : Res α).bind k = .bad := rfl
/-- data; a new list, a new dict that nobody else knows -/
inductive Sv where
  | d (x : D) | l (ds : List D) | k (ks : List Key) (ds : List D)
@[simp] def Sv.toD : Sv → D
  | .d x => x
  | .l ds => .lst ds
  | .k ks ds => .dct ks ds
/-- the text's exception classes by number: the class, its one field's name -/
structure Xs where
  cls : Nat → Value
  fld : Nat → Str

section
variable {K : PySem.W.Frag} {S : Xs} {σ : L2.St} {env env' env1 : En} {F F' F1 H H' H1 : Hp} {W : WX}
/-- B: the heap ahead of the expression; what is new is new since then -/
def RV (K : PySem.W.Frag) (B F H : Hp) : Sv → V → Prop
  | .d x, v => R K F x v
  | .l ds, v => ∃ p vs, v = .ref p ∧ B p = none ∧ F p = none ∧ H p = some (.lst vs) ∧ Rs K F ds vs
  | .k ks ds, v => ∃ p vs, v = .ref p ∧ B p = none ∧ F p = none ∧ H p = some (.dK (ks.zip vs)) ∧ vs.length = ks.length ∧ Rs K F ds vs
/-- what is read only: it may be a list or a dict that still changes later -/
def RP (K : PySem.W.Frag) (F H : Hp) (d : D) (v : V) : Prop := R K F d v ∨ (∃ ds p vs, d = .lst ds ∧ v = .ref p ∧ H p = some (.lst vs) ∧ Rs K F ds vs) ∨
  ∃ ks ds p vs, d = .dct ks ds ∧ v = .ref p ∧ H p = some (.dK (ks.zip vs)) ∧ vs.length = ks.length ∧ Rs K F ds vs
theorem RP.mono {d : D} {v : V} (h : RP K F H d v) (a : Ex F F') (b : Ex H H') : RP K F' H' d v := by
  rcases h with h | ⟨ds, p, vs, e1, e2, e3, e4⟩ | ⟨ks, ds, p, vs, e1, e2, e3, e4, e5⟩
  · exact .inl (h.mono a)
  · exact .inr (.inl ⟨ds, p, vs, e1, e2, b p _ e3, e4.mono a⟩)
  · exact .inr (.inr ⟨ks, ds, p, vs, e1, e2, b p _ e3, e4, e5.mono a⟩)
theorem RV.peek {B : Hp} {sv : Sv} {v : V} (h : RV K B F H sv v) : RP K F H sv.toD v := by
  cases sv with
  | d x => exact .inl h
  | l ds => obtain ⟨p, vs, e, _, _, q, r⟩ := h; exact .inr (.inl ⟨ds, p, vs, rfl, e, q, r⟩)
  | k ks ds => obtain ⟨p, vs, e, _, _, q, z, r⟩ := h; exact .inr (.inr ⟨ks, ds, p, vs, rfl, e, q, z, r⟩)
theorem RV.anti {B B' : Hp} {sv : Sv} {v : V} (e : Ex B B') (h : RV K B' F H sv v) : RV K B F H sv v := by
  cases sv with
  | d x => exact h
  | l ds => obtain ⟨p, vs, q1, q2, q⟩ := h; exact ⟨p, vs, q1, fresh_back e q2, q⟩
  | k ks ds => obtain ⟨p, vs, q1, q2, q⟩ := h; exact ⟨p, vs, q1, fresh_back e q2, q⟩
/-- in the heap as it stands -/
theorem RP.at_ {d : D} {v : V} (h : RP K F H d v) (e : Ex F H) : R K H d v := by
  rcases h with h | ⟨ds, p, vs, rfl, e2, e3, e4⟩ | ⟨ks, ds, p, vs, rfl, e2, e3, e4, e5⟩
  · exact h.mono e
  · simp only [R]; exact ⟨p, vs, e2, e3, e4.mono e⟩
  · simp only [R]; exact ⟨p, vs, e2, e3, e4, e5.mono e⟩
/-- how an exception's own dict lies -/
def RX (K : PySem.W.Frag) (S : Xs) (H : Hp) (c : Nat) : Option D → Option Addr → Prop
  | none, a => a = none
  | some d, a => ∃ p v, a = some p ∧ H p = some (.xd [(S.fld c, v)]) ∧ R K H d v

/-- how results lie: the heap ahead, the ghost heap, the heap, the slots' states -/
abbrev RT (α β : Type) := Hp → Hp → Hp → En → α → β → Prop
class Anti {α β : Type} (T : RT α β) : Prop where
  anti : ∀ {B B' F H env a b}, Ex B B' → T B' F H env a b → T B F H env a b
/-- a result, wanted by Q -/
def okG {α β : Type} (K : PySem.W.Frag) (S : Xs) (W : WX) (σ : L2.St) (T : RT α β) (F H : Hp) (env : En) (Q : β → Hp → Prop) : Res α → Prop
  | .ok a env' => ∀ b F' H', Gr σ env F H env' F' H' → Rel K F' H' σ env' → T H F' H' env' a b → Q b H'
  | .ex c x env' => ∀ d F' H', Gr σ env F H env' F' H' → Rel K F' H' σ env' → RX K S F' c x d → W (S.cls c) d σ H'
  | .bad => False
theorem okG.shift {α β : Type} {T : RT α β} [Anti T] {Q : β → Hp → Prop} {r : Res α} (g : Gr σ env F H env1 F1 H1) (h : okG K S W σ T F H env Q r) : okG K S W σ T F1 H1 env1 Q r := by
  cases r with
  | ok a e => exact fun b F' H' g' rel t => h b F' H' (g.trans g') rel (Anti.anti g.h t)
  | ex c x e => exact fun d F' H' g' => h d F' H' (g.trans g')
  | bad => exact h
theorem okG.imp {α β : Type} {T : RT α β} {Q Q' : β → Hp → Prop} {r : Res α} (h : okG K S W σ T F H env Q r) (q : ∀ b H', Q b H' → Q' b H') : okG K S W σ T F H env Q' r := by
  cases r with
  | ok a e => exact fun b F' H' g rel t => q _ _ (h b F' H' g rel t)
  | ex c x e => exact h
  | bad => exact h
/-- what stands behind the first of two -/
def Then {α β γ δ : Type} (K : PySem.W.Frag) (S : Xs) (W : WX) (σ : L2.St) (T : RT α β) (T' : RT γ δ) (Q : δ → Hp → Prop) (k : α → En → Res γ) (F0 H0 : Hp) (b : β) (H1 : Hp) : Prop :=
  ∃ F1 env1 a, Ex F0 F1 ∧ Ex H0 H1 ∧ Rel K F1 H1 σ env1 ∧ T H0 F1 H1 env1 a b ∧ okG K S W σ T' F1 H1 env1 Q (k a env1)
theorem okG.bind {α β γ δ : Type} {T : RT α β} {T' : RT γ δ} [Anti T'] {Q : δ → Hp → Prop} {r : Res α} {k : α → En → Res γ} (h : okG K S W σ T' F H env Q (r.bind k)) :
    okG K S W σ T F H env (Then K S W σ T T' Q k F H) r := by
  cases r with
  | ok a e => exact fun b F' H' g rel t => ⟨F', e, a, g.f, g.h, rel, t, okG.shift g h⟩
  | ex c x e => exact h
  | bad => exact h

/-! ### readings by meanings -/
def RPs (K : PySem.W.Frag) (F H : Hp) : List D → List V → Prop
  | [], vs => vs = []
  | d :: ds, vs => ∃ v r, vs = v :: r ∧ RP K F H d v ∧ RPs K F H ds r
def TV (K : PySem.W.Frag) : RT Sv V := fun B F H _ => RV K B F H
def TF (K : PySem.W.Frag) : RT D V := fun _ F _ _ => R K F
def TP (K : PySem.W.Frag) : RT D V := fun _ F H _ => RP K F H
def TFs (K : PySem.W.Frag) : RT (List D) (List V) := fun _ F _ _ => Rs K F
def TPs (K : PySem.W.Frag) : RT (List D) (List V) := fun _ F H _ => RPs K F H
def TB : RT Bool Bool := fun _ _ _ _ a b => a = b
instance : Anti (TV K) := ⟨fun e h => RV.anti e h⟩
instance : Anti (TF K) := ⟨fun _ h => h⟩
instance : Anti (TP K) := ⟨fun _ h => h⟩
instance : Anti (TFs K) := ⟨fun _ h => h⟩
instance : Anti (TPs K) := ⟨fun _ h => h⟩
instance : Anti TB := ⟨fun _ h => h⟩
def rd {α β : Type} (K : PySem.W.Frag) (S : Xs) (W : WX) (T : RT α β) (f : M α) : L2.St → Hp → (β → Hp → Prop) → Prop := fun σ H Q => ∃ F env, Rel K F H σ env ∧ okG K S W σ T F H env Q (f env)
theorem rd_bind {α β γ δ : Type} {T : RT α β} {T' : RT γ δ} [Anti T'] {Q : δ → Hp → Prop} {f : M α} {k : α → En → Res γ} (h : rd K S W T' (fun env => (f env).bind k) σ H Q) :
    ∃ F, Ex F H ∧ rd K S W T f σ H (Then K S W σ T T' Q k F H) := by
  obtain ⟨F, env, rel, h⟩ := h
  exact ⟨F, rel.ex, F, env, rel, okG.bind h⟩
theorem rd_imp {α β : Type} {T : RT α β} {Q Q' : β → Hp → Prop} {f : M α} (h : rd K S W T f σ H Q) (q : ∀ b H', Q b H' → Q' b H') : rd K S W T f σ H Q' := by
  obtain ⟨F, env, rel, h⟩ := h
  exact ⟨F, env, rel, h.imp q⟩
end

section
variable {X : Cx} {S : Xs} {W : WX} {e a b : Expr} {es : List Expr} {pos : Pos}
/-- a value; frozen data; data that is read only; arguments; a test -/
def PD (X : Cx) (S : Xs) (W : WX) (e : Expr) (f : M Sv) : Prop := PE X e (rd X.K S W (TV X.K) f)
def PF (X : Cx) (S : Xs) (W : WX) (e : Expr) (f : M D) : Prop := PE X e (rd X.K S W (TF X.K) f)
def PP (X : Cx) (S : Xs) (W : WX) (e : Expr) (f : M D) : Prop := PE X e (rd X.K S W (TP X.K) f)
def PFs (X : Cx) (S : Xs) (W : WX) (es : List Expr) (f : M (List D)) : Prop := PA X es (rd X.K S W (TFs X.K) f)
def PPs (X : Cx) (S : Xs) (W : WX) (es : List Expr) (f : M (List D)) : Prop := PA X es (rd X.K S W (TPs X.K) f)
def PB (X : Cx) (S : Xs) (W : WX) (e : Expr) (f : M Bool) : Prop := PT X e (rd X.K S W TB f)
theorem PE.imp {t t' : TE} (h : PE X e t) (q : ∀ σ H Q, t' σ H Q → t σ H Q) : PE X e t' := ⟨fun pins s σ H Q I hw => h.run pins s σ H Q I (q σ H Q hw)⟩
theorem PT.imp {t t' : TT} (h : PT X e t) (q : ∀ σ H Q, t' σ H Q → t σ H Q) : PT X e t' := ⟨fun pins s σ H Q I hw => h.run pins s σ H Q I (q σ H Q hw)⟩
theorem PA.imp {t t' : TA} (h : PA X es t) (q : ∀ σ H Q, t' σ H Q → t σ H Q) : PA X es t' := ⟨fun pos pins s σ H Q I hw => h.run pos pins s σ H Q I (q σ H Q hw)⟩
theorem PW.imp {t t' : TT} (h : PW X e t) (q : ∀ σ H Q, t' σ H Q → t σ H Q) : PW X e t' := ⟨fun wh pins s σ H Q I hw => h.run wh pins s σ H Q I (q σ H Q hw)⟩

/-! ### names and constants -/
def mC (d : D) : M Sv := fun env => .ok (.d d) env
def mVar (i : Nat) : M Sv := fun env => match env[i]? with
  | some (.fr d) => .ok (.d d) env
  | some (.ow l) => .ok (.d (.lst l)) (env.set i (.fr (.lst l)))
  | some (.od ks ds) => .ok (.d (.dct ks ds)) (env.set i (.fr (.dct ks ds)))
  | _ => .bad
def mPk (i : Nat) : M D := fun env => match env[i]? with
  | some (.fr d) => .ok d env
  | some (.ow l) => .ok (.lst l) env
  | some (.od ks ds) => .ok (.dct ks ds) env
  | _ => .bad
def mD (f : M Sv) : M D := fun env => (f env).bind fun sv env => .ok sv.toD env
theorem pd_c {d : D} {v : V} (h : PE X e (tC v)) (r : ∀ F, R X.K F d v) : PD X S W e (mC d) := PE.imp h fun σ H Q ⟨F, env, rel, h⟩ => h v F H Gr.refl rel (r F)
theorem pd_int {i : Int} {j : Nat} : PD X S W (.Constant (.int i) j pos) (mC (.int i)) := pd_c pe_int fun _ => by simp only [R]
theorem pd_bl {i : Bool} {j : Nat} : PD X S W (.Constant (.bool i) j pos) (mC (.bl i)) := pd_c pe_bl fun _ => by simp only [R]
theorem pd_non {j : Nat} : PD X S W (.Constant .none j pos) (mC .non) := pd_c pe_non fun _ => by simp only [R]
theorem pd_str {i : Str} {j : Nat} : PD X S W (.Constant (.str i) j pos) (mC (.str i)) := pd_c pe_str fun _ => by simp only [R]
/-- an own slot is given up: its list is data from now on -/
theorem Rel.freeze {K : PySem.W.Frag} {F H : Hp} {σ : L2.St} {env : En} {i : Nat} {s : Sl} {p : Addr} {o : HO} {d : D} (rel : Rel K F H σ env) (e : env[i]? = some s) (hs : s.own = true) (hv : σ[i]? = some (some (.ref p))) (hp : H p = some o) (hr : R K (upd F p o) d (.ref p)) :
    Rel K (upd F p o) H σ (env.set i (.fr d)) ∧ Gr σ env F H (env.set i (.fr d)) (upd F p o) H := by
  have fp : F p = none := (rel.owned ⟨i, s, e, hs, hv⟩).1
  have ef : Ex F (upd F p o) := Ex.new fp
  have il : i < env.length := (List.getElem?_eq_some_iff.mp e).1
  have old : ∀ {j : Nat} {t : Sl}, (env.set i (.fr d))[j]? = some t → t.own = true → j ≠ i ∧ env[j]? = some t := fun {j t} q ho => by
    by_cases hj : i = j
    · subst hj
      rw [List.getElem?_set_self il] at q
      cases q
      cases ho
    · rw [List.getElem?_set_ne hj] at q
      exact ⟨Ne.symm hj, q⟩
  have keep : ∀ a, Owned σ (env.set i (.fr d)) a → Owned σ env a ∧ a ≠ p := fun a ⟨j, t, q, ho, hj⟩ => by
    obtain ⟨nj, q'⟩ := old q ho
    refine ⟨⟨j, t, q', ho, hj⟩, fun z => ?_⟩
    subst z
    exact nj (rel.dis j i t s a q' e ho hs hj hv)
  refine ⟨⟨by rw [List.length_set]; exact rel.len, fun a u q => ?_, fun j t q => ?_, fun x y t u c q1 q2 o1 o2 v1 v2 => ?_⟩, ⟨ef, Ex.refl _, fun a q => (keep a q).1, fun a h1 h2 h3 => ?_⟩⟩
  · by_cases ha : a = p
    · subst ha
      rw [upd_same] at q
      rw [hp]
      exact q
    · rw [upd_ne ha] at q
      exact rel.ex a u q
  · by_cases hj : i = j
    · subst hj
      rw [List.getElem?_set_self il] at q
      cases q
      exact ⟨_, hv, _, rfl, hr⟩
    · rw [List.getElem?_set_ne hj] at q
      obtain ⟨w, q1, q2⟩ := rel.at_ j t q
      refine ⟨w, q1, q2.mono ef (Ex.refl _) fun a ho z => ?_⟩
      have := keep a ⟨j, t, by rw [List.getElem?_set_ne hj]; exact q, ho, by rw [q1, z]⟩
      rw [upd_ne this.2]
      exact (rel.owned this.1).1
  · exact rel.dis x y t u c (old q1 o1).2 (old q2 o2).2 o1 o2 v1 v2
  · have ha : a ≠ p := fun z => h3 ⟨i, s, e, hs, by rw [z]; exact hv⟩
    rw [upd_ne ha]
    exact h2
theorem pd_var {i : Nat} {x : Str} (hN : X.N[i]? = some x) (hv : Vis X.env.scope x) (hd : (x == ("__debug__" : Str)) = false := by decide) (hcd : (x == ("__classdict__" : Str)) = false := by decide) : PD X S W (.Name x pos) (mVar i) :=
  PE.imp (pe_var hN hv hd hcd) fun σ H Q ⟨F, env, rel, h⟩ => by
    unfold mVar at h
    split at h
    · rename_i d e
      obtain ⟨o, q1, v, q2, r⟩ := rel.at_ i _ e
      subst q2
      exact ⟨v, q1, h v F H Gr.refl rel r⟩
    · rename_i l e
      obtain ⟨o, q1, p, vs, q2, n, q3, r⟩ := rel.at_ i _ e
      subst q2
      have z := rel.freeze (d := .lst l) e rfl q1 q3 (by simp only [R]; exact ⟨p, vs, rfl, upd_same, r.mono (Ex.new n)⟩)
      exact ⟨_, q1, h _ _ H z.2 z.1 (by show R _ _ _ _; simp only [R]; exact ⟨p, vs, rfl, upd_same, r.mono (Ex.new n)⟩)⟩
    · rename_i ks ds e
      obtain ⟨o, q1, p, vs, q2, n, q3, z, r⟩ := rel.at_ i _ e
      subst q2
      have y := rel.freeze (d := .dct ks ds) e rfl q1 q3 (by simp only [R]; exact ⟨p, vs, rfl, upd_same, z, r.mono (Ex.new n)⟩)
      exact ⟨_, q1, h _ _ H y.2 y.1 (by show R _ _ _ _; simp only [R]; exact ⟨p, vs, rfl, upd_same, z, r.mono (Ex.new n)⟩)⟩
    · exact h.elim
theorem pp_var {i : Nat} {x : Str} (hN : X.N[i]? = some x) (hv : Vis X.env.scope x) (hd : (x == ("__debug__" : Str)) = false := by decide) (hcd : (x == ("__classdict__" : Str)) = false := by decide) : PP X S W (.Name x pos) (mPk i) :=
  PE.imp (pe_var hN hv hd hcd) fun σ H Q ⟨F, env, rel, h⟩ => by
    unfold mPk at h
    split at h
    · rename_i d e
      obtain ⟨o, q1, v, q2, r⟩ := rel.at_ i _ e
      subst q2
      exact ⟨v, q1, h v F H Gr.refl rel (.inl r)⟩
    · rename_i l e
      obtain ⟨o, q1, p, vs, q2, n, q3, r⟩ := rel.at_ i _ e
      subst q2
      exact ⟨_, q1, h _ F H Gr.refl rel (.inr (.inl ⟨l, p, vs, rfl, rfl, q3, r⟩))⟩
    · rename_i ks ds e
      obtain ⟨o, q1, p, vs, q2, n, q3, z, r⟩ := rel.at_ i _ e
      subst q2
      exact ⟨_, q1, h _ F H Gr.refl rel (.inr (.inr ⟨ks, ds, p, vs, rfl, rfl, q3, z, r⟩))⟩
    · exact h.elim
theorem pp_of {f : M Sv} (h : PD X S W e f) : PP X S W e (mD f) := PE.imp h fun σ H Q q => by
  obtain ⟨F, ef, q⟩ := rd_bind (T := TV X.K) q
  refine rd_imp q fun v H' ⟨F1, env1, sv, g1, g2, rel, r, q⟩ => ?_
  exact q v F1 H' Gr.refl rel (RV.peek r)
/-- a new list becomes data -/
theorem pf_of {f : M Sv} (h : PD X S W e f) : PF X S W e (mD f) := PE.imp h fun σ H Q ⟨F, env, rel, q⟩ => by
  refine ⟨F, env, rel, ?_⟩
  unfold mD at q
  cases hr : f env with
  | bad => rw [hr] at q; exact q
  | ex c x env1 => rw [hr] at q; exact q
  | ok sv env1 =>
    rw [hr] at q
    intro v F1 H1 g rel1 rv
    have q : okG X.K S W σ (TF X.K) F H env Q (.ok sv.toD env1) := q
    have core : ∀ {p : Addr} {o : HO}, H p = none → F1 p = none → H1 p = some o → Gr σ env F H env1 (upd F1 p o) H1 ∧ Rel X.K (upd F1 p o) H1 σ env1 := fun {p o} hb n z => by
      have ne : ∀ a, Owned σ env1 a → a ≠ p := fun a ha y => (rel.owned (g.own a ha)).2 (by rw [y]; exact hb)
      refine ⟨⟨g.f.trans (Ex.new n), g.h, g.own, fun a h1 h2 h3 => ?_⟩, rel1.grow (Ex.new n) (Ex.refl _) (fun a u e => ?_) fun a ha => by rw [upd_ne (ne a ha)]; exact (rel1.owned ha).1⟩
      · rw [upd_ne (fun y => h1 (by rw [y]; exact hb))]
        exact g.keep a h1 h2 h3
      · by_cases ha : a = p
        · subst ha; rw [upd_same] at e; rw [z]; exact e
        · rw [upd_ne ha] at e; exact rel1.ex a u e
    cases sv with
    | d x => exact q v F1 H1 g rel1 rv
    | l ds =>
      obtain ⟨p, vs, e, hb, n, z, r⟩ := rv
      have c := core hb n z
      exact q v _ H1 c.1 c.2 (by show R _ _ _ _; simp only [Sv.toD, R]; exact ⟨p, vs, e, upd_same, r.mono (Ex.new n)⟩)
    | k ks ds =>
      obtain ⟨p, vs, e, hb, n, z, y, r⟩ := rv
      have c := core hb n z
      exact q v _ H1 c.1 c.2 (by show R _ _ _ _; simp only [Sv.toD, R]; exact ⟨p, vs, e, upd_same, y, r.mono (Ex.new n)⟩)
/-- data as a value -/
def mF (f : M D) : M Sv := fun env => (f env).bind fun d env => .ok (.d d) env

/-! ### operations -/
/-- something new is laid, all else stands -/
structure New (F H F' H' : Hp) : Prop where
  f : Ex F F'
  h : Ex H H'
  fh : Ex F' H'
  keep : ∀ a, H a ≠ none → F a = none → F' a = none
theorem New.refl {F H : Hp} (e : Ex F H) : New F H F H := ⟨Ex.refl _, Ex.refl _, e, fun _ _ h => h⟩
/-- an object that stays data -/
theorem New.data {F H : Hp} {p : Addr} {o : HO} (e : Ex F H) (n : H p = none) : New F H (upd F p o) (upd H p o) :=
  ⟨Ex.new (fresh_back e n), Ex.new n, fun a u q => by
    by_cases ha : a = p
    · subst ha; rw [upd_same] at q ⊢; exact q
    · rw [upd_ne ha] at q ⊢; exact e a u q, fun a h1 h2 => by
    rw [upd_ne (fun z => h1 (by rw [z]; exact n))]; exact h2⟩
/-- an object that may still change -/
theorem New.fresh {F H : Hp} {p : Addr} {o : HO} (e : Ex F H) (n : H p = none) : New F H F (upd H p o) :=
  ⟨Ex.refl _, Ex.new n, fun a u q => by rw [upd_ne (ne_of_none (e a u q) n)]; exact e a u q, fun a _ h2 => h2⟩
theorem New.gr {K : PySem.W.Frag} {F H F' H' : Hp} {σ : L2.St} {env : En} (n : New F H F' H') (rel : Rel K F H σ env) : Gr σ env F H env F' H' ∧ Rel K F' H' σ env :=
  ⟨⟨n.f, n.h, fun _ h => h, fun a h1 h2 _ => n.keep a h1 h2⟩, rel.grow n.f n.h n.fh fun a ha => n.keep a (rel.owned ha).2 (rel.owned ha).1⟩
def rdo (o : Option Sv) (env : En) : Res Sv := match o with
  | some sv => .ok sv env
  | none => .bad
/-- what a rule for values yields -/
def OpS (K : PySem.W.Frag) (r : R2) (o : D → D → Option Sv) : Prop := ∀ (F H : Hp) (x y : V) (dx dy : D) (sv : Sv), Ex F H → RP K F H dx x → RP K F H dy y → o dx dy = some sv →
  ∀ Q : VK, (∀ v F' H', New F H F' H' → RV K H F' H' sv v → Q v H') → r x y H Q
def UnS (K : PySem.W.Frag) (r : V → Hp → VK → Prop) (o : D → Option Sv) : Prop := ∀ (F H : Hp) (x : V) (dx : D) (sv : Sv), Ex F H → RP K F H dx x → o dx = some sv →
  ∀ Q : VK, (∀ v F' H', New F H F' H' → RV K H F' H' sv v → Q v H') → r x H Q
def ClS (K : PySem.W.Frag) (r : List V → Hp → VK → Prop) (o : List D → Option Sv) : Prop := ∀ (F H : Hp) (xs : List V) (ds : List D) (sv : Sv), Ex F H → RPs K F H ds xs → o ds = some sv →
  ∀ Q : VK, (∀ v F' H', New F H F' H' → RV K H F' H' sv v → Q v H') → r xs H Q
def mOp (o : D → D → Option Sv) (f g : M D) : M Sv := fun env => (f env).bind fun x env => (g env).bind fun y env => rdo (o x y) env
def mUn (o : D → Option Sv) (f : M D) : M Sv := fun env => (f env).bind fun x env => rdo (o x) env
def mCl (o : List D → Option Sv) (f : M (List D)) : M Sv := fun env => (f env).bind fun x env => rdo (o x) env
variable {f g : M D} {o : D → D → Option Sv}
theorem rd_op {σ : L2.St} {H : Hp} {Q : VK} {r : R2} (hs : OpS X.K r o) (q : rd X.K S W (TV X.K) (mOp o f g) σ H Q) : tOp r (rd X.K S W (TP X.K) f) (rd X.K S W (TP X.K) g) σ H Q := by
  obtain ⟨F, ef, q⟩ := rd_bind (T := TP X.K) q
  refine rd_imp q fun x H1 ⟨F1, env1, dx, g1, g2, rel1, rx, q⟩ => ?_
  have q := okG.bind (T := TP X.K) q
  refine ⟨F1, env1, rel1, q.imp fun y H2 ⟨F2, env2, dy, k1, k2, rel2, ry, q⟩ => ?_⟩
  have rx2 := RP.mono rx k1 k2
  dsimp only at q
  cases ho : o dx dy with
  | none => rw [ho] at q; exact q.elim
  | some sv =>
    rw [ho] at q
    exact hs F2 H2 x y dx dy sv rel2.ex rx2 ry ho Q fun v F' H' n rv => q v F' H' (n.gr rel2).1 (n.gr rel2).2 rv
theorem pd_op {op : Operator} {r : R2} (ho : OpR X (binaryOp op) r) (hs : OpS X.K r o) (ha : PP X S W a f) (hb : PP X S W b g) : PD X S W (.BinOp a op b pos) (mOp o f g) :=
  PE.imp (pe_op ho ha hb) fun _ _ _ q => rd_op hs q
theorem pd_cmp {op : CmpOp} {r : R2} (ho : OpR X (compareOp op) r) (hs : OpS X.K r o) (hm : behindInMarks op b = false) (ha : PP X S W a f) (hb : PP X S W b g) : PD X S W (.Compare a [op] [b] pos) (mOp o f g) :=
  PE.imp (pe_cmpR ho ha hb hm) fun _ _ _ q => rd_op hs q
theorem pd_ix {r : R2} (hr : IxR X r) (hs : OpS X.K r o) (hx : PlainIx b) (ha : PP X S W a f) (hb : PP X S W b g) : PD X S W (.Subscript a b pos) (mOp o f g) :=
  PE.imp (pe_ix hr ha hb hx) fun _ _ _ q => rd_op hs q
theorem pd_un {op : UnaryOp} {r : V → Hp → VK → Prop} {o : D → Option Sv} (ho : UnR X (unaryOp op) r) (hs : UnS X.K r o) (ha : PP X S W a f) : PD X S W (.UnaryOp op a pos) (mUn o f) :=
  PE.imp (pe_un ho ha) fun σ H Q q => by
    obtain ⟨F, ef, q⟩ := rd_bind (T := TP X.K) q
    refine rd_imp q fun x H1 ⟨F1, env1, dx, g1, g2, rel1, rx, q⟩ => ?_
    dsimp only at q
    cases h : o dx with
    | none => rw [h] at q; exact q.elim
    | some sv =>
      rw [h] at q
      exact hs F1 H1 x dx sv rel1.ex rx h Q fun v F' H' n rv => q v F' H' (n.gr rel1).1 (n.gr rel1).2 rv

/-! ### arguments, displays, calls of built-ins -/
def mNil : M (List D) := fun env => .ok [] env
def mCons (f : M D) (g : M (List D)) : M (List D) := fun env => (f env).bind fun x env => (g env).bind fun xs env => .ok (x :: xs) env
theorem pfs_nil : PFs X S W [] mNil := PA.imp pa_nil fun σ H Q ⟨F, env, rel, q⟩ => q [] F H Gr.refl rel Rs.nil
theorem pps_nil : PPs X S W [] mNil := PA.imp pa_nil fun σ H Q ⟨F, env, rel, q⟩ => q [] F H Gr.refl rel rfl
theorem pfs_cons {g : M (List D)} (ha : PF X S W e f) (hr : PFs X S W es g) (hs : starEach (e :: es) X.env = (false, eval e X.env) :: starEach es X.env := by rfl) : PFs X S W (e :: es) (mCons f g) :=
  PA.imp (pa_cons ha hr hs) fun σ H Q q => by
    obtain ⟨F, ef, q⟩ := rd_bind (T := TF X.K) q
    refine rd_imp q fun x H1 ⟨F1, env1, dx, g1, g2, rel1, rx, q⟩ => ?_
    have q := okG.bind (T := TFs X.K) q
    refine ⟨F1, env1, rel1, q.imp fun y H2 ⟨F2, env2, dy, k1, k2, rel2, ry, q⟩ => ?_⟩
    exact q _ F2 H2 Gr.refl rel2 (Rs.cons (R.mono k1 rx) ry)
theorem pps_cons {g : M (List D)} (ha : PP X S W e f) (hr : PPs X S W es g) (hs : starEach (e :: es) X.env = (false, eval e X.env) :: starEach es X.env := by rfl) : PPs X S W (e :: es) (mCons f g) :=
  PA.imp (pa_cons ha hr hs) fun σ H Q q => by
    obtain ⟨F, ef, q⟩ := rd_bind (T := TP X.K) q
    refine rd_imp q fun x H1 ⟨F1, env1, dx, g1, g2, rel1, rx, q⟩ => ?_
    have q := okG.bind (T := TPs X.K) q
    refine ⟨F1, env1, rel1, q.imp fun y H2 ⟨F2, env2, dy, k1, k2, rel2, ry, q⟩ => ?_⟩
    exact q _ F2 H2 Gr.refl rel2 ⟨_, _, rfl, RP.mono rx k1 k2, ry⟩
def mTup (f : M (List D)) : M Sv := fun env => (f env).bind fun ds env => if ds.length ≤ 100000 then .ok (.d (.tup ds)) env else .bad
def mLst (f : M (List D)) : M Sv := fun env => (f env).bind fun ds env => if ds.length ≤ 100000 then .ok (.l ds) env else .bad
theorem pd_tup {f : M (List D)} {k : Nat} (h : PFs X S W es f) : PD X S W (.Tuple es k pos) (mTup f) := PE.imp (pe_tup h) fun σ H Q q => by
  obtain ⟨F, ef, q⟩ := rd_bind (T := TFs X.K) q
  refine rd_imp q fun xs H1 ⟨F1, env1, ds, g1, g2, rel1, rx, q⟩ => ?_
  have rx : Rs X.K F1 ds xs := rx
  dsimp only at q
  by_cases hl : ds.length ≤ 100000
  · rw [if_pos hl] at q
    refine ⟨sz_of (by rw [rx.length]; exact hl), fun p hp => ?_⟩
    have n := New.data (o := .tup xs) rel1.ex hp
    exact q _ _ _ (n.gr rel1).1 (n.gr rel1).2 (by show R _ _ _ _; simp only [R]; exact ⟨p, xs, rfl, upd_same, rx.mono n.f⟩)
  · rw [if_neg hl] at q; exact q.elim
theorem pd_lst {f : M (List D)} (h : PFs X S W es f) : PD X S W (.List es pos) (mLst f) := PE.imp (pe_lst h) fun σ H Q q => by
  obtain ⟨F, ef, q⟩ := rd_bind (T := TFs X.K) q
  refine rd_imp q fun xs H1 ⟨F1, env1, ds, g1, g2, rel1, rx, q⟩ => ?_
  have rx : Rs X.K F1 ds xs := rx
  dsimp only at q
  by_cases hl : ds.length ≤ 100000
  · rw [if_pos hl] at q
    refine ⟨sz_of (by rw [rx.length]; exact hl), fun p hp => ?_⟩
    have n := New.fresh (o := .lst xs) rel1.ex hp
    exact q _ _ _ (n.gr rel1).1 (n.gr rel1).2 ⟨p, xs, rfl, hp, fresh_back rel1.ex hp, upd_same, rx⟩
  · rw [if_neg hl] at q; exact q.elim
theorem rd_cl {σ : L2.St} {H : Hp} {Q : VK} {r : List V → Hp → VK → Prop} {o : List D → Option Sv} {f : M (List D)} (hs : ClS X.K r o) (q : rd X.K S W (TV X.K) (mCl o f) σ H Q) : tCB r (rd X.K S W (TPs X.K) f) σ H Q := by
  obtain ⟨F, ef, q⟩ := rd_bind (T := TPs X.K) q
  refine rd_imp q fun x H1 ⟨F1, env1, dx, g1, g2, rel1, rx, q⟩ => ?_
  dsimp only at q
  cases h : o dx with
  | none => rw [h] at q; exact q.elim
  | some sv =>
    rw [h] at q
    exact hs F1 H1 x dx sv rel1.ex rx h Q fun v F' H' n rv => q v F' H' (n.gr rel1).1 (n.gr rel1).2 rv
theorem pd_callB {id : String} {x : Str} {p : Pos} {r : List V → Hp → VK → Prop} {o : List D → Option Sv} {f : M (List D)} (hc : CallR X (.builtin id) r) (hs : ClS X.K r o) (hg : Gl X x) (hm : X.mg x = none) (hv : bootBuiltins x = some (.builtin id)) (ha : PPs X S W (e :: es) f) (hn : x ≠ "__name__" := by decide) (hdb : (x == ("__debug__" : Str)) = false := by decide)
    (he : starEach (e :: es) X.env = (false, eval e X.env) :: starEach es X.env := by rfl) (hpl : (backTo pos (starEach es X.env)).any (·.1) = false := by rfl) : PD X S W (.Call (.Name x p) (e :: es) [] pos) (mCl o f) :=
  PE.imp (pe_callB hc hg hm hv ha hn hdb he hpl) fun _ _ _ q => rd_cl hs q
theorem pd_callTy {T : String} {x : Str} {p : Pos} {r : List V → Hp → VK → Prop} {o : List D → Option Sv} {f : M (List D)} (hc : CallR X (.type T) r) (hs : ClS X.K r o) (hg : Gl X x) (hm : X.mg x = none) (hv : bootBuiltins x = some (.type T)) (ha : PPs X S W (e :: es) f) (hn : x ≠ "__name__" := by decide) (hdb : (x == ("__debug__" : Str)) = false := by decide)
    (he : starEach (e :: es) X.env = (false, eval e X.env) :: starEach es X.env := by rfl) (hpl : (backTo pos (starEach es X.env)).any (·.1) = false := by rfl) : PD X S W (.Call (.Name x p) (e :: es) [] pos) (mCl o f) :=
  PE.imp (pe_callTy hc hg hm hv ha hn hdb he hpl) fun _ _ _ q => rd_cl hs q
theorem pd_callBf {id : String} {x : Str} {p : Pos} {r : List V → Hp → VK → Prop} {o : List D → Option Sv} {f : M (List D)} (hc : CallR X (.builtin id) r) (hs : ClS X.K r o) (hg : Gl X x) (hm : X.mg x = some (.builtin id)) (ha : PPs X S W (e :: es) f) (hdb : (x == ("__debug__" : Str)) = false := by decide)
    (he : starEach (e :: es) X.env = (false, eval e X.env) :: starEach es X.env := by rfl) (hpl : (backTo pos (starEach es X.env)).any (·.1) = false := by rfl) : PD X S W (.Call (.Name x p) (e :: es) [] pos) (mCl o f) :=
  PE.imp (pe_callBfun hc hg hm ha hdb he hpl) fun _ _ _ q => rd_cl hs q
end
end Iv

set_option Elab.async false
set_option linter.all false
set_option maxRecDepth 100000
/-! The operations on data, one function each, and that the rules yield them. -/
namespace Iv
open PySem PySem.Spec PyProof.Rows L2 Evl

section
variable {K : PySem.W.Frag} {F H F' H' B : Hp} {x y v : V}
theorem RP.int {i : Int} (h : RP K F H (.int i) v) : v = .int i := by
  rcases h with h | ⟨_, _, _, e, _⟩ | ⟨_, _, _, _, e, _⟩
  · simpa only [R] using h
  · cases e
  · cases e
theorem RP.bl {i : Bool} (h : RP K F H (.bl i) v) : v = .bl i := by
  rcases h with h | ⟨_, _, _, e, _⟩ | ⟨_, _, _, _, e, _⟩
  · simpa only [R] using h
  · cases e
  · cases e
theorem RP.str {i : Str} (h : RP K F H (.str i) v) : v = .str i := by
  rcases h with h | ⟨_, _, _, e, _⟩ | ⟨_, _, _, _, e, _⟩
  · simpa only [R] using h
  · cases e
  · cases e
theorem RP.ty {i : String} (h : RP K F H (.ty i) v) : v = .ty i := by
  rcases h with h | ⟨_, _, _, e, _⟩ | ⟨_, _, _, _, e, _⟩
  · simpa only [R] using h
  · cases e
  · cases e
theorem RP.non (h : RP K F H .non v) : v = .non := by
  rcases h with h | ⟨_, _, _, e, _⟩ | ⟨_, _, _, _, e, _⟩
  · simpa only [R] using h
  · cases e
  · cases e
theorem RP.tup {l : List D} (h : RP K F H (.tup l) v) : ∃ p vs, v = .ref p ∧ F p = some (.tup vs) ∧ Rs K F l vs := by
  rcases h with h | ⟨_, _, _, e, _⟩ | ⟨_, _, _, _, e, _⟩
  · simp only [R] at h; exact h
  · cases e
  · cases e
theorem RP.lst {l : List D} (e : Ex F H) (h : RP K F H (.lst l) v) : ∃ p vs, v = .ref p ∧ H p = some (.lst vs) ∧ Rs K F l vs := by
  rcases h with h | ⟨_, p, vs, q, e1, e2, e3⟩ | ⟨_, _, _, _, q, _⟩
  · simp only [R] at h
    obtain ⟨p, vs, e1, e2, e3⟩ := h
    exact ⟨p, vs, e1, e p _ e2, e3⟩
  · cases q; exact ⟨p, vs, e1, e2, e3⟩
  · cases q
theorem RP.scr {l : List Int} (e : Ex F H) (h : RP K F H (.scr l) v) : ∃ p, v = .ref p ∧ SqL K H p (l.map V.int) := by
  rcases h with h | ⟨_, _, _, q, _⟩ | ⟨_, _, _, _, q, _⟩
  · simp only [R] at h
    obtain ⟨p, e1, e2⟩ := h
    exact ⟨p, e1, ex_l e e2⟩
  · cases q
  · cases q
theorem RP.dct {ks : List Key} {ds : List D} (e : Ex F H) (h : RP K F H (.dct ks ds) v) : ∃ p vs, v = .ref p ∧ H p = some (.dK (ks.zip vs)) ∧ vs.length = ks.length ∧ Rs K F ds vs := by
  rcases h with h | ⟨_, p, vs, q, e1, e2, e3⟩ | ⟨_, _, p, vs, q, e1, e2, e3, e4⟩
  · simp only [R] at h
    obtain ⟨p, vs, e1, e2, e3, e4⟩ := h
    exact ⟨p, vs, e1, e p _ e2, e3, e4⟩
  · cases q
  · cases q; exact ⟨p, vs, e1, e2, e3, e4⟩
theorem RPs.one {d : D} {vs : List V} (h : RPs K F H [d] vs) : ∃ v, vs = [v] ∧ RP K F H d v := by
  obtain ⟨v, r, rfl, q, e⟩ := h
  have e : r = [] := e
  subst e
  exact ⟨v, rfl, q⟩
theorem RPs.two {d d' : D} {vs : List V} (h : RPs K F H [d, d'] vs) : ∃ v v', vs = [v, v'] ∧ RP K F H d v ∧ RP K F H d' v' := by
  obtain ⟨v, r, rfl, q, h⟩ := h
  obtain ⟨v', e, q'⟩ := RPs.one h
  subst e
  exact ⟨v, v', rfl, q, q'⟩
theorem RVd {d : D} (h : R K F' d v) : RV K B F' H' (.d d) v := h
theorem Ri {i : Int} : R K F (.int i) (.int i) := by simp only [R]
theorem Rb {i : Bool} : R K F (.bl i) (.bl i) := by simp only [R]
theorem Rstr {i : Str} : R K F (.str i) (.str i) := by simp only [R]

/-! ### two ints -/
def oI (C : Int → Int → Bool) (g : Int → Int → Int) : D → D → Option Sv
  | .int i, .int j => if C i j then some (.d (.int (g i j))) else none
  | _, _ => none
theorem op_I {C : Int → Int → Prop} {Cb : Int → Int → Bool} {g : Int → Int → Int} (hc : ∀ i j, Cb i j = true → C i j) : OpS K (rI C fun i j => .int (g i j)) (oI Cb g) := fun F H x y dx dy sv ef rx ry ho Q q => by
  unfold oI at ho
  split at ho
  · split at ho
    · rename_i i j hC
      cases ho
      exact ⟨i, j, rx.int, ry.int, hc i j hC, q _ F H (New.refl ef) (RVd Ri)⟩
    · cases ho
  · cases ho
def oB (p : Int → Int → Bool) : D → D → Option Sv
  | .int i, .int j => some (.d (.bl (p i j)))
  | _, _ => none
theorem op_B {p : Int → Int → Bool} : OpS K (rI0 fun i j => .bl (p i j)) (oB p) := fun F H x y dx dy sv ef rx ry ho Q q => by
  unfold oB at ho
  split at ho
  · rename_i i j
    cases ho
    exact ⟨i, j, rx.int, ry.int, q _ F H (New.refl ef) (RVd Rb)⟩
  · cases ho
def yes : Int → Int → Bool := fun _ _ => true
/-- + of intsOf, of lists, of tuples, of texts -/
def oAdd : D → D → Option Sv
  | .int i, .int j => some (.d (.int (i + j)))
  | .lst a, .lst b => if a.length + b.length ≤ 100000 then some (.l (a ++ b)) else none
  | .tup a, .tup b => if a.length + b.length ≤ 100000 ∧ a ≠ [] then some (.d (.tup (a ++ b))) else none
  | .str a, .str b => if a.length + b.length ≤ 100000 then some (.d (.str (a ++ b))) else none
  | _, _ => none
def rAddI : R2 := rI0 fun i j => .int (i + j)
def rAddS : R2 := fun x y H Q => ∃ i j, x = .str i ∧ y = .str j ∧ i.length + j.length ≤ sizeLine ∧ Q (.str (i ++ j)) H
def rAddA (K : PySem.W.Frag) : R2 := fun x y H Q => rAddI x y H Q ∨ (rCat x y H Q ∨ (rCatT K x y H Q ∨ rAddS x y H Q))
theorem op_addA {X : Cx} : OpR X (binaryOp .Add) (rAddA X.K) := OpR.or op_add (OpR.or op_cat (OpR.or op_catT op_add_str))
theorem os_add : OpS K (rAddA K) oAdd := fun F H x y dx dy sv ef rx ry ho Q q => by
  unfold oAdd at ho
  split at ho
  · rename_i i j
    cases ho
    exact .inl ⟨i, j, rx.int, ry.int, q _ F H (New.refl ef) (RVd Ri)⟩
  · rename_i a b
    split at ho
    · rename_i hl
      cases ho
      obtain ⟨p, vs, e1, e2, e3⟩ := rx.lst ef
      obtain ⟨p', vs', k1, k2, k3⟩ := ry.lst ef
      refine .inr (.inl ⟨p, p', vs, vs', e1, k1, e2, k2, sz_of (by rw [e3.length, k3.length]; exact hl), fun l hl => ?_⟩)
      exact q _ F _ (New.fresh ef hl) ⟨l, _, rfl, hl, fresh_back ef hl, upd_same, e3.append k3⟩
    · cases ho
  · rename_i a b
    split at ho
    · rename_i hl
      cases ho
      obtain ⟨p, vs, e1, e2, e3⟩ := rx.tup
      obtain ⟨p', vs', k1, k2, k3⟩ := ry.tup
      have nv : vs ≠ [] := fun z => hl.2 (by
        have := e3.length
        rw [z] at this
        exact List.length_eq_zero_iff.mp this.symm)
      refine .inr (.inr (.inl ⟨p, p', vs, vs', e1, k1, st_of (ef p _ e2), st_of (ef p' _ k2), nv, sz_of (by rw [e3.length, k3.length]; exact hl.1), fun z => ?_, fun _ l hl => ?_⟩))
      · subst z
        have hb : b = [] := List.length_eq_zero_iff.mp k3.length.symm
        subst hb
        rw [List.append_nil] at q
        exact q _ F H (New.refl ef) (RVd (by simp only [R]; exact ⟨p, vs, rfl, e2, e3⟩))
      · have n := New.data (o := .tup (vs ++ vs')) ef hl
        exact q _ _ _ n (RVd (by simp only [R]; exact ⟨l, _, rfl, upd_same, (e3.append k3).mono n.f⟩))
    · cases ho
  · rename_i a b
    split at ho
    · rename_i hl
      cases ho
      exact .inr (.inr (.inr ⟨a, b, rx.str, ry.str, sz_of hl, q _ F H (New.refl ef) (RVd Rstr)⟩))
    · cases ho
  · cases ho
def mulOk (i j : Int) : Bool := decide (i.natAbs.log2 + j.natAbs.log2 < 130000000)
theorem mulOk_ok {i j : Int} (h : mulOk i j = true) : IntMulOk i j := by
  have h := of_decide_eq_true h
  have key : ∀ x : Int, Builtin.Int.intBits x ≤ x.natAbs.log2 + 1 := fun x => by
    unfold Builtin.Int.intBits; split <;> omega
  intro z
  have z2 := of_decide_eq_true (Bool.and_eq_true_iff.mp z).2
  have b : bitsLine = 134217728 := by decide
  have k1 := key i
  have k2 := key j
  omega
theorem op_mulA {X : Cx} : OpR X (binaryOp .Mult) (rI IntMulOk fun i j => .int (i * j)) := opI fun _ _ _ _ _ _ _ hc q => mul_int q hc
def oMul : D → D → Option Sv := oI mulOk fun i j => i * j
def oSub : D → D → Option Sv := oI yes fun i j => i - j
theorem os_mul : OpS K (rI IntMulOk fun i j => .int (i * j)) oMul := op_I fun _ _ h => mulOk_ok h
theorem os_sub : OpS K (rI0 fun i j => .int (i - j)) oSub := fun F H x y dx dy sv ef rx ry ho Q q => by
  obtain ⟨i, j, h1, h2, _, h⟩ := op_I (K := K) (C := fun _ _ => True) (Cb := yes) (g := fun i j => i - j) (fun _ _ _ => True.intro) F H x y dx dy sv ef rx ry ho Q q
  exact ⟨i, j, h1, h2, h⟩
def nz (_ j : Int) : Bool := decide (j ≠ 0)
def oMod : D → D → Option Sv := oI nz fun i j => i.fmod j
theorem os_mod : OpS K (rI (fun _ j => j ≠ 0) fun i j => .int (i.fmod j)) oMod := op_I fun _ _ h => of_decide_eq_true h
def powOk (i j : Int) : Bool := decide (0 ≤ j) && decide (j ≤ 1000000) && decide (i.natAbs < 2 ^ 64)
def oPow : D → D → Option Sv := oI powOk fun i j => i ^ j.toNat
theorem os_pow : OpS K (rI CPow fun i j => .int (i ^ j.toNat)) oPow := op_I fun _ _ h => by
  have h := Bool.and_eq_true_iff.mp h
  have h1 := Bool.and_eq_true_iff.mp h.1
  exact ⟨of_decide_eq_true h1.1, of_decide_eq_true h1.2, of_decide_eq_true h.2⟩
/-! ### comparisons -/
def oLt : D → D → Option Sv := oB fun i j => decide (i < j)
def oLe : D → D → Option Sv := oB fun i j => decide (i ≤ j)
def oGt : D → D → Option Sv := oB fun i j => decide (j < i)
def oGe : D → D → Option Sv := oB fun i j => decide (j ≤ i)
theorem os_lt : OpS K (rI0 fun i j => .bl (decide (i < j))) oLt := op_B
theorem os_le : OpS K (rI0 fun i j => .bl (decide (i ≤ j))) oLe := op_B
theorem os_gt : OpS K (rI0 fun i j => .bl (decide (j < i))) oGt := op_B
theorem os_ge : OpS K (rI0 fun i j => .bl (decide (j ≤ i))) oGe := op_B
/-- == of scalars -/
def eqD : D → D → Option Bool
  | .int i, .int j => some (i == j)
  | .bl i, .bl j => some (i == j)
  | .str i, .str j => some (i == j)
  | .non, .non => some true
  | .non, .int _ => some false | .int _, .non => some false
  | .non, .bl _ => some false | .bl _, .non => some false
  | .non, .str _ => some false | .str _, .non => some false
  | .int _, .str _ => some false | .str _, .int _ => some false
  | .bl _, .str _ => some false | .str _, .bl _ => some false
  | _, _ => none
def oEq (a b : D) : Option Sv := (eqD a b).map fun c => .d (.bl c)
def oNe (a b : D) : Option Sv := (eqD a b).map fun c => .d (.bl (!c))
theorem eqD_ok {dx dy : D} {c : Bool} (rx : RP K F H dx x) (ry : RP K F H dy y) (h : eqD dx dy = some c) : scal x y = true ∧ decide (x = y) = c := by
  unfold eqD at h
  split at h
  · rw [rx.int, ry.int]; cases h; exact ⟨rfl, dec_int⟩
  · rw [rx.bl, ry.bl]; cases h; exact ⟨rfl, dec_bl⟩
  · rw [rx.str, ry.str]; cases h; exact ⟨rfl, dec_str⟩
  · rw [rx.non, ry.non]; cases h; exact ⟨rfl, rfl⟩
  · rw [rx.non, ry.int]; cases h; exact ⟨rfl, rfl⟩
  · rw [rx.int, ry.non]; cases h; exact ⟨rfl, rfl⟩
  · rw [rx.non, ry.bl]; cases h; exact ⟨rfl, rfl⟩
  · rw [rx.bl, ry.non]; cases h; exact ⟨rfl, rfl⟩
  · rw [rx.non, ry.str]; cases h; exact ⟨rfl, rfl⟩
  · rw [rx.str, ry.non]; cases h; exact ⟨rfl, rfl⟩
  · rw [rx.int, ry.str]; cases h; exact ⟨rfl, rfl⟩
  · rw [rx.str, ry.int]; cases h; exact ⟨rfl, rfl⟩
  · rw [rx.bl, ry.str]; cases h; exact ⟨rfl, rfl⟩
  · rw [rx.str, ry.bl]; cases h; exact ⟨rfl, rfl⟩
  · cases h
theorem os_eq : OpS K rEq oEq := fun F H x y dx dy sv ef rx ry ho Q q => by
  unfold oEq at ho
  obtain ⟨c, h, e⟩ := Option.map_eq_some_iff.mp ho
  subst e
  obtain ⟨h1, h2⟩ := eqD_ok rx ry h
  refine ⟨h1, ?_⟩
  rw [h2]
  exact q _ F H (New.refl ef) (RVd Rb)
theorem os_ne : OpS K rNe oNe := fun F H x y dx dy sv ef rx ry ho Q q => by
  unfold oNe at ho
  obtain ⟨c, h, e⟩ := Option.map_eq_some_iff.mp ho
  subst e
  obtain ⟨h1, h2⟩ := eqD_ok rx ry h
  refine ⟨h1, ?_⟩
  rw [h2]
  exact q _ F H (New.refl ef) (RVd Rb)
/-- is None, is not None -/
def isN : D → Bool
  | .non => true
  | _ => false
def oIs (a b : D) : Option Sv := match b with
  | .non => some (.d (.bl (isN a)))
  | _ => none
def oIsNot (a b : D) : Option Sv := match b with
  | .non => some (.d (.bl (!isN a)))
  | _ => none
theorem isN_ok {d : D} (ef : Ex F H) (r : RP K F H d x) : decide (x = V.non) = isN d := by
  cases d with
  | non => rw [r.non]; rfl
  | bl b => rw [r.bl]; rfl
  | int b => rw [r.int]; rfl
  | str b => rw [r.str]; rfl
  | ty b => rw [r.ty]; rfl
  | tup b => obtain ⟨p, vs, e, _⟩ := r.tup; rw [e]; rfl
  | lst b => obtain ⟨p, vs, e, _⟩ := r.lst ef; rw [e]; rfl
  | scr b => obtain ⟨p, e, _⟩ := r.scr ef; rw [e]; rfl
  | dct b c => obtain ⟨p, vs, e, _⟩ := r.dct ef; rw [e]; rfl
theorem os_is : OpS K (fun x y H Q => y = .non ∧ Q (.bl (decide (x = .non))) H) oIs := fun F H x y dx dy sv ef rx ry ho Q q => by
  unfold oIs at ho
  split at ho
  · cases ho
    refine ⟨ry.non, ?_⟩
    rw [isN_ok ef rx]
    exact q _ F H (New.refl ef) (RVd Rb)
  · cases ho
theorem os_isnot : OpS K (fun x y H Q => y = .non ∧ Q (.bl (!decide (x = .non))) H) oIsNot := fun F H x y dx dy sv ef rx ry ho Q q => by
  unfold oIsNot at ho
  split at ho
  · cases ho
    refine ⟨ry.non, ?_⟩
    rw [isN_ok ef rx]
    exact q _ F H (New.refl ef) (RVd Rb)
  · cases ho
/-! ### places -/
def oIx : D → D → Option Sv
  | .lst l, .int i => (atI l i).map Sv.d
  | .tup l, .int i => (atI l i).map Sv.d
  | .scr l, .int i => (atI l i).map fun n => Sv.d (.int n)
  | .str s, .int i => if s.length ≤ 100000 then (atI s.cps.toList i).map fun c => Sv.d (.str ⟨#[c]⟩) else none
  | _, _ => none
theorem atI_len {α β : Type} {xs : List α} {ys : List β} (h : xs.length = ys.length) {i : Int} {j : Nat} (e : ixN xs.length i = some j) : ixN ys.length i = some j := by rw [← h]; exact e
theorem Rs.atI {l : List D} {vs : List V} {i : Int} {d : D} (r : Rs K F l vs) (h : L2.atI l i = some d) : ∃ v, L2.atI vs i = some v ∧ R K F d v := by
  unfold L2.atI at h ⊢
  cases e : ixN l.length i with
  | none => rw [e] at h; cases h
  | some j =>
    rw [e] at h
    have h : l[j]? = some d := h
    obtain ⟨v, q1, q2⟩ := r.get' h
    refine ⟨v, ?_, q2⟩
    rw [r.length, e]
    exact q1
theorem atI_map {α β : Type} {f : α → β} {l : List α} {i : Int} {x : α} (h : L2.atI l i = some x) : L2.atI (l.map f) i = some (f x) := by
  unfold L2.atI at h ⊢
  cases e : ixN l.length i with
  | none => rw [e] at h; cases h
  | some j =>
    rw [e] at h
    have h : l[j]? = some x := h
    rw [List.length_map, e]
    show (l.map f)[j]? = _
    rw [List.getElem?_map, h]
    rfl
theorem os_ix : OpS K (rIx K) oIx := fun F H x y dx dy sv ef rx ry ho Q q => by
  unfold oIx at ho
  split at ho
  · rename_i l i
    obtain ⟨d, h, e⟩ := Option.map_eq_some_iff.mp ho
    subst e
    obtain ⟨p, vs, e1, e2, e3⟩ := rx.lst ef
    obtain ⟨v, q1, q2⟩ := e3.atI h
    exact .inl ⟨p, vs, i, v, e1, ry.int, sq_of e2, q1, q _ F H (New.refl ef) (RVd q2)⟩
  · rename_i l i
    obtain ⟨d, h, e⟩ := Option.map_eq_some_iff.mp ho
    subst e
    obtain ⟨p, vs, e1, e2, e3⟩ := rx.tup
    obtain ⟨v, q1, q2⟩ := e3.atI h
    exact .inr (.inl ⟨p, vs, i, v, e1, ry.int, st_of (ef p _ e2), q1, q _ F H (New.refl ef) (RVd q2)⟩)
  · rename_i l i
    obtain ⟨d, h, e⟩ := Option.map_eq_some_iff.mp ho
    subst e
    obtain ⟨p, e1, e2⟩ := rx.scr ef
    exact .inl ⟨p, _, i, _, e1, ry.int, e2, atI_map h, q _ F H (New.refl ef) (RVd Ri)⟩
  · rename_i s i
    split at ho
    · rename_i hl
      obtain ⟨d, h, e⟩ := Option.map_eq_some_iff.mp ho
      subst e
      exact .inr (.inr ⟨s, i, d, rx.str, ry.int, sz_of hl, h, q _ F H (New.refl ef) (RVd Rstr)⟩)
    · cases ho
  · cases ho
def oNeg : D → Option Sv
  | .int i => some (.d (.int (-i)))
  | _ => none
theorem us_neg : UnS K (rU fun i => .int (-i)) oNeg := fun F H x dx sv ef rx ho Q q => by
  unfold oNeg at ho
  split at ho
  · cases ho
    exact ⟨_, rx.int, q _ F H (New.refl ef) (RVd Ri)⟩
  · cases ho

/-! ### built-in functions -/
def cLen : List D → Option Sv
  | [.lst l] => some (.d (.int l.length))
  | [.tup l] => some (.d (.int l.length))
  | [.scr l] => some (.d (.int l.length))
  | [.str s] => if s.length ≤ 100000 then some (.d (.int s.length)) else none
  | _ => none
theorem cs_len : ClS K (fun xs H Q => ∃ x n, xs = [x] ∧ LenV K x H n ∧ Q (.int n) H) cLen := fun F H xs ds sv ef rx ho Q q => by
  unfold cLen at ho
  split at ho
  · cases ho
    obtain ⟨v, rfl, r⟩ := rx.one
    obtain ⟨p, vs, e1, e2, e3⟩ := r.lst ef
    subst e1
    refine ⟨_, vs.length, rfl, .inl ⟨vs, sq_of e2, rfl⟩, ?_⟩
    rw [e3.length]
    exact q _ F H (New.refl ef) (RVd Ri)
  · cases ho
    obtain ⟨v, rfl, r⟩ := rx.one
    obtain ⟨p, vs, e1, e2, e3⟩ := r.tup
    subst e1
    refine ⟨_, vs.length, rfl, .inr ⟨vs, st_of (ef p _ e2), rfl⟩, ?_⟩
    rw [e3.length]
    exact q _ F H (New.refl ef) (RVd Ri)
  · cases ho
    obtain ⟨v, rfl, r⟩ := rx.one
    obtain ⟨p, e1, e2⟩ := r.scr ef
    subst e1
    refine ⟨_, _, rfl, .inl ⟨_, e2, rfl⟩, ?_⟩
    rw [List.length_map]
    exact q _ F H (New.refl ef) (RVd Ri)
  · split at ho
    · rename_i hl
      cases ho
      obtain ⟨v, rfl, r⟩ := rx.one
      rw [r.str]
      exact ⟨_, _, rfl, ⟨sz_of hl, rfl⟩, q _ F H (New.refl ef) (RVd Ri)⟩
    · cases ho
  · cases ho
def cAbs : List D → Option Sv
  | [.int i] => some (.d (.int (i.natAbs : Int)))
  | _ => none
theorem cs_abs : ClS K (fun xs H Q => ∃ i, xs = [.int i] ∧ Q (.int (if i < 0 then -i else i)) H) cAbs := fun F H xs ds sv ef rx ho Q q => by
  unfold cAbs at ho
  split at ho
  · rename_i i
    cases ho
    obtain ⟨v, rfl, r⟩ := rx.one
    rw [r.int]
    refine ⟨i, rfl, ?_⟩
    have e : (if i < 0 then -i else i) = (i.natAbs : Int) := by split <;> omega
    rw [e]
    exact q _ F H (New.refl ef) (RVd Ri)
  · cases ho
def cInt : List D → Option Sv
  | [.int i] => some (.d (.int i))
  | [.bl b] => some (.d (.int (if b then 1 else 0)))
  | _ => none
theorem cs_int : ClS K (fun xs H Q => (∃ i, xs = [.int i] ∧ Q (.int i) H) ∨ ∃ k, xs = [.bl k] ∧ Q (.int (if k then 1 else 0)) H) cInt := fun F H xs ds sv ef rx ho Q q => by
  unfold cInt at ho
  split at ho
  · cases ho
    obtain ⟨v, rfl, r⟩ := rx.one
    rw [r.int]
    exact .inl ⟨_, rfl, q _ F H (New.refl ef) (RVd Ri)⟩
  · cases ho
    obtain ⟨v, rfl, r⟩ := rx.one
    rw [r.bl]
    exact .inr ⟨_, rfl, q _ F H (New.refl ef) (RVd Ri)⟩
  · cases ho
def cMax2 : List D → Option Sv
  | [.int i, .int j] => some (.d (.int (if j > i then j else i)))
  | _ => none
theorem cs_max2 : ClS K (fun xs H Q => ∃ i j, xs = [.int i, .int j] ∧ Q (.int (if j > i then j else i)) H) cMax2 := fun F H xs ds sv ef rx ho Q q => by
  unfold cMax2 at ho
  split at ho
  · cases ho
    obtain ⟨v, w, rfl, r, r'⟩ := rx.two
    rw [r.int, r'.int]
    exact ⟨_, _, rfl, q _ F H (New.refl ef) (RVd Ri)⟩
  · cases ho
def cMin2 : List D → Option Sv
  | [.int i, .int j] => some (.d (.int (if j < i then j else i)))
  | _ => none
theorem cs_min2 : ClS K (fun xs H Q => ∃ i j, xs = [.int i, .int j] ∧ Q (.int (if j < i then j else i)) H) cMin2 := fun F H xs ds sv ef rx ho Q q => by
  unfold cMin2 at ho
  split at ho
  · cases ho
    obtain ⟨v, w, rfl, r, r'⟩ := rx.two
    rw [r.int, r'.int]
    exact ⟨_, _, rfl, q _ F H (New.refl ef) (RVd Ri)⟩
  · cases ho
def cGcd : List D → Option Sv
  | [.int i, .int j] => some (.d (.int (Nat.gcd i.natAbs j.natAbs : Nat)))
  | _ => none
theorem cs_gcd : ClS K rGcd cGcd := fun F H xs ds sv ef rx ho Q q => by
  unfold cGcd at ho
  split at ho
  · cases ho
    obtain ⟨v, w, rfl, r, r'⟩ := rx.two
    rw [r.int, r'.int]
    exact ⟨_, _, rfl, q _ F H (New.refl ef) (RVd Ri)⟩
  · cases ho
/-- the items of a sequence -/
def cList : List D → Option Sv
  | [.lst l] => some (.l l)
  | [.tup l] => some (.l l)
  | [.scr l] => some (.l (l.map D.int))
  | _ => none
theorem cs_list : ClS K (fun xs H Q => ∃ p ys, xs = [.ref p] ∧ (SqL K H p ys ∨ SqT K H p ys) ∧ ∀ l, H l = none → Q (.ref l) (upd H l (.lst ys))) cList := fun F H xs ds sv ef rx ho Q q => by
  unfold cList at ho
  split at ho
  · cases ho
    obtain ⟨v, rfl, r⟩ := rx.one
    obtain ⟨p, vs, e1, e2, e3⟩ := r.lst ef
    subst e1
    exact ⟨p, vs, rfl, .inl (sq_of e2), fun l hl => q _ F _ (New.fresh ef hl) ⟨l, _, rfl, hl, fresh_back ef hl, upd_same, e3⟩⟩
  · cases ho
    obtain ⟨v, rfl, r⟩ := rx.one
    obtain ⟨p, vs, e1, e2, e3⟩ := r.tup
    subst e1
    exact ⟨p, vs, rfl, .inr (st_of (ef p _ e2)), fun l hl => q _ F _ (New.fresh ef hl) ⟨l, _, rfl, hl, fresh_back ef hl, upd_same, e3⟩⟩
  · cases ho
    obtain ⟨v, rfl, r⟩ := rx.one
    obtain ⟨p, e1, e2⟩ := r.scr ef
    subst e1
    exact ⟨p, _, rfl, .inl e2, fun l hl => q _ F _ (New.fresh ef hl) ⟨l, _, rfl, hl, fresh_back ef hl, upd_same, Rs.of_map (fun _ => Ri) _⟩⟩
  · cases ho
def cTuple : List D → Option Sv
  | [.lst l] => some (.d (.tup l))
  | [.tup l] => some (.d (.tup l))
  | _ => none
theorem cs_tuple : ClS K (fun xs H Q => ∃ p ys, xs = [.ref p] ∧ ((SqL K H p ys ∧ ∀ l, H l = none → Q (.ref l) (upd H l (.tup ys))) ∨ (SqT K H p ys ∧ Q (.ref p) H))) cTuple := fun F H xs ds sv ef rx ho Q q => by
  unfold cTuple at ho
  split at ho
  · cases ho
    obtain ⟨v, rfl, r⟩ := rx.one
    obtain ⟨p, vs, e1, e2, e3⟩ := r.lst ef
    subst e1
    refine ⟨p, vs, rfl, .inl ⟨sq_of e2, fun l hl => ?_⟩⟩
    have n := New.data (o := .tup vs) ef hl
    exact q _ _ _ n (RVd (by simp only [R]; exact ⟨l, _, rfl, upd_same, e3.mono n.f⟩))
  · cases ho
    obtain ⟨v, rfl, r⟩ := rx.one
    obtain ⟨p, vs, e1, e2, e3⟩ := r.tup
    subst e1
    exact ⟨p, vs, rfl, .inr ⟨st_of (ef p _ e2), q _ F H (New.refl ef) (RVd (by simp only [R]; exact ⟨p, vs, rfl, e2, e3⟩))⟩⟩
  · cases ho
/-- the whole numbers, the truths of a list -/
def intsOf : List D → Option (List Int)
  | [] => some []
  | .int i :: r => (intsOf r).map fun l => i :: l
  | _ => none
def bools : List D → Option (List Bool)
  | [] => some []
  | .bl i :: r => (bools r).map fun l => i :: l
  | _ => none
theorem ints_eq : ∀ {l : List D} {ns : List Int}, intsOf l = some ns → l = ns.map D.int
  | [], _, h => by cases h; rfl
  | .int i :: r, _, h => by
    unfold intsOf at h
    obtain ⟨l, q, e⟩ := Option.map_eq_some_iff.mp h
    subst e
    rw [ints_eq q]; rfl
  | .non :: _, _, h => by cases h
  | .bl _ :: _, _, h => by cases h
  | .str _ :: _, _, h => by cases h
  | .ty _ :: _, _, h => by cases h
  | .tup _ :: _, _, h => by cases h
  | .lst _ :: _, _, h => by cases h
  | .scr _ :: _, _, h => by cases h
  | .dct _ _ :: _, _, h => by cases h
theorem bools_eq : ∀ {l : List D} {ns : List Bool}, bools l = some ns → l = ns.map D.bl
  | [], _, h => by cases h; rfl
  | .bl i :: r, _, h => by
    unfold bools at h
    obtain ⟨l, q, e⟩ := Option.map_eq_some_iff.mp h
    subst e
    rw [bools_eq q]; rfl
  | .non :: _, _, h => by cases h
  | .int _ :: _, _, h => by cases h
  | .str _ :: _, _, h => by cases h
  | .ty _ :: _, _, h => by cases h
  | .tup _ :: _, _, h => by cases h
  | .lst _ :: _, _, h => by cases h
  | .scr _ :: _, _, h => by cases h
  | .dct _ _ :: _, _, h => by cases h
theorem ints_map : ∀ ns : List Int, intsOf (ns.map D.int) = some ns
  | [] => rfl
  | n :: ns => by show (intsOf (ns.map D.int)).map _ = _; rw [ints_map ns]; rfl
theorem bools_map : ∀ ns : List Bool, bools (ns.map D.bl) = some ns
  | [] => rfl
  | n :: ns => by show (bools (ns.map D.bl)).map _ = _; rw [bools_map ns]; rfl
def cSum : List D → Option Sv
  | [.lst l] => (intsOf l).map fun ns => .d (.int ns.sum)
  | _ => none
theorem cs_sum : ClS K (rSum K) cSum := fun F H xs ds sv ef rx ho Q q => by
  unfold cSum at ho
  split at ho
  · obtain ⟨ns, h, e⟩ := Option.map_eq_some_iff.mp ho
    subst e
    obtain ⟨v, rfl, r⟩ := rx.one
    obtain ⟨p, vs, e1, e2, e3⟩ := r.lst ef
    subst e1
    rw [ints_eq h] at e3
    rw [Rs.ints e3] at e2
    exact ⟨p, ns, rfl, sq_of e2, q _ F H (New.refl ef) (RVd Ri)⟩
  · cases ho
def cAny : List D → Option Sv
  | [.lst l] => (bools l).map fun ns => .d (.bl (ns.any id))
  | _ => none
def cAll : List D → Option Sv
  | [.lst l] => (bools l).map fun ns => .d (.bl (ns.all id))
  | _ => none
theorem cs_any : ClS K (rAny K) cAny := fun F H xs ds sv ef rx ho Q q => by
  unfold cAny at ho
  split at ho
  · obtain ⟨ns, h, e⟩ := Option.map_eq_some_iff.mp ho
    subst e
    obtain ⟨v, rfl, r⟩ := rx.one
    obtain ⟨p, vs, e1, e2, e3⟩ := r.lst ef
    subst e1
    rw [bools_eq h] at e3
    rw [Rs.bls e3] at e2
    exact ⟨p, ns, rfl, sq_of e2, q _ F H (New.refl ef) (RVd Rb)⟩
  · cases ho
theorem cs_all : ClS K (rAll K) cAll := fun F H xs ds sv ef rx ho Q q => by
  unfold cAll at ho
  split at ho
  · obtain ⟨ns, h, e⟩ := Option.map_eq_some_iff.mp ho
    subst e
    obtain ⟨v, rfl, r⟩ := rx.one
    obtain ⟨p, vs, e1, e2, e3⟩ := r.lst ef
    subst e1
    rw [bools_eq h] at e3
    rw [Rs.bls e3] at e2
    exact ⟨p, ns, rfl, sq_of e2, q _ F H (New.refl ef) (RVd Rb)⟩
  · cases ho
/-- isinstance(x, T) for the built-in types that the text asks of -/
def tyN : D → String
  | .non => "NoneType" | .bl _ => "bool" | .int _ => "int" | .str _ => "str" | .tup _ => "tuple" | .lst _ => "list" | .scr _ => "list" | .dct _ _ => "dict" | .ty _ => "type"
def isTy (a b : String) : Option Bool :=
  if b = "int" then some (a = "int" || a = "bool") else if b = "bool" ∨ b = "str" ∨ b = "tuple" ∨ b = "list" ∨ b = "dict" then some (a = b) else none
def cIsi : List D → Option Sv
  | [.ty _, .ty _] => none
  | [x, .ty b] => (isTy (tyN x) b).map fun c => .d (.bl c)
  | _ => none
theorem ty_of {d : D} (ef : Ex F H) (r : RP K F H d x) (h : ∀ n, d ≠ .ty n) : TyX K H x (.type (tyN d)) := by
  cases d with
  | non => rw [r.non]; exact .base .non
  | bl b => rw [r.bl]; exact .base (.bl b)
  | int b => rw [r.int]; exact .base (.int b)
  | str b => rw [r.str]; exact .base (.str b)
  | ty b => exact absurd rfl (h b)
  | tup b => obtain ⟨p, vs, e, q, _⟩ := r.tup; rw [e]; exact .base (.tup (ef p _ q))
  | lst b => obtain ⟨p, vs, e, q, _⟩ := r.lst ef; rw [e]; exact .base (.lst q)
  | scr b =>
    obtain ⟨p, e, q⟩ := r.scr ef
    rw [e]
    rcases q with (q | ⟨o, q⟩) | ⟨o, its, n, q1, q2, _⟩
    · exact .base (.lst q)
    · exact .base (.frz q)
    · exact .kList q1 q2
  | dct b c => obtain ⟨p, vs, e, q, _⟩ := r.dct ef; rw [e]; exact .base (.dK q)
theorem kit_isTy {a b : String} {c : Bool} (ha : a = "NoneType" ∨ a = "bool" ∨ a = "int" ∨ a = "str" ∨ a = "tuple" ∨ a = "list" ∨ a = "dict") (h : isTy a b = some c) : kitB a b = some c := by
  unfold isTy at h
  split at h
  · rename_i hb
    subst hb
    cases h
    rcases ha with h | h | h | h | h | h | h <;> subst h <;> decide +kernel
  · split at h
    · rename_i hb
      cases h
      rcases hb with hb | hb | hb | hb | hb <;> subst hb <;> rcases ha with h | h | h | h | h | h | h <;> subst h <;> decide +kernel
    · cases h
theorem cs_isi : ClS K (rIsi K) cIsi := fun F H xs ds sv ef rx ho Q q => by
  unfold cIsi at ho
  split at ho
  · cases ho
  · rename_i x b hx
    obtain ⟨c, h, e⟩ := Option.map_eq_some_iff.mp ho
    subst e
    obtain ⟨v, w, rfl, r, r'⟩ := rx.two
    rw [r'.ty]
    have nt : ∀ n, x ≠ .ty n := fun n z => hx n z
    refine ⟨v, .ty b, .type (tyN x), .type b, c, rfl, .ty b, ty_of ef r nt, kit_ty (kit_isTy ?_ h), q _ F H (New.refl ef) (RVd Rb)⟩
    cases x with
    | ty n => exact absurd rfl (nt n)
    | _ => simp [tyN]
  · cases ho
end
end Iv

set_option Elab.async false
set_option linter.all false
set_option maxRecDepth 100000
/-! Tests, slices, calls of the text's own defs, comprehensions. -/
namespace Iv
open PySem PySem.Spec PyProof.Rows L2 Evl

section
variable {X : Cx} {S : Xs} {W : WX} {e a b c : Expr} {es rest : List Expr} {pos : Pos} {σ : L2.St} {H : Hp}
/-! ### tests -/
def mB (f : M Sv) : M Bool := fun env => (f env).bind fun sv env => match sv with
  | .d (.bl b) => .ok b env
  | _ => .bad
def mNotB (f : M Bool) : M Bool := fun env => (f env).bind fun b env => .ok (!b) env
def mAndB (f g : M Bool) : M Bool := fun env => (f env).bind fun b env => if b = true then g env else .ok false env
def mOrB (f g : M Bool) : M Bool := fun env => (f env).bind fun b env => if b = true then .ok true env else g env
def mV (f : M Bool) : M Sv := fun env => (f env).bind fun b env => .ok (.d (.bl b)) env
theorem rd_test {f : M Sv} {Q : Bool → Hp → Prop} (q : rd X.K S W TB (mB f) σ H Q) : rd X.K S W (TV X.K) f σ H fun x H' => ∃ k, x = .bl k ∧ Q k H' := by
  obtain ⟨F, ef, q⟩ := rd_bind (T := TV X.K) q
  refine rd_imp q fun v H1 ⟨F1, env1, sv, g1, g2, rel1, rv, q⟩ => ?_
  cases sv with
  | d x =>
    cases x with
    | bl k =>
      have rv : R X.K F1 (.bl k) v := rv
      simp only [R] at rv
      exact ⟨k, rv, q k F1 H1 Gr.refl rel1 rfl⟩
    | _ => exact q.elim
  | _ => exact q.elim
theorem pb_of {f : M Sv} (h : PD X S W e f) (he : ∀ whole, isTrue e X.env whole = (do let v ← whole; standAt e.pos; holding [v] (truthy v)) := by intro _; rfl) : PB X S W e (mB f) :=
  PT.imp (pt_val h he) fun σ H Q q => rd_test q
theorem pb_cmp {op : CmpOp} {r : R2} {o : D → D → Option Sv} {f g : M D} (ho : OpR X (compareOp op) r) (hs : OpS X.K r o) (hm : behindInMarks op b = false) (ha : PP X S W a f) (hb : PP X S W b g) : PB X S W (.Compare a [op] [b] pos) (mB (mOp o f g)) :=
  PT.imp (pt_cmpR ho ha hb hm) fun σ H Q q => rd_op hs (rd_test q)
theorem pb_not {f : M Bool} (h : PB X S W a f) : PB X S W (.UnaryOp .Not a pos) (mNotB f) := PT.imp (pt_not h) fun σ H Q q => by
  obtain ⟨F, ef, q⟩ := rd_bind (T := TB) q
  refine rd_imp q fun v H1 ⟨F1, env1, b, g1, g2, rel1, rv, q⟩ => ?_
  have rv : b = v := rv
  subst rv
  exact q _ F1 H1 Gr.refl rel1 rfl
def PWb (X : Cx) (S : Xs) (W : WX) (e : Expr) (f : M Bool) : Prop := PW X e (rd X.K S W TB f)
theorem pwb_and1 {f : M Bool} (h : PB X S W a f) : PWb X S W (.BoolOp .And [a] pos) f := pw_and1 h
theorem pwb_or1 {f : M Bool} (h : PB X S W a f) : PWb X S W (.BoolOp .Or [a] pos) f := pw_or1 h
theorem pwb_and {f g : M Bool} (ha : PB X S W a f) (hb : PWb X S W (.BoolOp .And (b :: rest) pos) g) : PWb X S W (.BoolOp .And (a :: b :: rest) pos) (mAndB f g) := PW.imp (pw_and ha hb) fun σ H Q q => by
  obtain ⟨F, ef, q⟩ := rd_bind (T := TB) q
  refine rd_imp q fun v H1 ⟨F1, env1, b, g1, g2, rel1, rv, q⟩ => ?_
  have rv : b = v := rv
  subst rv
  dsimp only at q
  cases b with
  | true => exact ⟨F1, env1, rel1, q⟩
  | false => exact q _ F1 H1 Gr.refl rel1 rfl
theorem pwb_or {f g : M Bool} (ha : PB X S W a f) (hb : PWb X S W (.BoolOp .Or (b :: rest) pos) g) : PWb X S W (.BoolOp .Or (a :: b :: rest) pos) (mOrB f g) := PW.imp (pw_or ha hb) fun σ H Q q => by
  obtain ⟨F, ef, q⟩ := rd_bind (T := TB) q
  refine rd_imp q fun v H1 ⟨F1, env1, b, g1, g2, rel1, rv, q⟩ => ?_
  have rv : b = v := rv
  subst rv
  dsimp only at q
  cases b with
  | false => exact ⟨F1, env1, rel1, q⟩
  | true => exact q _ F1 H1 Gr.refl rel1 rfl
theorem pb_pw {f : M Bool} (h : PWb X S W e f) : PB X S W e f := PW.pt h
/-- the same as values -/
def mAndV (f g : M Sv) : M Sv := fun env => (mB f env).bind fun b env => if b = true then g env else .ok (.d (.bl false)) env
def mOrV (f g : M Sv) : M Sv := fun env => (mB f env).bind fun b env => if b = true then .ok (.d (.bl true)) env else g env
def mNotV (f : M Sv) : M Sv := fun env => (mB f env).bind fun b env => .ok (.d (.bl (!b))) env
theorem pd_one {op} {f : M Sv} (h : PD X S W a f) : PD X S W (.BoolOp op [a] pos) f := pe_one h
theorem pd_and {f g : M Sv} (ha : PD X S W a f) (hb : PD X S W (.BoolOp .And (b :: rest) pos) g) : PD X S W (.BoolOp .And (a :: b :: rest) pos) (mAndV f g) := PE.imp (pe_and ha hb) fun σ H Q q => by
  obtain ⟨F, ef, q⟩ := rd_bind (T := TB) q
  refine rd_imp (rd_test q) fun v H1 ⟨k, e, F1, env1, b, g1, g2, rel1, rv, q⟩ => ?_
  have rv : b = k := rv
  subst rv
  refine ⟨b, e, ?_⟩
  dsimp only at q
  cases b with
  | true => exact ⟨F1, env1, rel1, q⟩
  | false => exact q _ F1 H1 Gr.refl rel1 (RVd Rb)
theorem pd_or {f g : M Sv} (ha : PD X S W a f) (hb : PD X S W (.BoolOp .Or (b :: rest) pos) g) : PD X S W (.BoolOp .Or (a :: b :: rest) pos) (mOrV f g) := PE.imp (pe_or ha hb) fun σ H Q q => by
  obtain ⟨F, ef, q⟩ := rd_bind (T := TB) q
  refine rd_imp (rd_test q) fun v H1 ⟨k, e, F1, env1, b, g1, g2, rel1, rv, q⟩ => ?_
  have rv : b = k := rv
  subst rv
  refine ⟨b, e, ?_⟩
  dsimp only at q
  cases b with
  | false => exact ⟨F1, env1, rel1, q⟩
  | true => exact q _ F1 H1 Gr.refl rel1 (RVd Rb)
theorem pd_not {f : M Sv} (ha : PD X S W a f) : PD X S W (.UnaryOp .Not a pos) (mNotV f) := PE.imp (pe_not ha) fun σ H Q q => by
  obtain ⟨F, ef, q⟩ := rd_bind (T := TB) q
  refine rd_imp (rd_test q) fun v H1 ⟨k, e, F1, env1, b, g1, g2, rel1, rv, q⟩ => ?_
  have rv : b = k := rv
  subst rv
  exact ⟨b, e, q _ F1 H1 Gr.refl rel1 (RVd Rb)⟩
def mIf (h : M Bool) (f g : M Sv) : M Sv := fun env => (h env).bind fun b env => if b = true then f env else g env
theorem pd_if {h : M Bool} {f g : M Sv} (hc : PB X S W c h) (ha : PD X S W a f) (hb : PD X S W b g) : PD X S W (.IfExp c a b pos) (mIf h f g) := PE.imp (pe_ifExp hc ha hb) fun σ H Q q => by
  obtain ⟨F, ef, q⟩ := rd_bind (T := TB) q
  refine rd_imp q fun v H1 ⟨F1, env1, b, g1, g2, rel1, rv, q⟩ => ?_
  have rv : b = v := rv
  subst rv
  dsimp only at q
  cases b with
  | true => exact ⟨F1, env1, rel1, q⟩
  | false => exact ⟨F1, env1, rel1, q⟩

/-! ### slices -/
def cutL {α : Type} (xs : List α) (lo hi : Option Int) : List α := (xs.drop (HT.sIx xs.length 0 lo)).take (HT.sIx xs.length xs.length hi - HT.sIx xs.length 0 lo)
def oSl : D → Option Int → Option Int → Option Sv
  | .lst l, lo, hi => some (.l (cutL l lo hi))
  | .scr l, lo, hi => some (.l ((cutL l lo hi).map D.int))
  | .tup l, lo, hi => if HT.sIx l.length 0 lo = 0 ∧ HT.sIx l.length l.length hi = l.length then none else some (.d (.tup (cutL l lo hi)))
  | _, _, _ => none
def TO' : RT (Option Int) (Option Int) := fun _ _ _ _ a b => a = b
instance : Anti TO' := ⟨fun _ h => h⟩
def PO' (X : Cx) (S : Xs) (W : WX) (e : Option Expr) (f : M (Option Int)) : Prop := PO X e (rd X.K S W TO' f)
theorem PO.imp {e : Option Expr} {t t' : TO} (h : PO X e t) (q : ∀ σ H Q, t' σ H Q → t σ H Q) : PO X e t' := ⟨fun pins s σ H Q I hw => h.run pins s σ H Q I (q σ H Q hw)⟩
def mNoP : M (Option Int) := fun env => .ok none env
def mPart (f : M D) : M (Option Int) := fun env => (f env).bind fun d env => match d with
  | .int i => .ok (some i) env
  | _ => .bad
theorem po'_none : PO' X S W none mNoP := PO.imp po_none fun σ H Q ⟨F, env, rel, q⟩ => q none F H Gr.refl rel rfl
theorem po'_some {f : M D} (h : PP X S W e f) : PO' X S W (some e) (mPart f) := PO.imp (po_some h) fun σ H Q q => by
  obtain ⟨F, ef, q⟩ := rd_bind (T := TP X.K) q
  refine rd_imp q fun v H1 ⟨F1, env1, d, g1, g2, rel1, rv, q⟩ => ?_
  cases d with
  | int i => exact ⟨i, RP.int rv, q _ F1 H1 Gr.refl rel1 rfl⟩
  | _ => exact q.elim
def mSl (f : M D) (lo hi : M (Option Int)) : M Sv := fun env => (f env).bind fun d env => (lo env).bind fun l env => (hi env).bind fun u env => rdo (oSl d l u) env
theorem Rs.cut {K : PySem.W.Frag} {F : Hp} {l : List D} {vs : List V} (r : Rs K F l vs) (lo hi : Option Int) : Rs K F (cutL l lo hi) (cutV vs lo hi) := by
  unfold cutL cutV
  rw [r.length]
  exact (r.drop _).take _
theorem cutV_map (ns : List Int) (lo hi : Option Int) : cutV (ns.map V.int) lo hi = (cutL ns lo hi).map V.int := by
  unfold cutL cutV
  rw [List.length_map, List.map_take, List.map_drop]
theorem pd_slice {f : M D} {l h : M (Option Int)} {lo hi : Option Expr} {p2 : Pos} (he : PP X S W e f) (hl : PO' X S W lo l) (hu : PO' X S W hi h) : PD X S W (.Subscript e (.Slice lo hi none p2) pos) (mSl f l h) :=
  PE.imp (pe_slice (SlR.or sl_list sl_tup) he hl hu) fun σ H Q q => by
    obtain ⟨F, ef, q⟩ := rd_bind (T := TP X.K) q
    refine rd_imp q fun x H1 ⟨F1, env1, d, g1, g2, rel1, rx, q⟩ => ?_
    have q := okG.bind (T := TO') q
    refine ⟨F1, env1, rel1, q.imp fun u H2 ⟨F2, env2, lo', k1, k2, rel2, r2, q⟩ => ?_⟩
    have q := okG.bind (T := TO') q
    refine ⟨F2, env2, rel2, q.imp fun w H3 ⟨F3, env3, hi', m1, m2, rel3, r3, q⟩ => ?_⟩
    have r2 : lo' = u := r2
    have r3 : hi' = w := r3
    subst r2 r3
    have rx3 := RP.mono rx (k1.trans m1) (k2.trans m2)
    dsimp only at q
    unfold oSl at q
    split at q
    · obtain ⟨p, vs, e1, e2, e3⟩ := rx3.lst rel3.ex
      refine .inl ⟨p, vs, e1, sq_of e2, fun l hl => ?_⟩
      have n := New.fresh (o := .lst (cutV vs lo' hi')) rel3.ex hl
      exact q _ _ _ (n.gr rel3).1 (n.gr rel3).2 ⟨l, _, rfl, hl, fresh_back rel3.ex hl, upd_same, e3.cut _ _⟩
    · obtain ⟨p, e1, e2⟩ := rx3.scr rel3.ex
      refine .inl ⟨p, _, e1, e2, fun l hl => ?_⟩
      rw [cutV_map]
      exact q _ _ _ ((New.fresh rel3.ex hl).gr rel3).1 ((New.fresh rel3.ex hl).gr rel3).2 ⟨l, _, rfl, hl, fresh_back rel3.ex hl, upd_same, Rs.of_map (fun _ => Ri) _⟩
    · split at q
      · exact q.elim
      · rename_i hw
        obtain ⟨p, vs, e1, e2, e3⟩ := rx3.tup
        refine .inr ⟨p, vs, e1, st_of (rel3.ex p _ e2), by rw [e3.length]; exact hw, fun l hl => ?_⟩
        have n := New.data (o := .tup (cutV vs lo' hi')) rel3.ex hl
        exact q _ _ _ (n.gr rel3).1 (n.gr rel3).2 (RVd (by simp only [R]; exact ⟨l, _, rfl, upd_same, (e3.cut _ _).mono n.f⟩))
    · exact q.elim

/-! ### calls -/
inductive FR where
  | ok (d : D) | ex (c : Nat) (x : Option D) | bad
def okF (K : PySem.W.Frag) (S : Xs) (F H : Hp) (Q : VK) (E : XK) : FR → Prop
  | .ok d => ∀ v F' H', New F H F' H' → R K F' d v → Q v H'
  | .ex c x => ∀ a F' H', New F H F' H' → RX K S F' c x a → E (S.cls c) a H'
  | .bad => False
/-- a def's promise by its meaning -/
def spF (K : PySem.W.Frag) (S : Xs) (n : Nat) (fn : List D → FR) : Sp := fun vs H Q E => ∃ F ds, Ex F H ∧ Rs K F ds vs ∧ ds.length = n ∧ okF K S F H Q E (fn ds)
def mCall (n : Nat) (fn : List D → FR) (f : M (List D)) : M Sv := fun env => (f env).bind fun ds env => if ds.length = n then (match fn ds with
  | .ok d => .ok (.d d) env
  | .ex c x => .ex c x env
  | .bad => .bad) else .bad
/-- a def that may be called by its name -/
structure Cl (P : Program) (w : World) (K : PySem.W.Frag) (mg : Str → Option Value) (base : Heap) (S : Xs) (k : Nat) (x : Str) (n : Nat) (fn : List D → FR) : Prop where
  ex : ∃ (f : Addr) (fd : FuncData) (ps : List Str), FnOk P w K mg base (L2N.CX P w) k f fd ps (spF K S n fn) ∧ mg x = some (.ref f) ∧ PySem.W.keepIn K (.ref f) = true ∧ Binds K fd ps []
theorem rd_call {n : Nat} {fn : List D → FR} {f : M (List D)} {Q : VK} (q : rd X.K S W (TV X.K) (mCall n fn f) σ H Q) : tCallS (spF X.K S n fn) (WE W) (rd X.K S W (TFs X.K) f) σ H Q := by
  obtain ⟨F, ef, q⟩ := rd_bind (T := TFs X.K) q
  refine rd_imp q fun vs H1 ⟨F1, env1, ds, g1, g2, rel1, rx, q⟩ => ?_
  dsimp only at q
  by_cases hn : ds.length = n
  · rw [if_pos hn] at q
    refine ⟨F1, ds, rel1.ex, rx, hn, ?_⟩
    cases h : fn ds with
    | ok d =>
      rw [h] at q
      exact fun v F' H' m r => q v F' H' (m.gr rel1).1 (m.gr rel1).2 r
    | ex c x =>
      rw [h] at q
      exact fun v F' H' m r => q v F' H' (m.gr rel1).1 (m.gr rel1).2 r
    | bad => rw [h] at q; exact q.elim
  · rw [if_neg hn] at q; exact q.elim
theorem pd_call {k j n : Nat} {x : Str} {p : Pos} {fn : List D → FR} {f : M (List D)} (c : Cl X.prog X.w X.K X.mg X.base S k x n fn) (hr : Room j X.A) (hk : k ≤ j) (hg : Gl X x) (tk : L2N.Takes X W) (ha : PFs X S W (e :: es) f)
    (hdb : (x == ("__debug__" : Str)) = false := by decide) (he : starEach (e :: es) X.env = (false, eval e X.env) :: starEach es X.env := by rfl) (hpl : (backTo pos (starEach es X.env)).any (·.1) = false := by rfl) : PD X S W (.Call (.Name x p) (e :: es) [] pos) (mCall n fn f) := by
  obtain ⟨a, fd, ps, F, hm, kp, b⟩ := c.ex
  exact PE.imp (pe_callS F (hr.mono hk) hg hm kp b (fun σ => L2N.passAt tk σ) ha hdb he hpl) fun σ H Q q => rd_call q
/-- a weaker meaning -/
theorem Cl.imp {P : Program} {w : World} {K : PySem.W.Frag} {mg : Str → Option Value} {base : Heap} {k n : Nat} {x : Str} {fn fn' : List D → FR} (h : ∀ ds, ds.length = n → fn' ds ≠ .bad → fn ds = fn' ds) (c : Cl P w K mg base S k x n fn) : Cl P w K mg base S k x n fn' := by
  obtain ⟨f, fd, ps, F, r⟩ := c.ex
  refine ⟨f, fd, ps, F.imp fun vs H Q E ⟨F0, ds, e1, e2, e3, e4⟩ => ⟨F0, ds, e1, e2, e3, ?_⟩, r⟩
  by_cases hb : fn' ds = .bad
  · rw [hb] at e4; exact e4.elim
  · rw [h ds e3 hb]; exact e4

/-! ### what is walked -/
/-- J yields these, one after another -/
def Yl (K : PySem.W.Frag) (G : Hp) (items : List D) (J : It) : Prop := ∀ (i : Nat) (F H : Hp), Ex G F → Ex F H → (∀ d, items[i]? = some d → J.go i H ∧ ∀ x H', J.yld i H x H' → H' = H ∧ R K F d x) ∧ (i = items.length → J.stop i H)
def TY (K : PySem.W.Frag) : RT (List D) It := fun _ F _ _ items J => Yl K F items J
instance {K : PySem.W.Frag} : Anti (TY K) := ⟨fun _ h => h⟩
def PY (X : Cx) (S : Xs) (W : WX) (tg it : Expr) (f : M (List D)) : Prop := PI X tg it (rd X.K S W (TY X.K) f)
theorem PI.imp {tg it : Expr} {t t' : TI} (h : PI X tg it t) (q : ∀ σ H R, t' σ H R → t σ H R) : PI X tg it t' := ⟨fun pins s σ H Q I hw => h.run pins s σ H Q I (q σ H Q hw)⟩
theorem PI.or {tg it : Expr} {t t' : TI} (h : PI X tg it t) (h' : PI X tg it t') : PI X tg it (fun σ H R => t σ H R ∨ t' σ H R) := ⟨fun pins s σ H Q I hw => hw.elim (h.run pins s σ H Q I) (h'.run pins s σ H Q I)⟩
def itemsOf : D → Option (List D)
  | .lst l => some l
  | .tup l => some l
  | .scr l => some (l.map D.int)
  | _ => none
def mIt (f : M D) : M (List D) := fun env => (f env).bind fun d env => match itemsOf d with
  | some l => .ok l env
  | none => .bad
theorem Yl.lst {K : PySem.W.Frag} {G : Hp} {l : List D} {a : Addr} {vs : List V} (h : SqL K G a vs) (r : Rs K G l vs) : Yl K G l (Itl K a) := fun i F H e1 e2 => by
  have hs := ex_l (e1.trans e2) h
  refine ⟨fun d hd => ?_, fun z => ⟨vs, hs, by rw [z, r.length]; exact Nat.le_refl _⟩⟩
  obtain ⟨v, q1, q2⟩ := r.get' hd
  refine ⟨⟨vs, v, hs, q1⟩, fun x H' y => ⟨y.1, ?_⟩⟩
  have := y.2 vs hs
  rw [q1] at this
  cases this
  exact q2.mono e1
theorem Yl.tup {K : PySem.W.Frag} {G : Hp} {l : List D} {a : Addr} {vs : List V} (h : SqT K G a vs) (r : Rs K G l vs) : Yl K G l (Itt K a) := fun i F H e1 e2 => by
  have hs := ex_t (e1.trans e2) h
  refine ⟨fun d hd => ?_, fun z => ⟨vs, hs, by rw [z, r.length]; exact Nat.le_refl _⟩⟩
  obtain ⟨v, q1, q2⟩ := r.get' hd
  refine ⟨⟨vs, v, hs, q1⟩, fun x H' y => ⟨y.1, ?_⟩⟩
  have := y.2 vs hs
  rw [q1] at this
  cases this
  exact q2.mono e1
theorem py_seq {tg : Expr} {f : M D} (h : PF X S W e f) : PY X S W tg e (mIt f) := PI.imp (PI.or (pi_list h) (pi_tup h)) fun σ H R ⟨F, env, rel, q⟩ => by
  unfold mIt at q
  cases hf : f env with
  | bad => rw [hf] at q; exact q.elim
  | ex c x env1 =>
    rw [hf] at q
    exact .inl ⟨F, env, rel, by rw [hf]; exact q⟩
  | ok d env1 =>
    rw [hf] at q
    have q : okG X.K S W σ (TY X.K) F H env R (match itemsOf d with | some l => Res.ok l env1 | none => .bad) := q
    cases d with
    | lst l =>
      refine .inl ⟨F, env, rel, ?_⟩
      rw [hf]
      intro v F1 H1 g rel1 rv
      have rv : Iv.R X.K F1 (.lst l) v := rv
      simp only [Iv.R] at rv
      obtain ⟨p, vs, e1, e2, e3⟩ := rv
      exact ⟨p, e1, ⟨vs, sq_of (rel1.ex p _ e2)⟩, q _ F1 H1 g rel1 (Yl.lst (sq_of e2) e3)⟩
    | scr l =>
      refine .inl ⟨F, env, rel, ?_⟩
      rw [hf]
      intro v F1 H1 g rel1 rv
      have rv : Iv.R X.K F1 (.scr l) v := rv
      simp only [Iv.R] at rv
      obtain ⟨p, e1, e2⟩ := rv
      exact ⟨p, e1, ⟨_, ex_l rel1.ex e2⟩, q _ F1 H1 g rel1 (Yl.lst e2 (Rs.of_map (fun _ => Ri) _))⟩
    | tup l =>
      refine .inr ⟨F, env, rel, ?_⟩
      rw [hf]
      intro v F1 H1 g rel1 rv
      have rv : Iv.R X.K F1 (.tup l) v := rv
      simp only [Iv.R] at rv
      obtain ⟨p, vs, e1, e2, e3⟩ := rv
      exact ⟨p, e1, ⟨vs, st_of (rel1.ex p _ e2)⟩, q _ F1 H1 g rel1 (Yl.tup (st_of e2) e3)⟩
    | _ => exact q.elim
/-- range(n), range(a, b) -/
def upTo (lo : Int) (n : Nat) : List D := (List.range n).map fun i => .int (lo + (i : Nat))
theorem Yl.rng {K : PySem.W.Frag} {G : Hp} {lo : Int} {n : Nat} : Yl K G (upTo lo n) (Itr lo n) := fun i F H _ _ => by
  refine ⟨fun d hd => ?_, fun z => by unfold upTo at z; rw [List.length_map, List.length_range] at z; exact Nat.le_of_eq z.symm⟩
  unfold upTo at hd
  rw [List.getElem?_map] at hd
  obtain ⟨j, h1, h2⟩ := Option.map_eq_some_iff.mp hd
  obtain ⟨h3, h4⟩ := List.getElem?_eq_some_iff.mp h1
  rw [List.getElem_range] at h4
  subst h4 h2
  rw [List.length_range] at h3
  exact ⟨h3, fun x H' y => ⟨y.1, by rw [y.2]; exact Ri⟩⟩
def small (i : Int) : Bool := decide (-1000000 ≤ i) && decide (i ≤ 1000000)
def mRng1 (f : M (List D)) : M (List D) := fun env => (f env).bind fun ds env => match ds with
  | [.int n] => if small n = true then .ok (upTo 0 n.toNat) env else .bad
  | _ => .bad
def mRng2 (f : M (List D)) : M (List D) := fun env => (f env).bind fun ds env => match ds with
  | [.int a, .int b] => if small a = true ∧ small b = true then .ok (upTo a (b - a).toNat) env else .bad
  | _ => .bad
theorem small_ok {i : Int} (h : small i = true) : -(2 ^ 62) ≤ i ∧ i < 2 ^ 62 := by
  unfold small at h
  rw [Bool.and_eq_true, decide_eq_true_eq, decide_eq_true_eq] at h
  omega
theorem py_range1 {tg : Expr} {p : Pos} {f : M (List D)} (hg : Gl X "range") (hm : X.mg "range" = none) (ha : PPs X S W [a] f) (hs : starEach [a] X.env = [(false, eval a X.env)] := by rfl) : PY X S W tg (.Call (.Name "range" p) [a] [] pos) (mRng1 f) :=
  PI.imp (pi_range1 hg hm ha hs) fun σ H R q => by
    obtain ⟨F, ef, q⟩ := rd_bind (T := TPs X.K) q
    refine rd_imp q fun vs H1 ⟨F1, env1, ds, g1, g2, rel1, rx, q⟩ => ?_
    dsimp only at q
    split at q
    · rename_i n
      split at q
      · rename_i hn
        obtain ⟨v, e, r⟩ := RPs.one rx
        obtain ⟨k1, k2⟩ := small_ok hn
        exact ⟨n, by rw [e, r.int], k1, k2, q _ F1 H1 Gr.refl rel1 Yl.rng⟩
      · exact q.elim
    · exact q.elim
theorem py_range2 {tg : Expr} {p : Pos} {f : M (List D)} (hg : Gl X "range") (hm : X.mg "range" = none) (ha : PPs X S W [a, b] f) (hs : starEach [a, b] X.env = [(false, eval a X.env), (false, eval b X.env)] := by rfl) (hs2 : starEach [b] X.env = [(false, eval b X.env)] := by rfl) :
    PY X S W tg (.Call (.Name "range" p) [a, b] [] pos) (mRng2 f) :=
  PI.imp (pi_range2 hg hm ha hs hs2) fun σ H R q => by
    obtain ⟨F, ef, q⟩ := rd_bind (T := TPs X.K) q
    refine rd_imp q fun vs H1 ⟨F1, env1, ds, g1, g2, rel1, rx, q⟩ => ?_
    dsimp only at q
    split at q
    · rename_i n m
      split at q
      · rename_i hn
        obtain ⟨v, w, e, r, r'⟩ := RPs.two rx
        obtain ⟨k1, k2⟩ := small_ok hn.1
        obtain ⟨k3, k4⟩ := small_ok hn.2
        exact ⟨n, m, by rw [e, r.int, r'.int], ⟨k1, k2, k3, k4⟩, q _ F1 H1 Gr.refl rel1 Yl.rng⟩
      · exact q.elim
    · exact q.elim

/-! ### targets -/
/-- js: the slots that it sets -/
def rG (K : PySem.W.Frag) (js : List Nat) (γ : D → En → Option En) : TG := fun v σ H Q => ∃ F env d, Rel K F H σ env ∧ R K F d v ∧ ∃ env', γ d env = some env' ∧
  ∀ σ', Rel K F H σ' env' → (∀ a, Owned σ' env' a → Owned σ env a) → σ'.length = σ.length → (∀ i, i ∉ js → σ'[i]? = σ[i]?) → Q σ' H
def rGs (K : PySem.W.Frag) (js : List Nat) (γ : List D → En → Option En) : TGs := fun vs σ H Q => ∃ F env ds, Rel K F H σ env ∧ Rs K F ds vs ∧ ∃ env', γ ds env = some env' ∧
  ∀ σ', Rel K F H σ' env' → (∀ a, Owned σ' env' a → Owned σ env a) → σ'.length = σ.length → (∀ i, i ∉ js → σ'[i]? = σ[i]?) → Q σ' H
def PGd (X : Cx) (tg : Expr) (js : List Nat) (γ : D → En → Option En) : Prop := PG X tg (rG X.K js γ)
def PGds (X : Cx) (tgs : List Expr) (js : List Nat) (γ : List D → En → Option En) : Prop := PGs X tgs (rGs X.K js γ)
theorem PG.imp {tg : Expr} {t t' : TG} (h : PG X tg t) (q : ∀ v σ H Q, t' v σ H Q → t v σ H Q) : PG X tg t' := ⟨fun pins s σ H v u Q I r hw => h.run pins s σ H v u Q I r (q v σ H Q hw)⟩
theorem PGs.imp {tg : List Expr} {t t' : TGs} (h : PGs X tg t) (q : ∀ v σ H Q, t' v σ H Q → t v σ H Q) : PGs X tg t' := ⟨fun pins s σ H v u Q I r hw => h.run pins s σ H v u Q I r (q v σ H Q hw)⟩
theorem owned_set {σ : L2.St} {env : En} {i : Nat} {s : Sl} {o : Option V} {a : Addr} (hs : s.own = false) (h : Owned (σ.set i o) (env.set i s) a) : Owned σ env a := by
  obtain ⟨j, t, e1, e2, e3⟩ := h
  by_cases hj : i = j
  · subst hj
    have hi : i < env.length := by
      have := (List.getElem?_eq_some_iff.mp e1).1
      simpa using this
    rw [List.getElem?_set_self hi] at e1
    cases e1
    rw [hs] at e2
    cases e2
  · rw [List.getElem?_set_ne hj] at e1 e3
    exact ⟨j, t, e1, e2, e3⟩
def γN (i : Nat) : D → En → Option En := fun d env => some (env.set i (.fr d))
theorem pgd_name {i : Nat} {x : Str} (hN : X.N.Nodup) (hi : X.N[i]? = some x) (hx : Loc X.env.scope x) (hf : X.fn x = true ∨ X.env.scope.names.lookup x = some .local := by first | exact .inl rfl | exact .inr rfl | assumption) : PGd X (.Name x pos) [i] (γN i) :=
  PG.imp (pg_name hN hi hx hf) fun v σ H Q ⟨F, env, d, rel, r, env', e, q⟩ => by
    cases e
    exact q _ (rel.set (o := some v) ⟨v, rfl, r⟩ fun _ z => nomatch z) (fun a h => owned_set rfl h) (by rw [List.length_set]) fun j hj => List.getElem?_set_ne fun z => hj (by rw [z]; exact List.mem_singleton.mpr rfl)
def γNil : List D → En → Option En := fun ds env => match ds with
  | [] => some env
  | _ => none
def γCons (g : D → En → Option En) (h : List D → En → Option En) : List D → En → Option En := fun ds env => match ds with
  | d :: r => (g d env).bind fun env1 => h r env1
  | [] => none
theorem pgds_nil : PGds X [] [] γNil := PGs.imp pgs_nil fun vs σ H Q ⟨F, env, ds, rel, r, env', e, q⟩ => by
  unfold γNil at e
  split at e
  · cases e
    have r : vs = [] := by simpa only [Rs] using r
    exact ⟨r, q σ rel (fun _ h => h) rfl fun _ _ => rfl⟩
  · cases e
theorem pgds_cons {js js' : List Nat} {g : D → En → Option En} {h : List D → En → Option En} (h1 : PGd X e js g) (h2 : PGds X es js' h) (hs : (assignEach (e :: es) X.env).map (·.2) = assign e X.env :: (assignEach es X.env).map (·.2) := by rfl) :
    PGds X (e :: es) (js ++ js') (γCons g h) := PGs.imp (pgs_cons h1 h2 hs) fun vs σ H Q ⟨F, env, ds, rel, r, env', e, q⟩ => by
  unfold γCons at e
  split at e
  · rename_i d ds'
    simp only [Rs] at r
    obtain ⟨v, vr, rfl, r1, r2⟩ := r
    cases hg : g d env with
    | none => rw [hg] at e; cases e
    | some env1 =>
      rw [hg] at e
      refine ⟨v, vr, rfl, F, env, d, rel, r1, env1, hg, fun σ1 rel1 o1 l1 k1 => ?_⟩
      refine ⟨F, env1, ds', rel1, r2, env', e, fun σ2 rel2 o2 l2 k2 => q σ2 rel2 (fun a h => o1 a (o2 a h)) (l2.trans l1) fun i hi => ?_⟩
      rw [List.mem_append, not_or] at hi
      exact (k2 i hi.2).trans (k1 i hi.1)
  · cases e
/-- a, b = a tuple -/
def γT (n : Nat) (h : List D → En → Option En) : D → En → Option En := fun d env => match d with
  | .tup l => if l.length = n then h l env else none
  | _ => none
theorem pgd_tup {k : Nat} {js : List Nat} {h : List D → En → Option En} {n : Nat} (hc : X.calm = true) (hh : PGds X es js h)
    (hn : (assignEach es X.env).length = n := by rfl) (hst : (assignEach es X.env).findIdx? (·.1) = none := by rfl) : PGd X (.Tuple es k pos) js (γT n h) :=
  PG.imp (pg_tup hc hh hn hst) fun v σ H Q ⟨F, env, d, rel, r, env', e, q⟩ => by
    unfold γT at e
    split at e
    · rename_i l
      split at e
      · rename_i hl
        simp only [R] at r
        obtain ⟨p, vs, e1, e2, e3⟩ := r
        exact ⟨p, vs, e1, st_of (rel.ex p _ e2), by rw [e3.length]; exact hl, F, env, l, rel, e3, env', e, q⟩
      · cases e
    · cases e

/-! ### comprehensions -/
def wipeE (env : En) : List Nat → En
  | [] => env
  | v :: vs => (wipeE env vs).set v .un
theorem Rel.wipe {K : PySem.W.Frag} {F H : Hp} {env : En} (rel : Rel K F H σ env) : ∀ vs : List Nat, Rel K F H (wipe σ vs) (wipeE env vs)
  | [] => rel
  | v :: vs => (Rel.wipe rel vs).set (s := .un) (o := none) True.intro fun _ z => nomatch z
theorem owned_wipe {env : En} {a : Addr} : ∀ {vs : List Nat}, Owned (wipe σ vs) (wipeE env vs) a → Owned σ env a
  | [], h => h
  | v :: vs, h => owned_wipe (vs := vs) (owned_set rfl h)
theorem wipeE_len {env : En} : ∀ vs : List Nat, (wipeE env vs).length = env.length
  | [] => rfl
  | v :: vs => by unfold wipeE; rw [List.length_set]; exact wipeE_len vs
theorem wipe_len : ∀ vs : List Nat, (wipe σ vs).length = σ.length
  | [] => rfl
  | v :: vs => by unfold wipe; rw [List.length_set]; exact wipe_len vs
theorem wipe_in {i : Nat} : ∀ {vs : List Nat}, i ∈ vs → i < σ.length → (wipe σ vs)[i]? = some none
  | v :: vs, h, hl => by
    unfold wipe
    by_cases e : v = i
    · subst e; exact List.getElem?_set_self (by rw [wipe_len]; exact hl)
    · rw [List.getElem?_set_ne e]
      exact wipe_in (by
        rcases List.mem_cons.mp h with z | z
        · exact absurd z.symm e
        · exact z) hl
theorem wipe_out {i : Nat} : ∀ {vs : List Nat}, i ∉ vs → (wipe σ vs)[i]? = σ[i]?
  | [], _ => rfl
  | v :: vs, h => by
    unfold wipe
    rw [List.mem_cons, not_or] at h
    rw [List.getElem?_set_ne (Ne.symm h.1)]
    exact wipe_out h.2
theorem wipe_same {σ σ' : L2.St} {vs : List Nat} (hl : σ'.length = σ.length) (h : ∀ i, i ∉ vs → σ'[i]? = σ[i]?) : wipe σ' vs = wipe σ vs := by
  refine List.ext_getElem? fun i => ?_
  by_cases hv : i ∈ vs
  · by_cases hi : i < σ.length
    · rw [wipe_in hv hi, wipe_in hv (by rw [hl]; exact hi)]
    · rw [List.getElem?_eq_none (by rw [wipe_len]; omega), List.getElem?_eq_none (by rw [wipe_len]; omega)]
  · rw [wipe_out hv, wipe_out hv, h i hv]
theorem wipeE_get (e : En) (ws : List Nat) (i : Nat) : (wipeE e ws)[i]? = if i ∈ ws ∧ i < e.length then some .un else e[i]? := by
  induction ws with
  | nil => simp [wipeE]
  | cons w ws ih =>
    unfold wipeE
    by_cases hw : w = i
    · subst hw
      by_cases hl : w < e.length
      · rw [List.getElem?_set_self (by rw [wipeE_len]; exact hl), if_pos ⟨List.mem_cons_self, hl⟩]
      · rw [if_neg (fun z => hl z.2), List.getElem?_eq_none (by rw [List.length_set, wipeE_len]; omega), List.getElem?_eq_none (by omega)]
    · rw [List.getElem?_set_ne hw, ih]
      have : (i ∈ w :: ws) ↔ i ∈ ws := by
        rw [List.mem_cons]
        exact ⟨fun z => z.elim (fun z => absurd z.symm hw) id, .inr⟩
      simp only [this]
theorem wipeE_idem {env : En} {vs : List Nat} : wipeE (wipeE env vs) vs = wipeE env vs := by
  refine List.ext_getElem? fun i => ?_
  rw [wipeE_get, wipeE_get, wipeE_len]
  split <;> simp_all
theorem wipeE_un {env : En} {vs : List Nat} {i : Nat} {s : Sl} (h : wipeE env vs = env) (hi : i ∈ vs) (e : env[i]? = some s) : s = .un := by
  have := wipeE_get env vs i
  rw [h, e, if_pos ⟨hi, (List.getElem?_eq_some_iff.mp e).1⟩] at this
  exact Option.some.inj this
theorem wipe_wipe {σ : L2.St} {vs : List Nat} : wipe (wipe σ vs) vs = wipe σ vs := wipe_same (wipe_len vs) fun i h => wipe_out h
def compL (vs : List Nat) (γ : D → En → Option En) (cond : M Bool) (elt : M D) : List D → List D → En → Res (List D)
  | [], acc, env => .ok acc env
  | x :: xs, acc, env => match γ x env with
    | none => .bad
    | some env1 => match cond env1 with
      | .ok true env2 => match elt env2 with
        | .ok d env3 => compL vs γ cond elt xs (acc ++ [d]) (wipeE env3 vs)
        | _ => .bad
      | .ok false env2 => compL vs γ cond elt xs acc (wipeE env2 vs)
      | _ => .bad
def mLc (vs : List Nat) (γ : D → En → Option En) (src : M (List D)) (cond : M Bool) (elt : M D) : M Sv := fun env => (src env).bind fun items env1 => if items.length ≤ 90000 then
    (match compL vs γ cond elt items [] (wipeE env1 vs) with
    | .ok acc env2 => .ok (.l acc) env2
    | _ => .bad) else .bad
def W0 : WX := fun _ _ _ _ => False
theorem rd_lc {wi : TI} {g : TG} {tt : TT} {te : TE} {vs js : List Nat} {γ : D → En → Option En} {src : M (List D)} {cond : M Bool} {elt : M D} {K : PySem.W.Frag} {Q : VK} (hj : ∀ i ∈ js, i ∈ vs)
    (hw : ∀ σ H R, rd K S W (TY K) src σ H R → wi σ H R)
    (hg : ∀ v σ H Q, rG K js γ v σ H Q → g v σ H Q)
    (ht : ∀ σ H Q, rd K S W0 TB cond σ H Q → tt σ H Q) (he : ∀ σ H Q, rd K S W0 (TF K) elt σ H Q → te σ H Q)
    (q : rd K S W (TV K) (mLc vs γ src cond elt) σ H Q) : tLc wi g tt te vs σ H Q := by
  obtain ⟨F, ef, q⟩ := rd_bind (T := TY K) q
  refine hw σ H _ (rd_imp q fun J H1 ⟨F1, env1, items, g1, g2, rel1, yl, q⟩ => ?_)
  have yl : Yl K F1 items J := yl
  dsimp only at q
  by_cases hlen : items.length ≤ 90000
  case neg => rw [if_neg hlen] at q; exact q.elim
  rw [if_pos hlen] at q
  cases hr : compL vs γ cond elt items [] (wipeE env1 vs) with
  | bad => rw [hr] at q; exact q.elim
  | ex c x e2 => rw [hr] at q; exact q.elim
  | ok accF env2 =>
    rw [hr] at q
    have q : ∀ b F' H', Gr σ env1 F1 H1 env2 F' H' → Rel K F' H' σ env2 → RV K H1 F' H' (.l accF) b → Q b H' := q
    intro Dl hD
    have hDF : F1 Dl = none := fresh_back rel1.ex hD
    have nD0 : ∀ a, Owned σ env1 a → a ≠ Dl := fun a h z => (rel1.owned h).2 (by rw [z]; exact hD)
    refine ⟨fun i m H' => m = items.length - i ∧ i ≤ items.length ∧ ∃ F' env acc va, Ex F1 F' ∧ Ex H1 H' ∧ Rel K F' H' (wipe σ vs) env ∧ H' Dl = some (.lst va) ∧ Rs K F' acc va ∧ F' Dl = none ∧ acc.length ≤ i ∧
        (∀ a, Owned (wipe σ vs) env a → Owned σ env1 a) ∧ (∀ a, H1 a ≠ none → F1 a = none → ¬ Owned σ env1 a → F' a = none) ∧ compL vs γ cond elt (items.drop i) acc env = .ok accF env2 ∧ wipeE env vs = env,
      ⟨items.length, by simp, Nat.zero_le _, F1, wipeE env1 vs, [], [], Ex.refl _, Ex.new hD, ?_, upd_same, Rs.nil, hDF, Nat.le_refl _, fun a h => owned_wipe h, fun _ _ h _ => h, hr, ?_⟩, ?_⟩
    · exact (rel1.wipe vs).grow (Ex.refl _) (Ex.new hD) (fun a u e => by rw [upd_ne (ne_of_none (rel1.ex a u e) hD)]; exact rel1.ex a u e) fun a h => (rel1.owned (owned_wipe h)).1
    · exact wipeE_idem
    · rintro i m H' ⟨rfl, hi, F', env, acc, va, x1, x2, rel, hDl, ra, fD, hacc, own, keep, hc, hwe⟩
      have nD : ∀ a, Owned (wipe σ vs) env a → a ≠ Dl := fun a h => nD0 a (own a h)
      by_cases hlt : i < items.length
      · refine .inr ?_
        have hget : items[i]? = some items[i] := List.getElem?_eq_getElem hlt
        obtain ⟨hgo, hy⟩ := (yl i F' H' x1 rel.ex).1 _ hget
        have hdrop : items.drop i = items[i] :: items.drop (i + 1) := List.drop_eq_getElem_cons hlt
        rw [hdrop] at hc
        unfold compL at hc
        refine ⟨hgo, fun H2 => ∃ m', m' < items.length - i ∧ m' = items.length - (i + 1) ∧ i + 1 ≤ items.length ∧ ∃ F' env acc va, Ex F1 F' ∧ Ex H1 H2 ∧ Rel K F' H2 (wipe σ vs) env ∧ H2 Dl = some (.lst va) ∧ Rs K F' acc va ∧ F' Dl = none ∧ acc.length ≤ i + 1 ∧
          (∀ a, Owned (wipe σ vs) env a → Owned σ env1 a) ∧ (∀ a, H1 a ≠ none → F1 a = none → ¬ Owned σ env1 a → F' a = none) ∧ compL vs γ cond elt (items.drop (i + 1)) acc env = .ok accF env2 ∧ wipeE env vs = env, fun H2 h => ?_, fun x H2 y => ?_⟩
        · obtain ⟨m', h1, h2, h3⟩ := h
          exact ⟨m', h1, h2, h3⟩
        obtain ⟨e2, rx⟩ := hy x H2 y
        subst e2
        cases hγ : γ items[i] env with
        | none => rw [hγ] at hc; cases hc
        | some envx =>
          rw [hγ] at hc
          dsimp only at hc
          refine hg x _ H2 _ ⟨F', env, items[i], rel, rx, envx, hγ, fun σ2 rel2 o2 l2 k2 => ?_⟩
          have hws : wipe σ2 vs = wipe σ vs := (wipe_same l2 fun i hi => k2 i fun z => hi (hj i z)).trans wipe_wipe
          refine ⟨hws, ht σ2 H2 _ ⟨F', envx, rel2, ?_⟩⟩
          cases hcd : cond envx with
          | bad => rw [hcd] at hc; cases hc
          | ex c x e => rw [hcd] at hc; cases hc
          | ok b envy =>
            rw [hcd] at hc
            intro b' F3 H3 gr3 rel3 eb
            have eb : b = b' := eb
            subst eb
            have fD3 : F3 Dl = none := gr3.keep Dl (by rw [hDl]; exact fun z => nomatch z) fD fun z => nD Dl (o2 Dl z) rfl
            have keep3 : ∀ a, H1 a ≠ none → F1 a = none → ¬ Owned σ env1 a → F3 a = none := fun a h1 h2 h3 => gr3.keep a (Ex.some x2 h1) (keep a h1 h2 h3) fun z => h3 (own a (o2 a z))
            cases b with
            | false =>
              have hc : compL vs γ cond elt (items.drop (i + 1)) acc (wipeE envy vs) = .ok accF env2 := hc
              show ∃ m', _
              refine ⟨_, by omega, rfl, hlt, F3, wipeE envy vs, acc, va, x1.trans gr3.f, x2.trans gr3.h, ?_, gr3.h Dl _ hDl, ra.mono gr3.f, fD3, by omega, fun a h => ?_, keep3, hc, ?_⟩
              · rw [← hws]; exact rel3.wipe vs
              · rw [← hws] at h
                exact own a (o2 a (gr3.own a (owned_wipe h)))
              · exact wipeE_idem
            | true =>
              dsimp only at hc
              refine he σ2 H3 _ ⟨F3, envy, rel3, ?_⟩
              cases hel : elt envy with
              | bad => rw [hel] at hc; cases hc
              | ex c x e => rw [hel] at hc; cases hc
              | ok d envz =>
                rw [hel] at hc
                have hc : compL vs γ cond elt (items.drop (i + 1)) (acc ++ [d]) (wipeE envz vs) = .ok accF env2 := hc
                intro y F4 H4 gr4 rel4 ry
                have ry : R K F4 d y := ry
                have fD4 : F4 Dl = none := gr4.keep Dl (Ex.some gr3.h (by rw [hDl]; exact fun z => nomatch z)) fD3 fun z => nD Dl (o2 Dl (gr3.own Dl z)) rfl
                have hD4 : H4 Dl = some (.lst va) := gr4.h Dl _ (gr3.h Dl _ hDl)
                refine ⟨va, hD4, sz_lt (by have := ra.length; omega), ?_⟩
                refine ⟨_, by omega, rfl, hlt, F4, wipeE envz vs, acc ++ [d], va ++ [y], (x1.trans gr3.f).trans gr4.f, Ex.mut ((x2.trans gr3.h).trans gr4.h) hD, ?_, upd_same, (ra.mono (gr3.f.trans gr4.f)).append (Rs.cons ry Rs.nil), fD4, by rw [List.length_append]; show acc.length + 1 ≤ i + 1; omega, fun a h => ?_, fun a h1 h2 h3 => ?_, hc, ?_⟩
                · have r5 : Rel K F4 H4 (wipe σ vs) (wipeE envz vs) := by rw [← hws]; exact rel4.wipe vs
                  refine ⟨r5.len, Ex.mut r5.ex fD4, fun j s e => ?_, r5.dis⟩
                  obtain ⟨o, p1, p2⟩ := r5.at_ j s e
                  refine ⟨o, p1, ?_⟩
                  have ne : ∀ a, s.own = true → o = some (.ref a) → a ≠ Dl := fun a hs ho => by
                    have hO : Owned (wipe σ vs) (wipeE envz vs) a := ⟨j, s, e, hs, by rw [p1, ho]⟩
                    rw [← hws] at hO
                    exact nD a (o2 a (gr3.own a (gr4.own a (owned_wipe hO))))
                  cases s with
                  | un => trivial
                  | xo a => exact p2
                  | fr d => exact p2
                  | ow l => obtain ⟨p, ws, z1, z2, z3, z4⟩ := p2; exact ⟨p, ws, z1, z2, by rw [upd_ne (ne p rfl z1)]; exact z3, z4⟩
                  | od ks ds => obtain ⟨p, ws, z1, z2, z3, z4⟩ := p2; exact ⟨p, ws, z1, z2, by rw [upd_ne (ne p rfl z1)]; exact z3, z4⟩
                · rw [← hws] at h
                  exact own a (o2 a (gr3.own a (gr4.own a (owned_wipe h))))
                · exact gr4.keep a (Ex.some gr3.h (Ex.some x2 h1)) (keep3 a h1 h2 h3) fun z => h3 (own a (o2 a (gr3.own a z)))
                · exact wipeE_idem
      · have e : i = items.length := by omega
        subst e
        rw [List.drop_length] at hc
        have hc : (Res.ok acc env : Res (List D)) = .ok accF env2 := hc
        cases hc
        refine .inl ⟨(yl _ F' H' x1 rel.ex).2 rfl, q _ F' H' ⟨x1, x2, fun a h => ?_, keep⟩ ?_ ⟨Dl, va, rfl, hD, fD, hDl, ra⟩⟩
        · obtain ⟨j, s, z1, z2, z3⟩ := h
          have hj : j ∉ vs := fun z => by
            rw [wipeE_un hwe z z1] at z2
            cases z2
          exact own a ⟨j, s, z1, z2, by rw [wipe_out hj]; exact z3⟩
        · refine ⟨by rw [rel.len, wipe_len], rel.ex, fun j s z => ?_, fun a b s t c p1 p2 o1 o2 v1 v2 => ?_⟩
          · by_cases hj : j ∈ vs
            · rw [wipeE_un hwe hj z]
              have hl := (List.getElem?_eq_some_iff.mp z).1
              rw [rel.len, wipe_len] at hl
              exact ⟨_, List.getElem?_eq_getElem hl, True.intro⟩
            · obtain ⟨o, y1, y2⟩ := rel.at_ j s z
              rw [wipe_out hj] at y1
              exact ⟨o, y1, y2⟩
          · have ha : a ∉ vs := fun z => by
              rw [wipeE_un hwe z p1] at o1
              cases o1
            have hb : b ∉ vs := fun z => by
              rw [wipeE_un hwe z p2] at o2
              cases o2
            exact rel.dis a b s t c p1 p2 o1 o2 (by rw [wipe_out ha]; exact v1) (by rw [wipe_out hb]; exact v2)
/-- [elt for tg in src if cond] -/
theorem pd_lc {elt tg iter : Expr} {ifs : List Expr} {scope : Scope} {own : List (Str × Nat)} {js : List Nat} {γ : D → En → Option En} {src : M (List D)} {cond : M Bool} {fe : M D} (hc : X.calm = true) (hN : X.N.Nodup) (hi : PY X S W tg iter src) (ok : BlkOk X.N X.env.scope scope own) (hj : ∀ i ∈ js, i ∈ own.map (·.2))
    (hg : ∀ (s : Shared) (H : Hp) (C : Addr) (cl : List (Str × Addr)) (fp : List Addr), PGd (X.blk s H scope (compEnvC scope cl C X.env) fp) tg js γ)
    (ht : ∀ (s : Shared) (H : Hp) (C : Addr) (cl : List (Str × Addr)) (fp : List Addr), PTs (X.blk s H scope (compEnvC scope cl C X.env) fp) ifs (rd X.K S W0 TB cond))
    (he : ∀ (s : Shared) (H : Hp) (C : Addr) (cl : List (Str × Addr)) (fp : List Addr), PF (X.blk s H scope (compEnvC scope cl C X.env) fp) S W0 elt fe) (hs : ∀ x, foldedSetIterable iter X.env x = pure x := by intro _; rfl) :
    PD X S W (.ListComp elt [⟨tg, iter, ifs, 0⟩] scope pos) (mLc (own.map (·.2)) γ src cond fe) :=
  PE.imp (pe_lc (g := rG X.K js γ) (tt := rd X.K S W0 TB cond) (te := rd X.K S W0 (TF X.K) fe) hc hN hi ok hg ht he hs) fun σ H Q q => rd_lc hj (fun _ _ _ h => h) (fun _ _ _ _ h => h) (fun _ _ _ h => h) (fun _ _ _ h => h) q
def mYes : M Bool := fun env => .ok true env
theorem pts_yes : PTs X [] (rd X.K S W TB mYes) := ⟨fun pins s σ H Q I ⟨F, env, rel, q⟩ => pts_nil.run pins s σ H Q I (q true F H Gr.refl rel rfl)⟩
theorem pts_if {f : M Bool} (h : PB X S W c f) : PTs X [c] (rd X.K S W TB f) := pts_one h
end
end Iv

set_option Elab.async false
set_option linter.all false
set_option maxRecDepth 100000
/-! Statements, whole defs. -/
namespace Iv
open PySem PySem.Spec PyProof.Rows L2 Evl

/-- how a statement ends -/
inductive Fl where
  | nx | rt (d : D) | bk | ct
/-- against the def's entry: F0, H0 -/
structure Bd (F0 H0 F H : Hp) (σ : L2.St) (env : En) : Prop where
  f : Ex F0 F
  h : Ex H0 H
  keep : ∀ a, H0 a ≠ none → F0 a = none → F a = none
  own : ∀ a, Owned σ env a → H0 a = none
theorem Bd.gr {F0 H0 F H F' H' : Hp} {σ : L2.St} {env env' : En} (b : Bd F0 H0 F H σ env) (g : Gr σ env F H env' F' H') : Bd F0 H0 F' H' σ env' :=
  ⟨b.f.trans g.f, b.h.trans g.h, fun a h1 h2 => g.keep a (Ex.some b.h h1) (b.keep a h1 h2) fun z => h1 (b.own a z), fun a h => b.own a (g.own a h)⟩
section
variable {K : PySem.W.Frag} {S : Xs} {W : WX} {F0 H0 : Hp}
/-- G: the ghost heap ahead of it -/
def okS (K : PySem.W.Frag) (S : Xs) (W : WX) (F0 H0 G : Hp) (D : Ends) : Res Fl → Prop
  | .ok .nx env => ∀ σ F H, Ex G F → Bd F0 H0 F H σ env → Rel K F H σ env → D.nx σ H
  | .ok .bk env => ∀ σ F H, Ex G F → Bd F0 H0 F H σ env → Rel K F H σ env → D.bk σ H
  | .ok .ct env => ∀ σ F H, Ex G F → Bd F0 H0 F H σ env → Rel K F H σ env → D.ct σ H
  | .ok (.rt d) _ => ∀ v F H, New F0 H0 F H → R K F d v → D.rt v H
  | .ex c x env => ∀ a σ F H, Ex G F → Bd F0 H0 F H σ env → Rel K F H σ env → RX K S F c x a → W (S.cls c) a σ H
  | .bad => False
theorem okS.shift {G G' : Hp} {D : Ends} {r : Res Fl} (e : Ex G G') (h : okS K S W F0 H0 G D r) : okS K S W F0 H0 G' D r := by
  cases r with
  | bad => exact h
  | ex c x env => exact fun a σ F H e' => h a σ F H (e.trans e')
  | ok f env =>
    cases f with
    | nx => exact fun σ F H e' => h σ F H (e.trans e')
    | bk => exact fun σ F H e' => h σ F H (e.trans e')
    | ct => exact fun σ F H e' => h σ F H (e.trans e')
    | rt d => exact h
def rdS (K : PySem.W.Frag) (S : Xs) (W : WX) (F0 H0 : Hp) (g : M Fl) : TS := fun D σ H => ∃ F env, Bd F0 H0 F H σ env ∧ Rel K F H σ env ∧ okS K S W F0 H0 F D (g env)
/-- from a statement's end to an expression's within it -/
theorem okS.ex_bind {α β : Type} {T : RT α β} {D : Ends} {σ : L2.St} {F H : Hp} {env : En} {r : Res α} {k : α → En → Res Fl} {Q : β → Hp → Prop} (b : Bd F0 H0 F H σ env) (h : okS K S W F0 H0 F D (r.bind k))
    (q : ∀ a env' v F' H', r = .ok a env' → Gr σ env F H env' F' H' → Bd F0 H0 F' H' σ env' → Rel K F' H' σ env' → T H F' H' env' a v → okS K S W F0 H0 F' D (k a env') → Q v H') : okG K S W σ T F H env Q r := by
  cases r with
  | ok a e => exact fun v F' H' g rel t => q a e v F' H' rfl g (b.gr g) rel t (h.shift g.f)
  | ex c x e => exact fun a F' H' g rel t => h a σ F' H' g.f (b.gr g) rel t
  | bad => exact h
end

section
variable {X : Cx} {S : Xs} {W : WX} {F0 H0 : Hp} {e c : Expr} {es : List Expr} {st : Stmt} {rest body : List Stmt} {pos : Pos}
def DS (X : Cx) (S : Xs) (W : WX) (F0 H0 : Hp) (st : Stmt) (g : M Fl) : Prop := PS X st (rdS X.K S W F0 H0 g)
def DSs (X : Cx) (S : Xs) (W : WX) (F0 H0 : Hp) (st : List Stmt) (g : M Fl) : Prop := PSs X st (rdS X.K S W F0 H0 g)
theorem PS.imp {t t' : TS} (h : PS X st t) (q : ∀ D σ H, t' D σ H → t D σ H) : PS X st t' := ⟨fun pins s σ H D I hw => h.run pins s σ H D I (q D σ H hw)⟩
theorem PSs.imp {t t' : TS} (h : PSs X rest t) (q : ∀ D σ H, t' D σ H → t D σ H) : PSs X rest t' := ⟨fun pins s σ H D I hw => h.run pins s σ H D I (q D σ H hw)⟩
def mNx : M Fl := fun env => .ok .nx env
def mSeq (g h : M Fl) : M Fl := fun env => match g env with
  | .ok .nx env' => h env'
  | r => r
theorem dss_nil : DSs X S W F0 H0 [] mNx := PSs.imp pss_nil fun D σ H ⟨F, env, b, rel, q⟩ => q σ F H (Ex.refl _) b rel
theorem dss_one {g : M Fl} (h : DS X S W F0 H0 st g) : DSs X S W F0 H0 [st] g := pss_one h
theorem dss_cons {g h : M Fl} (h1 : DS X S W F0 H0 st g) (h2 : DSs X S W F0 H0 rest h) : DSs X S W F0 H0 (st :: rest) (mSeq g h) := PSs.imp (pss_cons h1 h2) fun D σ H ⟨F, env, b, rel, q⟩ => by
  refine ⟨F, env, b, rel, ?_⟩
  unfold mSeq at q
  cases hg : g env with
  | bad => rw [hg] at q; exact q
  | ex c x e => rw [hg] at q; exact q
  | ok f e =>
    rw [hg] at q
    cases f with
    | nx => exact fun σ' F' H' e' b' rel' => ⟨F', e, b', rel', okS.shift e' q⟩
    | rt d => exact q
    | bk => exact q
    | ct => exact q
/-! ### name = value -/
def slOf : Sv → Sl
  | .d x => .fr x
  | .l ds => .ow ds
  | .k ks ds => .od ks ds
def mSet (i : Nat) (f : M Sv) : M Fl := fun env => (f env).bind fun sv env => .ok .nx (env.set i (slOf sv))
theorem rdS_set {i : Nat} {f : M Sv} {D : Ends} {σ : L2.St} {H : Hp} (h : rdS X.K S W F0 H0 (mSet i f) D σ H) : rd X.K S W (TV X.K) f σ H fun v H' => D.nx (σ.set i (some v)) H' := by
  obtain ⟨F, env, b, rel, q⟩ := h
  refine ⟨F, env, rel, okS.ex_bind b q fun sv env' v F' H' hr g b' rel' rv q => ?_⟩
  have q : ∀ σ F H, Ex F' F → Bd F0 H0 F H σ (env'.set i (slOf sv)) → Rel X.K F H σ (env'.set i (slOf sv)) → D.nx σ H := q
  have rv : RV X.K H F' H' sv v := rv
  have fresh : ∀ p, H p = none → ¬ Owned σ env' p := fun p hp z => (rel.owned (g.own p z)).2 hp
  have other : ∀ (j : Nat) (t : Sl) a, H a = none → env'[j]? = some t → t.own = true → σ[j]? ≠ some (some (.ref a)) := fun j t a ha e1 e2 e3 => fresh a ha ⟨j, t, e1, e2, e3⟩
  have bd : Rel X.K F' H' (σ.set i (some v)) (env'.set i (slOf sv)) → (∀ a, Owned (σ.set i (some v)) (env'.set i (slOf sv)) a → H0 a = none) → D.nx (σ.set i (some v)) H' := fun r o => q _ F' H' (Ex.refl _) ⟨b'.f, b'.h, b'.keep, o⟩ r
  have hfr : ∀ p, H p = none → H0 p = none := fun p hp => by
    cases z : H0 p with
    | none => rfl
    | some o => rw [b.h p o z] at hp; cases hp
  have own : ∀ {s : Sl} {p : Addr}, H p = none → v = .ref p → ∀ a, Owned (σ.set i (some v)) (env'.set i s) a → H0 a = none := fun {s p} hp hv a ⟨j, t, e1, e2, e3⟩ => by
    by_cases hj : i = j
    · subst hj
      have hi : i < env'.length := by
        have := (List.getElem?_eq_some_iff.mp e1).1
        simpa using this
      rw [List.getElem?_set_self (by rw [← rel'.len]; exact hi)] at e3
      rw [hv] at e3
      cases e3
      exact hfr _ hp
    · rw [List.getElem?_set_ne hj] at e1 e3
      exact b'.own a ⟨j, t, e1, e2, e3⟩
  cases sv with
  | d x => exact bd (rel'.set (o := some v) ⟨v, rfl, rv⟩ fun _ z => nomatch z) fun a z => b'.own a (owned_set rfl z)
  | l ds =>
    obtain ⟨p, vs, e1, hb, n, z, r⟩ := rv
    refine bd (rel'.set (o := some v) ⟨p, vs, by rw [e1], n, z, r⟩ fun a _ ha j t _ e2 e3 => ?_) (own hb e1)
    rw [e1] at ha; cases ha
    exact other j t _ hb e2 e3
  | k ks ds =>
    obtain ⟨p, vs, e1, hb, n, z, y, r⟩ := rv
    refine bd (rel'.set (o := some v) ⟨p, vs, by rw [e1], n, z, y, r⟩ fun a _ ha j t _ e2 e3 => ?_) (own hb e1)
    rw [e1] at ha; cases ha
    exact other j t _ hb e2 e3
theorem ds_set {i : Nat} {x : Str} {pos' : Pos} {f : M Sv} (hN : X.N.Nodup) (hi : X.N[i]? = some x) (hx : Loc X.env.scope x) (he : PD X S W e f) (hs : swapsWith e (some (.Name x pos')) pos.line X.env = pure false := by rfl) (hf : X.fn x = true ∨ X.env.scope.names.lookup x = some .local := by first | exact .inl rfl | exact .inr rfl | assumption) :
    DS X S W F0 H0 (.Assign [.Name x pos'] e pos) (mSet i f) := PS.imp (ps_set hN hi hx he hs hf) fun D σ H h => rdS_set h
/-- x = [.. for ..] -/
theorem ds_setLc {i : Nat} {y : Str} {py spos : Pos} {elt tg iter : Expr} {ifs : List Expr} {scope : Scope} {own : List (Str × Nat)} {js : List Nat} {γ : D → En → Option En} {src : M (List D)} {cond : M Bool} {fe : M D} (hc : X.calm = true) (hN : X.N.Nodup) (hy : X.N[i]? = some y) (hyl : X.env.scope.names.lookup y = some .local)
    (hsw : swapsWith (.ListComp elt [⟨tg, iter, ifs, 0⟩] scope pos) (some (.Name y py)) spos.line X.env = pure true) (hi : PY X S W tg iter src) (ok : BlkOk X.N X.env.scope scope own) (hj : ∀ i ∈ js, i ∈ own.map (·.2))
    (hg : ∀ (s : Shared) (H : Hp) (C : Addr) (cl : List (Str × Addr)) (fp : List Addr), PGd (X.blk s H scope (compEnvC scope cl C X.env) fp) tg js γ)
    (ht : ∀ (s : Shared) (H : Hp) (C : Addr) (cl : List (Str × Addr)) (fp : List Addr), PTs (X.blk s H scope (compEnvC scope cl C X.env) fp) ifs (rd X.K S W0 TB cond))
    (he : ∀ (s : Shared) (H : Hp) (C : Addr) (cl : List (Str × Addr)) (fp : List Addr), PF (X.blk s H scope (compEnvC scope cl C X.env) fp) S W0 elt fe) (hs : ∀ x, foldedSetIterable iter X.env x = pure x := by intro _; rfl) :
    DS X S W F0 H0 (.Assign [.Name y py] (.ListComp elt [⟨tg, iter, ifs, 0⟩] scope pos) spos) (mSet i (mLc (own.map (·.2)) γ src cond fe)) :=
  PS.imp (ps_setLc (g := rG X.K js γ) (tt := rd X.K S W0 TB cond) (te := rd X.K S W0 (TF X.K) fe) hc hN hy hyl hsw hi ok hg ht he hs) fun D σ H h => rd_lc hj (fun _ _ _ h => h) (fun _ _ _ _ h => h) (fun _ _ _ h => h) (fun _ _ _ h => h) (rdS_set h)
/-- a, b = value -/
def mAsg (γ : D → En → Option En) (f : M D) : M Fl := fun env => (f env).bind fun d env => match γ d env with
  | some env' => .ok .nx env'
  | none => .bad
theorem ds_asg {tg : Expr} {js : List Nat} {γ : D → En → Option En} {f : M D} (he : PF X S W e f) (hg : PGd X tg js γ) (hs : swapsWithSole [tg] e pos.line X.env = pure false := by rfl) (hw : swappedStores [tg] e X.env = pure none := by rfl)
    (h1 : (assignEach [tg] X.env).map (·.2) = [assign tg X.env] := by rfl) : DS X S W F0 H0 (.Assign [tg] e pos) (mAsg γ f) := PS.imp (ps_asg he hg hs hw h1) fun D σ H ⟨F, env, b, rel, q⟩ => by
  refine ⟨F, env, rel, okS.ex_bind b q fun d env' v F' H' hr g b' rel' rv q => ?_⟩
  cases hγ : γ d env' with
  | none => rw [hγ] at q; exact q.elim
  | some env2 =>
    rw [hγ] at q
    exact ⟨F', env', d, rel', rv, env2, hγ, fun σ' rel2 o2 l2 k2 => q σ' F' H' (Ex.refl _) ⟨b'.f, b'.h, b'.keep, fun a z => b'.own a (o2 a z)⟩ rel2⟩
/-! ### return, if, an expression alone -/
def mRet (f : M D) : M Fl := fun env => (f env).bind fun d env => .ok (.rt d) env
theorem ds_ret {f : M D} (he : PF X S W e f) : DS X S W F0 H0 (.Return (some e) pos) (mRet f) := PS.imp (ps_ret he) fun D σ H ⟨F, env, b, rel, q⟩ => by
  refine ⟨F, env, rel, okS.ex_bind b q fun d env' v F' H' hr g b' rel' rv q => ?_⟩
  exact q v F' H' ⟨b'.f, b'.h, rel'.ex, b'.keep⟩ rv
def mRetN : M Fl := fun env => .ok (.rt .non) env
theorem ds_retN : DS X S W F0 H0 (.Return none pos) mRetN := PS.imp ps_retN fun D σ H ⟨F, env, b, rel, q⟩ => q .non F H ⟨b.f, b.h, rel.ex, b.keep⟩ (by simp only [R])
def mDrop (f : M Sv) : M Fl := fun env => (f env).bind fun _ env => .ok .nx env
theorem ds_expr {f : M Sv} (he : PD X S W e f) (hs : swapsWith e none pos.line X.env = pure false := by rfl) : DS X S W F0 H0 (.Expr e pos) (mDrop f) := PS.imp (ps_expr he hs) fun D σ H ⟨F, env, b, rel, q⟩ => by
  refine ⟨F, env, rel, okS.ex_bind b q fun sv env' v F' H' hr g b' rel' rv q => ?_⟩
  exact q σ F' H' (Ex.refl _) b' rel'
def mIfS (f : M Bool) (g h : M Fl) : M Fl := fun env => (f env).bind fun b env => if b = true then g env else h env
theorem ds_if {f : M Bool} {g h : M Fl} {ss tt : List Stmt} (hc : PB X S W c f) (ha : DSs X S W F0 H0 ss g) (hb : DSs X S W F0 H0 tt h) : DS X S W F0 H0 (.If c ss tt pos) (mIfS f g h) := PS.imp (ps_if hc ha hb) fun D σ H ⟨F, env, b, rel, q⟩ => by
  refine ⟨F, env, rel, okS.ex_bind b q fun k env' v F' H' hr g b' rel' rv q => ?_⟩
  have rv : k = v := rv
  subst rv
  cases k with
  | true => exact ⟨F', env', b', rel', q⟩
  | false => exact ⟨F', env', b', rel', q⟩
theorem ds_break : DS X S W F0 H0 (.Break pos) (fun env => .ok .bk env) := PS.imp ps_break fun D σ H ⟨F, env, b, rel, q⟩ => q σ F H (Ex.refl _) b rel
theorem ds_continue : DS X S W F0 H0 (.Continue pos) (fun env => .ok .ct env) := PS.imp ps_continue fun D σ H ⟨F, env, b, rel, q⟩ => q σ F H (Ex.refl _) b rel
theorem ds_pass : DS X S W F0 H0 (.Pass pos) mNx := PS.imp ps_pass fun D σ H ⟨F, env, b, rel, q⟩ => q σ F H (Ex.refl _) b rel
theorem ds_doc {x : Str} {j : Nat} {pos' : Pos} : DS X S W F0 H0 (.Expr (.Constant (.str x) j pos) pos') mNx := PS.imp ps_doc fun D σ H ⟨F, env, b, rel, q⟩ => q σ F H (Ex.refl _) b rel

/-! ### for -/
def forL (γ : D → En → Option En) (g : M Fl) : List D → M Fl
  | [], env => .ok .nx env
  | x :: xs, env => match γ x env with
    | none => .bad
    | some env1 => match g env1 with
      | .ok .nx env2 => forL γ g xs env2
      | .ok .ct env2 => forL γ g xs env2
      | .ok .bk env2 => .ok .nx env2
      | r => r
def mFor (γ : D → En → Option En) (src : M (List D)) (g : M Fl) : M Fl := fun env => (src env).bind fun items env => forL γ g items env
theorem ds_for {tg iter : Expr} {js : List Nat} {γ : D → En → Option En} {src : M (List D)} {g : M Fl} (hp : PassesOwn (model X.prog X.w) X.A X.env X.xe) (hc : X.calm = true) (hi : PY X S W tg iter src) (hg : PGd X tg js γ) (hb : DSs X S W F0 H0 body g)
    (hs : ∀ x, foldedSetIterable iter X.env x = pure x := by intro _; rfl) : DS X S W F0 H0 (.For tg iter body [] pos) (mFor γ src g) := PS.imp (ps_for hp hc hi hg hb hs) fun D σ H ⟨F, env, b, rel, q⟩ => by
  refine ⟨F, env, rel, okS.ex_bind b q fun items env1 J F1 H1 hr gr b1 rel1 yl q => ?_⟩
  have yl : Yl X.K F1 items J := yl
  refine ⟨fun i m σ H => m = items.length - i ∧ i ≤ items.length ∧ ∃ F env, Ex F1 F ∧ Bd F0 H0 F H σ env ∧ Rel X.K F H σ env ∧ okS X.K S W F0 H0 F D (forL γ g (items.drop i) env), ⟨items.length, by simp, Nat.zero_le _, F1, env1, Ex.refl _, b1, rel1, q⟩, ?_⟩
  rintro i m σ' H' ⟨rfl, hi', F', env', x1, b', rel', q'⟩
  by_cases hlt : i < items.length
  · refine .inr ?_
    have hget : items[i]? = some items[i] := List.getElem?_eq_getElem hlt
    obtain ⟨hgo, hy⟩ := (yl i F' H' x1 rel'.ex).1 _ hget
    rw [List.drop_eq_getElem_cons hlt] at q'
    unfold forL at q'
    refine ⟨hgo, fun σ H => i + 1 ≤ items.length ∧ ∃ F env, Ex F1 F ∧ Bd F0 H0 F H σ env ∧ Rel X.K F H σ env ∧ okS X.K S W F0 H0 F D (forL γ g (items.drop (i + 1)) env), fun σ2 H2 h => ⟨items.length - (i + 1), by omega, rfl, h⟩, fun x H2 y => ?_⟩
    obtain ⟨e2, rx⟩ := hy x H2 y
    subst e2
    cases hγ : γ items[i] env' with
    | none => rw [hγ] at q'; exact q'.elim
    | some envx =>
      rw [hγ] at q'
      dsimp only at q'
      refine ⟨F', env', items[i], rel', rx, envx, hγ, fun σ2 rel2 o2 l2 k2 => ?_⟩
      have b2 : Bd F0 H0 F' H2 σ2 envx := ⟨b'.f, b'.h, b'.keep, fun a z => b'.own a (o2 a z)⟩
      refine ⟨F', envx, b2, rel2, ?_⟩
      cases hg : g envx with
      | bad => rw [hg] at q'; exact q'
      | ex c x e => rw [hg] at q'; exact q'
      | ok f e =>
        rw [hg] at q'
        cases f with
        | nx => exact fun σ3 F3 H3 e3 b3 r3 => ⟨hlt, F3, e, x1.trans e3, b3, r3, okS.shift e3 q'⟩
        | ct => exact fun σ3 F3 H3 e3 b3 r3 => ⟨hlt, F3, e, x1.trans e3, b3, r3, okS.shift e3 q'⟩
        | bk => exact q'
        | rt d => exact q'
  · have e : i = items.length := by omega
    subst e
    rw [List.drop_length] at q'
    exact .inl ⟨(yl _ F' H' x1 rel'.ex).2 rfl, q' σ' F' H' (Ex.refl _) b' rel'⟩

/-! ### while -/
def whN (f : M Bool) (g : M Fl) : Nat → M Fl
  | 0, _ => .bad
  | n + 1, env => match f env with
    | .ok true env1 => match g env1 with
      | .ok .nx env2 => whN f g n env2
      | .ok .ct env2 => whN f g n env2
      | .ok .bk env2 => .ok .nx env2
      | r => r
    | .ok false env1 => .ok .nx env1
    | .ex c x e => .ex c x e
    | .bad => .bad
open Classical in
/-- as many turns as it takes -/
noncomputable def mWh (f : M Bool) (g : M Fl) : M Fl := fun env => if h : ∃ n, whN f g n env ≠ .bad then whN f g (Classical.choose h) env else .bad
theorem whN_mono {f : M Bool} {g : M Fl} : ∀ {n m : Nat} {env : En}, n ≤ m → whN f g n env ≠ .bad → whN f g m env = whN f g n env
  | 0, _, _, _, h => absurd rfl h
  | n + 1, 0, _, hl, _ => absurd hl (by omega)
  | n + 1, m + 1, env, hl, h => by
    unfold whN at h ⊢
    cases hf : f env with
    | bad => rfl
    | ex c x e => rfl
    | ok b e =>
      cases b with
      | false => rfl
      | true =>
        rw [hf] at h
        dsimp only at h ⊢
        cases hg : g e with
        | bad => rfl
        | ex c x e => rfl
        | ok r e2 =>
          rw [hg] at h
          cases r with
          | nx => exact whN_mono (by omega) h
          | ct => exact whN_mono (by omega) h
          | bk => rfl
          | rt d => rfl
theorem mWh_eq {f : M Bool} {g : M Fl} {n : Nat} {env : En} {r : Res Fl} (h : whN f g n env = r) (hb : r ≠ .bad) : mWh f g env = r := by
  have hx : ∃ n, whN f g n env ≠ .bad := ⟨n, by rw [h]; exact hb⟩
  unfold mWh
  rw [dif_pos hx]
  have hc := Classical.choose_spec hx
  rcases Nat.le_total n (Classical.choose hx) with hl | hl
  · rw [whN_mono hl (by rw [h]; exact hb), h]
  · rw [← whN_mono hl hc, h]
theorem ds_while {f : M Bool} {g : M Fl} (hp : PassesOwn (model X.prog X.w) X.A X.env X.xe) (hc : PB X S W c f) (hb : DSs X S W F0 H0 body g) : DS X S W F0 H0 (.While c body [] pos) (mWh f g) := PS.imp (ps_while hp hc hb) fun D σ H ⟨F, env, b, rel, q⟩ => by
  have key : ∃ n, okS X.K S W F0 H0 F D (whN f g n env) := by
    unfold mWh at q
    split at q
    · exact ⟨_, q⟩
    · exact q.elim
  obtain ⟨n, q⟩ := key
  refine ⟨fun m σ H => ∃ F env, Bd F0 H0 F H σ env ∧ Rel X.K F H σ env ∧ okS X.K S W F0 H0 F D (whN f g m env), ⟨n, F, env, b, rel, q⟩, ?_⟩
  rintro m σ' H' ⟨F', env', b', rel', q'⟩
  cases m with
  | zero => exact q'.elim
  | succ m =>
    unfold whN at q'
    refine ⟨F', env', rel', ?_⟩
    cases hf : f env' with
    | bad => rw [hf] at q'; exact q'
    | ex c x e => rw [hf] at q'; exact fun a F2 H2 g2 r2 t => q' a σ' F2 H2 g2.f (b'.gr g2) r2 t
    | ok k e =>
      rw [hf] at q'
      intro v F2 H2 g2 rel2 ev
      have ev : k = v := ev
      subst ev
      cases k with
      | false => exact q' σ' F2 H2 g2.f (b'.gr g2) rel2
      | true =>
        dsimp only at q'
        rw [if_pos rfl]
        refine ⟨fun σ H => ∃ m', m' < m + 1 ∧ ∃ F env, Bd F0 H0 F H σ env ∧ Rel X.K F H σ env ∧ okS X.K S W F0 H0 F D (whN f g m' env), fun σ H h => h, F2, e, b'.gr g2, rel2, ?_⟩
        have q' := okS.shift g2.f q'
        cases hg : g e with
        | bad => rw [hg] at q'; exact q'
        | ex c x e => rw [hg] at q'; exact q'
        | ok r e2 =>
          rw [hg] at q'
          cases r with
          | nx => exact fun σ3 F3 H3 e3 b3 r3 => ⟨m, Nat.lt_succ_self m, F3, e2, b3, r3, okS.shift e3 q'⟩
          | ct => exact fun σ3 F3 H3 e3 b3 r3 => ⟨m, Nat.lt_succ_self m, F3, e2, b3, r3, okS.shift e3 q'⟩
          | bk => exact q'
          | rt d => exact q'
end
end Iv

set_option Elab.async false
set_option linter.all false
set_option maxRecDepth 100000
/-! Whole defs; lists of a def's own; great divisions; the law's end. -/
namespace Iv
open PySem PySem.Spec PyProof.Rows L2 Evl

section
variable {X : Cx} {S : Xs} {W : WX} {F0 H0 : Hp} {e c : Expr} {es : List Expr} {pos : Pos}
/-! ### lists of one's own -/
theorem Owned.at_ {K : PySem.W.Frag} {F H F1 H1 : Hp} {σ : L2.St} {env env1 : En} {i : Nat} {l : List D} (rel1 : Rel K F1 H1 σ env1) (rel : Rel K F H σ env) (g : Gr σ env F H env1 F1 H1) (h : env1[i]? = some (.ow l)) :
    ∃ p vs, σ[i]? = some (some (.ref p)) ∧ F1 p = none ∧ H p = some (.lst vs) ∧ H1 p = some (.lst vs) ∧ Rs K F1 l vs := by
  obtain ⟨o, q1, p, vs, q2, n, q3, r⟩ := rel1.at_ i _ h
  subst q2
  have ow := rel.owned (g.own p ⟨i, _, h, rfl, q1⟩)
  refine ⟨p, vs, q1, n, ?_, q3, r⟩
  cases z : H p with
  | none => exact absurd z ow.2
  | some o =>
    have := g.h p o z
    rw [q3] at this
    cases this
    rfl
/-- an own list changes -/
theorem Rel.put {K : PySem.W.Frag} {F H : Hp} {σ : L2.St} {env : En} {i : Nat} {l l' : List D} {vs' : List V} {p : Addr} (rel : Rel K F H σ env) (h : env[i]? = some (.ow l)) (hs : σ[i]? = some (some (.ref p))) (n : F p = none) (r : Rs K F l' vs') :
    Rel K F (upd H p (.lst vs')) σ (env.set i (.ow l')) ∧ ∀ a, Owned σ (env.set i (.ow l')) a → Owned σ env a := by
  have hi : i < env.length := (List.getElem?_eq_some_iff.mp h).1
  have back : ∀ {j : Nat} {t : Sl}, (env.set i (.ow l'))[j]? = some t → t.own = true → ∃ t', env[j]? = some t' ∧ t'.own = true ∧ (j ≠ i → t' = t) := fun {j t} e o => by
    by_cases hj : i = j
    · subst hj; exact ⟨_, h, rfl, fun z => absurd rfl z⟩
    · rw [List.getElem?_set_ne hj] at e; exact ⟨t, e, o, fun _ => rfl⟩
  refine ⟨⟨by rw [List.length_set]; exact rel.len, fun a u q => ?_, fun j t e => ?_, fun a b s t c e1 e2 o1 o2 v1 v2 => ?_⟩, fun a ⟨j, t, e, o, v⟩ => ?_⟩
  · rw [upd_ne (fun z => by rw [z, n] at q; cases q)]; exact rel.ex a u q
  · by_cases hj : i = j
    · subst hj
      rw [List.getElem?_set_self hi] at e
      cases e
      exact ⟨_, hs, p, vs', rfl, n, upd_same, r⟩
    · rw [List.getElem?_set_ne hj] at e
      obtain ⟨o, q1, q2⟩ := rel.at_ j t e
      refine ⟨o, q1, ?_⟩
      have ne : ∀ a, t.own = true → o = some (.ref a) → a ≠ p := fun a ho hv z => by
        subst z
        exact hj (rel.dis i j _ t a h e rfl ho hs (by rw [q1, hv]))
      cases t with
      | un => trivial
      | xo a => exact q2
      | fr d => exact q2
      | ow l0 => obtain ⟨p', ws, z1, z2, z3, z4⟩ := q2; exact ⟨p', ws, z1, z2, by rw [upd_ne (ne p' rfl z1)]; exact z3, z4⟩
      | od ks ds => obtain ⟨p', ws, z1, z2, z3, z4⟩ := q2; exact ⟨p', ws, z1, z2, by rw [upd_ne (ne p' rfl z1)]; exact z3, z4⟩
  · obtain ⟨s', e1', o1', _⟩ := back e1 o1
    obtain ⟨t', e2', o2', _⟩ := back e2 o2
    exact rel.dis a b s' t' c e1' e2' o1' o2' v1 v2
  · obtain ⟨t', e', o', _⟩ := back e o
    exact ⟨j, t', e', o', v⟩
theorem Bd.put {F H : Hp} {σ : L2.St} {env env' : En} {p : Addr} {o : HO} (b : Bd F0 H0 F H σ env) (hp : Owned σ env p) (h : ∀ a, Owned σ env' a → Owned σ env a) : Bd F0 H0 F (upd H p o) σ env' :=
  ⟨b.f, Ex.mut b.h (b.own p hp), b.keep, fun a z => b.own a (h a z)⟩
/-- the list that slot i owns -/
def owAt (env : En) (i : Nat) : Option (List D) := match env[i]? with
  | some (.ow l) => some l
  | _ => none
theorem owAt_eq {env : En} {i : Nat} {l : List D} (h : owAt env i = some l) : env[i]? = some (.ow l) := by
  unfold owAt at h
  split at h
  · rename_i l' e
    cases h
    exact e
  · cases h
/-- x.append(e) -/
def mApp (i : Nat) (f : M D) : M Fl := fun env => match owAt env i with
  | some _ => (f env).bind fun d env => match owAt env i with
    | some l => if l.length < 90000 then .ok .nx (env.set i (.ow (l ++ [d]))) else .bad
    | none => .bad
  | none => .bad
theorem ds_app {i : Nat} {f : M D} {st : Stmt} (h : PS X st (tDrop (tBM X.K "list" rAppend (tVar i) (tCons (rd X.K S W (TF X.K) f) tNil)))) : DS X S W F0 H0 st (mApp i f) :=
  PS.imp h fun D σ H ⟨F, env, b, rel, q⟩ => by
  unfold mApp at q
  cases h0 : owAt env i with
  | none => rw [h0] at q; exact q.elim
  | some l0 =>
    rw [h0] at q
    obtain ⟨p, vs, e1, n1, h1, h2, r1⟩ := Owned.at_ rel rel Gr.refl (owAt_eq h0)
    refine ⟨.ref p, e1, .inl ⟨rfl, vs, sq_of h1⟩, F, env, rel, okS.ex_bind b q fun d env' v F' H' hr g b' rel' rv q => ?_⟩
    have rv : R X.K F' d v := rv
    cases h3 : owAt env' i with
    | none => rw [h3] at q; exact q.elim
    | some l =>
      rw [h3] at q
      obtain ⟨p', vs', k1, k2, k3, k4, k5⟩ := Owned.at_ rel' rel g (owAt_eq h3)
      rw [e1] at k1
      cases k1
      rw [h1] at k3
      cases k3
      dsimp only at q
      split at q
      · rename_i hl
        have hp := rel'.put (owAt_eq h3) e1 k2 (k5.append (Rs.cons rv Rs.nil))
        exact ⟨p, vs, v, rfl, rfl, k4, sz_lt (by rw [k5.length]; omega), q σ F' _ (Ex.refl _) (b'.put ⟨i, _, owAt_eq h3, rfl, e1⟩ hp.2) hp.1⟩
      · exact q.elim
/-- x[k] = e -/
def mPut (i : Nat) (ix f : M D) : M Fl := fun env => (f env).bind fun d env => match owAt env i with
  | some _ => (ix env).bind fun k env => match owAt env i, k with
    | some l, .int k => (match ixN l.length k with
      | some j => .ok .nx (env.set i (.ow (l.set j d)))
      | none => .bad)
    | _, _ => .bad
  | none => .bad
theorem ds_put {i : Nat} {ix f : M D} {st : Stmt} (h : PS X st (tAsg (rd X.K S W (TF X.K) f) (gSub (tVar i) (rd X.K S W (TP X.K) ix) rSetL))) : DS X S W F0 H0 st (mPut i ix f) :=
  PS.imp h fun D σ H ⟨F, env, b, rel, q⟩ => by
  refine ⟨F, env, rel, okS.ex_bind b q fun d env1 v F1 H1 hr g1 b1 rel1 rv q => ?_⟩
  have rv : R X.K F1 d v := rv
  cases h0 : owAt env1 i with
  | none => rw [h0] at q; exact q.elim
  | some l0 =>
    rw [h0] at q
    obtain ⟨p, vs, e1, n1, h1, h2, r1⟩ := Owned.at_ rel1 rel1 Gr.refl (owAt_eq h0)
    refine ⟨.ref p, e1, F1, env1, rel1, okS.ex_bind b1 q fun k env2 u F2 H2 hr2 g2 b2 rel2 ru q => ?_⟩
    have ru : RP X.K F2 H2 k u := ru
    cases h3 : owAt env2 i with
    | none => rw [h3] at q; exact q.elim
    | some l =>
      rw [h3] at q
      obtain ⟨p', vs', k1, k2, k3, k4, k5⟩ := Owned.at_ rel2 rel1 g2 (owAt_eq h3)
      rw [e1] at k1
      cases k1
      rw [h1] at k3
      cases k3
      cases k with
      | int k =>
        dsimp only at q
        cases hj : ixN l.length k with
        | none => rw [hj] at q; exact q.elim
        | some j =>
          rw [hj] at q
          have hp := rel2.put (owAt_eq h3) e1 k2 (Rs.set j (rv.mono g2.f) k5)
          exact ⟨p, vs, k, j, rfl, ru.int, k4, by rw [k5.length]; exact hj, q σ F2 _ (Ex.refl _) (b2.put ⟨i, _, owAt_eq h3, rfl, e1⟩ hp.2) hp.1⟩
      | _ => exact q.elim
/-! ### raise, of a class without an own __init__ -/
def mRaise (c : Nat) : M Fl := fun env => .ex c none env
theorem ds_raise {c : Nat} {C : Addr} {st : Stmt} (h : PS X st (fun _ σ H => W (.ref C) none σ H)) (hC : S.cls c = .ref C) : DS X S W F0 H0 st (mRaise c) := PS.imp h fun D σ H ⟨F, env, b, rel, q⟩ => by
  have q := q none σ F H (Ex.refl _) b rel rfl
  rw [hC] at q
  exact q

/-! ### a whole def -/
def stE (n : Nat) (ds : List D) : En := ds.map Sl.fr ++ List.replicate (n - ds.length) .un
/-- what the def yields -/
def runF (n : Nat) (g : M Fl) (ds : List D) : FR := match g (stE n ds) with
  | .ok (.rt d) _ => .ok d
  | .ok .nx _ => .ok .non
  | .ex c x _ => .ex c x
  | _ => .bad
theorem start_rel {K : PySem.W.Frag} {F H : Hp} {N : List Str} {ds : List D} {vs : List V} (e : Ex F H) (r : Rs K F ds vs) : Rel K F H (L2.start N vs) (stE N.length ds) where
  len := by unfold stE L2.start; rw [List.length_append, List.length_append, List.length_map, List.length_map, List.length_replicate, List.length_replicate, r.length]
  ex := e
  at_ := fun i s h => by
    unfold stE at h
    unfold L2.start
    by_cases hi : i < ds.length
    · rw [List.getElem?_append_left (by rw [List.length_map]; exact hi), List.getElem?_map] at h
      obtain ⟨d, h1, h2⟩ := Option.map_eq_some_iff.mp h
      subst h2
      obtain ⟨v, q1, q2⟩ := r.get' h1
      refine ⟨some v, ?_, v, rfl, q2⟩
      rw [List.getElem?_append_left (by rw [List.length_map, r.length]; exact hi), List.getElem?_map, q1]
      rfl
    · rw [List.getElem?_append_right (by rw [List.length_map]; omega), List.length_map] at h
      obtain ⟨h1, h2⟩ := List.getElem?_eq_some_iff.mp h
      rw [List.getElem_replicate] at h2
      subst h2
      rw [List.length_replicate] at h1
      refine ⟨none, ?_, True.intro⟩
      rw [List.getElem?_append_right (by rw [List.length_map, r.length]; omega), List.length_map, r.length]
      exact List.getElem?_eq_some_iff.mpr ⟨by rw [List.length_replicate]; exact h1, by rw [List.getElem_replicate]⟩
  dis := fun i j s t a h1 _ o1 _ _ _ => by
    exfalso
    unfold stE at h1
    by_cases hi : i < ds.length
    · rw [List.getElem?_append_left (by rw [List.length_map]; exact hi), List.getElem?_map] at h1
      obtain ⟨d, _, h2⟩ := Option.map_eq_some_iff.mp h1
      subst h2
      cases o1
    · rw [List.getElem?_append_right (by rw [List.length_map]; omega), List.length_map] at h1
      obtain ⟨_, h2⟩ := List.getElem?_eq_some_iff.mp h1
      rw [List.getElem_replicate] at h2
      subst h2
      cases o1
theorem start_own {N : Nat} {ds : List D} {σ : L2.St} {a : Addr} : ¬ Owned σ (stE N ds) a := fun ⟨i, s, h1, o1, _⟩ => by
  unfold stE at h1
  by_cases hi : i < ds.length
  · rw [List.getElem?_append_left (by rw [List.length_map]; exact hi), List.getElem?_map] at h1
    obtain ⟨d, _, h2⟩ := Option.map_eq_some_iff.mp h1
    subst h2
    cases o1
  · rw [List.getElem?_append_right (by rw [List.length_map]; omega), List.length_map] at h1
    obtain ⟨_, h2⟩ := List.getElem?_eq_some_iff.mp h1
    rw [List.getElem_replicate] at h2
    subst h2
    cases o1
/-- the def of the text st at f, found under the name x -/
structure Df (K : PySem.W.Frag) (mg : Str → Option Value) (x : Str) (st : Stmt) (ps : List Str) : Prop where
  ex : ∃ f fd, Fun K x x st f fd ∧ mg x = some (.ref f) ∧ Binds K fd ps []
/-- a def by its body, in the air that keeps an exception's context -/
theorem okN {P : Program} {w : World} {K : PySem.W.Frag} {mg : Str → Option Value} {base : Heap} {x : Str} {st : Stmt} {f : Addr} {fd : FuncData} {N ps : List Str} {k : Nat} {sp : Sp} (Fn : Fun K x x st f fd) (Sc : FnScope N ps (defScope st)) (hl : ∀ vs H Q E, sp vs H Q E → vs.length = ps.length)
    (hb : ∀ (cdv : Value) (A : Around) (outer : List PySem.Env) (s : Shared) (H : Hp) (vs : List V) (Q : VK) (E : XK), Room k (A.deeper (envOfC x (defScope st) s.heap.objs.size f cdv)) → sp vs H Q E →
      ∃ t, PSs (cxOf (L2N.CX P w) P w K mg base N x (defScope st) f cdv A outer s H E) (defBody st) t ∧ t { nx := fun _ H' => Q .non H', rt := Q } (L2.start N vs) H) : FnOk P w K mg base (L2N.CX P w) (k + 1) f fd ps sp := by
  obtain ⟨_, _, _, _, _, _, cdv, _, _, e, lk, hcd⟩ := Fn.ex
  subst e
  exact fn_of lk hcd Sc hl fun A outer s H vs Q E r z => hb cdv A outer s H vs Q E r z
theorem fn_body {P : Program} {w : World} {K : PySem.W.Frag} {mg : Str → Option Value} {base : Heap} {S : Xs} {k : Nat} {x : Str} {st : Stmt} {f : Addr} {fd : FuncData} {N ps : List Str} {g : M Fl} (Fn : Fun K x x st f fd) (Sc : FnScope N ps (defScope st))
    (hb : ∀ (cdv : Value) (A : Around) (outer : List PySem.Env) (s : Shared) (H : Hp) (E : XK) (F0 H0 : Hp), Room k (A.deeper (envOfC x (defScope st) s.heap.objs.size f cdv)) →
      L2N.Takes (cxOf (L2N.CX P w) P w K mg base N x (defScope st) f cdv A outer s H E) (fun cls d _ H => E cls d H) →
      PassesOwn (model P w) (cxOf (L2N.CX P w) P w K mg base N x (defScope st) f cdv A outer s H E).A (cxOf (L2N.CX P w) P w K mg base N x (defScope st) f cdv A outer s H E).env (cxOf (L2N.CX P w) P w K mg base N x (defScope st) f cdv A outer s H E).xe →
      DSs (cxOf (L2N.CX P w) P w K mg base N x (defScope st) f cdv A outer s H E) S (fun cls d _ H => E cls d H) F0 H0 (defBody st) g) : FnOk P w K mg base (L2N.CX P w) (k + 1) f fd ps (spF K S ps.length (runF N.length g)) := by
  refine okN Fn Sc (fun vs H Q E ⟨F, ds, _, r, hl, _⟩ => by rw [r.length]; exact hl) (fun cdv A outer s H vs Q E hr ⟨F, ds, ef, r, hl, q⟩ => ?_)
  refine ⟨_, hb cdv A outer s H E F H hr (L2N.takes_of rfl rfl rfl rfl) (passes_of rfl), F, stE N.length ds, ⟨Ex.refl _, Ex.refl _, fun _ _ h => h, fun a z => absurd z start_own⟩, start_rel ef r, ?_⟩
  have new : ∀ {F' H' σ env}, Bd F H F' H' σ env → Rel K F' H' σ env → New F H F' H' := fun b rel => ⟨b.f, b.h, rel.ex, b.keep⟩
  unfold runF at q
  cases hg : g (stE N.length ds) with
  | bad => rw [hg] at q; exact q
  | ex c x e => rw [hg] at q; exact fun a σ F' H' _ b rel t => q a F' H' (new b rel) t
  | ok r e =>
    rw [hg] at q
    cases r with
    | rt d => exact fun v F' H' n t => q v F' H' n t
    | nx => exact fun σ F' H' _ b rel => q .non F' H' (new b rel) (by simp only [R])
    | bk => exact q.elim
    | ct => exact q.elim
theorem cl_of {P : Program} {w : World} {K : PySem.W.Frag} {mg : Str → Option Value} {base : Heap} {S : Xs} {k : Nat} {x : Str} {st : Stmt} {N ps : List Str} {g : M Fl} (Fd : Df K mg x st ps) (Sc : FnScope N ps (defScope st))
    (hb : ∀ (f : Addr) (cdv : Value) (A : Around) (outer : List PySem.Env) (s : Shared) (H : Hp) (E : XK) (F0 H0 : Hp), Room k (A.deeper (envOfC x (defScope st) s.heap.objs.size f cdv)) →
      L2N.Takes (cxOf (L2N.CX P w) P w K mg base N x (defScope st) f cdv A outer s H E) (fun cls d _ H => E cls d H) →
      PassesOwn (model P w) (cxOf (L2N.CX P w) P w K mg base N x (defScope st) f cdv A outer s H E).A (cxOf (L2N.CX P w) P w K mg base N x (defScope st) f cdv A outer s H E).env (cxOf (L2N.CX P w) P w K mg base N x (defScope st) f cdv A outer s H E).xe →
      DSs (cxOf (L2N.CX P w) P w K mg base N x (defScope st) f cdv A outer s H E) S (fun cls d _ H => E cls d H) F0 H0 (defBody st) g) : Cl P w K mg base S (k + 1) x ps.length (runF N.length g) := by
  obtain ⟨f, fd, Fn, hm, bi⟩ := Fd.ex
  exact ⟨f, fd, ps, fn_body Fn Sc (hb f), hm, Fn.kp, bi⟩
/-- no promise at all -/
theorem cl_bad {P : Program} {w : World} {K : PySem.W.Frag} {mg : Str → Option Value} {base : Heap} {S : Xs} {k n : Nat} {x : Str} {st : Stmt} {ps : List Str} (Fd : Df K mg x st ps) : Cl P w K mg base S k x n (fun _ => .bad) := by
  obtain ⟨f, fd, Fn, hm, bi⟩ := Fd.ex
  exact ⟨f, fd, ps, ⟨fun vs H Q E ⟨_, _, _, _, _, q⟩ => q.elim, fun _ _ _ _ _ _ _ _ _ _ _ _ _ ⟨_, _, _, _, _, q⟩ => q.elim⟩, hm, Fn.kp, bi⟩

/-! ### great divisions -/
structure Big (X : Cx) : Prop where
  seer : X.base.NoSeer
  tree : X.prog.given.tree = none
  top : ∃ env l, X.stack = env :: l ∧ env.scope.isGenerator = false ∧ env.scope.isCoroutine = false ∧ env.builtins = builtinsNs ∧ env.globals = mainGlobals
theorem op_divA (B : Big X) (hr : Room 40 X.A) : OpR X (binaryOp .FloorDiv) (rI (fun _ j => j ≠ 0) fun i j => .int (i.fdiv j)) := fun pins s σ H x y v u Q I rx ry h => by
  obtain ⟨i, j, rfl, rfl, hc, q⟩ := h
  obtain ⟨t, rfl⟩ := rx
  obtain ⟨t', rfl⟩ := ry
  obtain ⟨env, l, e1, e2, e3, e4, e5⟩ := B.top
  have room : PySem.PylongRoom (model X.prog X.w) X.A s := PySem.PylongRoom.of I.nolimit (by have := hr.dp; show _ + 100 < _; omega)
    (PySem.SeerAt.of (B.seer.keeps I.bk) B.tree (by rw [I.ok.frames, e1]) e2 e3 e4 e5)
  exact floordiv_int hc ⟨.int _, H, I.tok _, ⟨_, rfl⟩, q⟩ (.inr room)
def oDiv : D → D → Option Sv := oI nz fun i j => i.fdiv j
theorem os_div {K : PySem.W.Frag} : OpS K (rI (fun _ j => j ≠ 0) fun i j => .int (i.fdiv j)) oDiv := op_I fun _ _ h => of_decide_eq_true h
end
end Iv

set_option Elab.async false
set_option linter.all false
set_option maxRecDepth 100000
/-! The law's end: its def yields True for every script. -/
namespace Iv
open PySem PySem.Spec PyProof.Rows L2 Evl

/-- what stays of a namespace when lists are out of sight -/
theorem ns_hid {h : Heap} {H : Hp} {b : Addr} {m : Str → Option Value} (no : ∀ c o, h.get? c = some o → (∃ es ep, o.data = .dict es ep) → H c = none) (n : h.Ns b m) : (hidT h H).Ns b m := by
  obtain ⟨o, es, ep, e, d, r⟩ := n
  exact ⟨o, es, ep, hidT_get e (no b o e ⟨es, ep, d⟩), d, r⟩
theorem seer_hid {h : Heap} {H : Hp} (no : ∀ c o, h.get? c = some o → (∃ es ep, o.data = .dict es ep) → H c = none) (nm : ∀ c o, h.get? c = some o → o.cls = .type "module" → H c = none) (n : h.NoSeer) : (hidT h H).NoSeer where
  statics := by
    obtain ⟨mc, a, b⟩ := n.statics
    exact ⟨mc, ns_hid no a, b⟩
  mods := by
    obtain ⟨mc, a, b⟩ := n.mods
    exact ⟨mc, ns_hid no a, b⟩
  imp := by
    obtain ⟨mc, a, b⟩ := n.imp
    exact ⟨mc, ns_hid no a, b⟩
  main := by
    obtain ⟨mg, bm, ob, a, b, c, d, e⟩ := n.main
    exact ⟨mg, bm, ob, ns_hid no a, b, hidT_get c (nm bm ob c d), d, e⟩
/-- the law's def as promised over every ground -/
def LawOk (P : Program) (w : World) (K : PySem.W.Frag) (mg : Str → Option Value) (S : Xs) (k : Nat) (fa : Addr) (fd : FuncData) (x : Str) (fn : List D → FR) : Prop :=
  ∀ base : Heap, K.In base → base.Ns mainGlobals mg → base.NoSeer → FnOk P w K mg base (L2N.CX P w) k fa fd [x] (spF K S 1 fn)
section
variable {P : Program} {w : World} {K : PySem.W.Frag} {mg mb : Str → Option Value} {S : Xs} {k : Nat} {fa a : Addr} {fd : FuncData} {x : Str} {fn : List D → FR} {s₁ : Shared} {vs : List Value} {ns : List Int}
abbrev Post (P : Program) (w : World) (s₁ : Shared) : Result → Shared → Prop := fun r s' => r = .ok (.ret (.bool true)) ∧ OldK s₁.heap s'.heap ∧ s'.os = s₁.os ∧ AllBare s'.gens
/-- from an abstract heap that knows the script alone -/
theorem end_at (H : Hp) (hok : HOk P w H s₁.heap) (hS : SqL K H a (ns.map V.int)) (only : ∀ b, H b = none ∨ ∃ o ys, H b = some (.frz o (.lst ys))) (no : ∀ b o, s₁.heap.get? b = some o → o.cls ≠ .type "list" → H b = none) (nk : ∀ b o, K.lookup b = some o → H b = none)
    (KX : K.In s₁.heap) (g : s₁.heap.Ns mainGlobals mg) (b : s₁.heap.Ns builtinsNs mb) (bb : ∀ y : Str, y ≠ "__name__" → mb y = bootBuiltins y) (lim : s₁.heap.NoLimit) (see : s₁.heap.NoSeer) (gen : s₁.gens = #[])
    (dl : ∀ c o, s₁.heap.get? c = some o → (∃ es ep, o.data = .dict es ep) → H c = none)
    (hr : Room k callerA) (F : LawOk P w K mg S k fa fd x fn) (hb : ∀ (s : Shared) (u : Value), BindsTo s fd ⟨[u], []⟩ [(x, u)]) (hf : fn [.scr ns] = .ok (.bl true)) :
    codeAny (model P w) callerA (.call (.ref fa) ⟨[.ref a], []⟩) (Post P w s₁) s₁ := by
  have kin : K.In (hidT s₁.heap H) := fun c o e => hidT_get (KX c o e) (nk c o e)
  have gl := ns_hid dl g
  have sn : (hidT s₁.heap H).NoSeer := seer_hid dl (fun c o e q => no c o e (by rw [q]; decide)) see
  obtain ⟨mc, l1, l2⟩ := lim
  have ground : Mod K mg (hidT s₁.heap H) := ⟨kin, gl, ⟨mb, ns_hid dl b, bb⟩, ⟨mc, ns_hid dl l1, l2⟩⟩
  have e0 : Env0 P w K mg (hidT s₁.heap H) callerA [] s₁ H :=
    { frames := rfl, mod := ground, bs := fun c o e => of_hidT e, bsz := Nat.le_of_eq (hidT_size _ _), funs := trivial
      frf := fun c hc => absurd hc (by simp [frs]), hok := hok, bare := .of_eq gen }
  have sp : spF K S 1 fn [.ref a] H (fun v _ => v = .bl true) (fun _ _ _ => False) := by
    refine ⟨H, [.scr ns], Ex.refl _, Rs.cons (by simp only [R]; exact ⟨a, rfl, hS⟩) Rs.nil, rfl, ?_⟩
    rw [hf]
    intro v F' H' _ r
    simpa only [R] using r
  have run := (F _ kin gl sn).run callerA [] s₁ H ⟨[.ref a], []⟩ [.ref a] [.ref a] _ _ hr e0 (hb s₁ (.ref a)) (.cons rfl .nil) sp
  refine codeAny_mono run fun r s' q => ?_
  match r, q with
  | .error e, q => 
    obtain ⟨_, _, _, _, _, _, _, _, _, _, _, _, z⟩ := (show L2N.CX P w [] H s₁ (fun _ _ _ => False) e s' from q)
    exact z.elim
  | .ok .next, q => exact False.elim q
  | .ok .brk, q => exact False.elim q
  | .ok .cont, q => exact False.elim q
  | .ok (.ret u), q =>
    obtain ⟨v, H', os, bare, un, ok', rv, qv⟩ := (show CE [] P w H s₁ (fun v _ => v = .bl true) u s' from q)
    subst qv
    have eu : u = Value.bool true := rv
    subst eu
    refine ⟨rfl, OldK.of_keep fun c o e => ?_, os, bare⟩
    rcases only c with z | ⟨o', ys, z⟩
    · exact un.keep c o e z (by simp [frs]) (by simp)
    · have z' := un.frzs c o' _ z
      have h1 := (hok c _ z).1
      have h2 := (ok' c _ z').1
      rw [e] at h1
      cases h1
      exact h2
theorem end_of {l : PySem.W.OpenLaw} {n : Nat} {q : Program} {loose : List Str} {XP : (Str → Option Value) → Heap → Prop} {YP : World → Heap → Prop} {d : DefRec} {K : Params → PySem.W.Frag} {S : World → (Str → Option Value) → Xs} {fn : List D → FR}
    (hn : l.most = some n) (hn2 : n ≤ 1000) (hdf : d.params.defaults = []) (hr : Room k callerA) (himp : importsNone q = true) (hY : ∀ (w : World) (h : Heap), YP w h → (K w.params).In h)
    (F : ∀ (w : World) (mg : Str → Option Value) (fa : Addr) (h : Heap), (K w.params).In h → h.Ns mainGlobals mg → mg d.name = some (.ref fa) →
      ∃ fd : FuncData, (∀ (s : Shared) (u : Value), BindsTo s fd ⟨[u], []⟩ [(x, u)]) ∧ LawOk l.prog w (K w.params) mg (S w mg) k fa fd x fn)
    (hf : ∀ ns : List Int, ns.length ≤ n → (∀ i ∈ ns, Builtin.Int.intBits i ≤ 1048576) → fn [.scr ns] = .ok (.bl true)) :
    PySem.W.WalkO q loose XP YP l.row.toRowW d [] (fun f vs => PySem.call f vs) := by
  refine Att.attach_callB hn hdf fun w s₀ s₁ mg mb fa o pm cd doc a vs ns G Y ho hd hcd hmg hobj hints hlen hbits hg => ?_
  have KX := hY w _ Y
  obtain ⟨fd, hb, hF⟩ := F w mg fa _ KX G.T.g hmg
  have rv := vals_ints hints
  have hl : ns.length ≤ sizeLine := Nat.le_trans (Nat.le_trans hlen hn2) (by decide)
  have go := fun H h1 h2 h3 h4 h5 h6 => end_at (P := l.prog) (w := w) (K := K w.params) (mg := mg) (mb := mb) (S := S w mg) (k := k) (fa := fa) (a := a) (fd := fd) (x := x) (fn := fn) (s₁ := s₁) (ns := ns) H h1 h2 h3 h4 h5 KX G.T.g G.T.b G.T.builtins G.T.nolimit (G.T.seer himp) hg h6 hr hF hb (hf ns hlen hbits)
  by_cases hk : (K w.params).lookup a = none
  · refine go (fun b => if b = a then some (.frz { cls := .type "list", data := .seq vs.toArray } (.lst (ns.map V.int))) else none) (fun b u z => ?_) (.inl (.inr ⟨_, if_pos rfl⟩)) (fun b => ?_) (fun b ob e nc => ?_) (fun b ob e => ?_) (fun c ob e dd => ?_)
    · dsimp only at z
      split at z
      · rename_i e
        cases z
        rw [e]
        exact ⟨hobj, by rw [List.length_map]; exact hl, vs, _, rv, hobj⟩
      · cases z
    · split
      · exact .inr ⟨_, _, rfl⟩
      · exact .inl rfl
    · refine if_neg fun z => ?_
      rw [z, hobj] at e
      cases e
      exact nc rfl
    · refine if_neg fun z => ?_
      rw [z, hk] at e
      cases e
    · refine if_neg fun z => ?_
      rw [z, hobj] at e
      cases e
      obtain ⟨es, ep, q⟩ := dd
      cases q
  · cases hk2 : (K w.params).lookup a with
    | none => exact absurd hk2 hk
    | some ob =>
      have e := KX a ob hk2
      rw [hobj] at e
      cases e
      refine go (fun _ => none) (fun b u z => nomatch z) (.inr ⟨_, vs.toArray, _, hk2, rfl, rfl, rfl, ?_, by simpa using rv⟩) (fun b => .inl rfl) (fun b ob e nc => rfl) (fun b ob e => rfl) (fun c ob e dd => rfl)
      rw [List.size_toArray]
      have := hints.length
      omega
end
end Iv

set_option Elab.async false
set_option linter.all false
set_option maxRecDepth 100000
/-! Short words for texts that are printed. -/
namespace Iv
open PySem PySem.Spec PyProof.Rows L2 Evl

/-- which built-in names the module leaves alone -/
structure Bl (mg : Str → Option Value) : Prop where
  len : mg "len" = none
  abs : mg "abs" = none
  int : mg "int" = none
  isinstance : mg "isinstance" = none
  max : mg "max" = none
  min : mg "min" = none
  list : mg "list" = none
  tuple : mg "tuple" = none
  sum : mg "sum" = none
  any : mg "any" = none
  all : mg "all" = none
  range : mg "range" = none
  sorted : mg "sorted" = none
  bool : mg "bool" = none
  str : mg "str" = none
  dict : mg "dict" = none
section
variable {X : Cx} {S : Xs} {W : WX} {F0 H0 : Hp} {e a b : Expr} {es : List Expr} {pos p : Pos} {f : M (List D)}
theorem nm (i : Nat) {x : Str} (hN : X.N[i]? = some x := by rfl) (hv : Vis X.env.scope x := by first | exact Or.inl rfl | exact Or.inr (Or.inl rfl) | exact Or.inr (Or.inr rfl)) (hd : (x == ("__debug__" : Str)) = false := by decide) (hcd : (x == ("__classdict__" : Str)) = false := by decide) : PD X S W (.Name x pos) (mVar i) := pd_var hN hv hd hcd
theorem pk (i : Nat) {x : Str} (hN : X.N[i]? = some x := by rfl) (hv : Vis X.env.scope x := by first | exact Or.inl rfl | exact Or.inr (Or.inl rfl) | exact Or.inr (Or.inr rfl)) (hd : (x == ("__debug__" : Str)) = false := by decide) (hcd : (x == ("__classdict__" : Str)) = false := by decide) : PP X S W (.Name x pos) (mPk i) := pp_var hN hv hd hcd
theorem tg (i : Nat) {x : Str} (hN : X.N.Nodup) (hi : X.N[i]? = some x := by rfl) (hx : Loc X.env.scope x := by first | exact Or.inl rfl | exact Or.inr rfl) (hf : X.fn x = true ∨ X.env.scope.names.lookup x = some .local := by first | exact .inl rfl | exact .inr rfl) : PGd X (.Name x pos) [i] (γN i) := pgd_name hN hi hx hf
theorem st_set (i : Nat) {x : Str} {pos' : Pos} {f : M Sv} (hN : X.N.Nodup) (he : PD X S W e f) (hi : X.N[i]? = some x := by rfl) (hx : Loc X.env.scope x := by first | exact Or.inl rfl | exact Or.inr rfl) (hs : swapsWith e (some (.Name x pos')) pos.line X.env = pure false := by rfl) (hf : X.fn x = true ∨ X.env.scope.names.lookup x = some .local := by first | exact .inl rfl | exact .inr rfl) :
    DS X S W F0 H0 (.Assign [.Name x pos'] e pos) (mSet i f) := ds_set hN hi hx he hs hf
theorem ds_never {st : Stmt} : DS X S W F0 H0 st (fun _ => .bad) := PS.imp ps_never fun D σ H ⟨_, _, _, _, q⟩ => q
theorem op_add_ {op : Operator} {r : R2} {o : D → D → Option Sv} {f g : M D} (ho : OpR X (binaryOp op) r) (hs : OpS X.K r o) (ha : PP X S W a f) (hb : PP X S W b g) : PD X S W (.BinOp a op b pos) (mOp o f g) := pd_op ho hs ha hb
theorem cp {op : CmpOp} {r : R2} {o : D → D → Option Sv} {f g : M D} (ho : OpR X (compareOp op) r) (hs : OpS X.K r o) (ha : PP X S W a f) (hb : PP X S W b g) (hm : behindInMarks op b = false := by first | exact nomark _ | rfl) : PD X S W (.Compare a [op] [b] pos) (mOp o f g) := pd_cmp ho hs hm ha hb
theorem cpB {op : CmpOp} {r : R2} {o : D → D → Option Sv} {f g : M D} (ho : OpR X (compareOp op) r) (hs : OpS X.K r o) (ha : PP X S W a f) (hb : PP X S W b g) (hm : behindInMarks op b = false := by first | exact nomark _ | rfl) : PB X S W (.Compare a [op] [b] pos) (mB (mOp o f g)) := pb_cmp ho hs hm ha hb
theorem ix {f g : M D} (ha : PP X S W a f) (hb : PP X S W b g) (hx : PlainIx b := by intro _ _; rfl) : PD X S W (.Subscript a b pos) (mOp oIx f g) := pd_ix ix_seq os_ix hx ha hb
theorem pd_ty {x : Str} {T : String} (hg : Gl X x) (hm : X.mg x = none) (hv : bootBuiltins x = some (.type T)) (hn : x ≠ "__name__" := by decide) (hd : (x == ("__debug__" : Str)) = false := by decide) : PD X S W (.Name x pos) (mC (.ty T)) := pd_c (pe_bltn hg hm hv (v := .ty T) rfl hn hd) fun _ => by simp only [R]
theorem ty_int (B : Bl X.mg) (hg : Gl X "int" := by rfl) : PD X S W (.Name "int" pos) (mC (.ty "int")) := pd_ty hg B.int PyProof.Rows.boot_int
theorem ty_bool (B : Bl X.mg) (hg : Gl X "bool" := by rfl) : PD X S W (.Name "bool" pos) (mC (.ty "bool")) := pd_ty hg B.bool PyProof.Rows.boot_bool
theorem ty_str (B : Bl X.mg) (hg : Gl X "str" := by rfl) : PD X S W (.Name "str" pos) (mC (.ty "str")) := pd_ty hg B.str PyProof.Rows.boot_str
theorem ty_list (B : Bl X.mg) (hg : Gl X "list" := by rfl) : PD X S W (.Name "list" pos) (mC (.ty "list")) := pd_ty hg B.list PyProof.Rows.boot_list
theorem ty_tuple (B : Bl X.mg) (hg : Gl X "tuple" := by rfl) : PD X S W (.Name "tuple" pos) (mC (.ty "tuple")) := pd_ty hg B.tuple PyProof.Rows.boot_tuple
section
theorem b_len (B : Bl X.mg) (ha : PPs X S W (e :: es) f) (hg : Gl X "len" := by rfl) (he : starEach (e :: es) X.env = (false, eval e X.env) :: starEach es X.env := by rfl) (hpl : (backTo pos (starEach es X.env)).any (·.1) = false := by rfl) : PD X S W (.Call (.Name "len" p) (e :: es) [] pos) (mCl cLen f) := pd_callB call_len cs_len hg B.len PySem.boot_len ha (by decide) (by decide) he hpl
theorem b_abs (B : Bl X.mg) (ha : PPs X S W (e :: es) f) (hg : Gl X "abs" := by rfl) (he : starEach (e :: es) X.env = (false, eval e X.env) :: starEach es X.env := by rfl) (hpl : (backTo pos (starEach es X.env)).any (·.1) = false := by rfl) : PD X S W (.Call (.Name "abs" p) (e :: es) [] pos) (mCl cAbs f) := pd_callB call_abs cs_abs hg B.abs PyProof.Rows.boot_abs ha (by decide) (by decide) he hpl
theorem b_int (B : Bl X.mg) (ha : PPs X S W (e :: es) f) (hg : Gl X "int" := by rfl) (he : starEach (e :: es) X.env = (false, eval e X.env) :: starEach es X.env := by rfl) (hpl : (backTo pos (starEach es X.env)).any (·.1) = false := by rfl) : PD X S W (.Call (.Name "int" p) (e :: es) [] pos) (mCl cInt f) := pd_callTy call_int1 cs_int hg B.int PyProof.Rows.boot_int ha (by decide) (by decide) he hpl
theorem b_isi (B : Bl X.mg) (ha : PPs X S W (e :: es) f) (hg : Gl X "isinstance" := by rfl) (he : starEach (e :: es) X.env = (false, eval e X.env) :: starEach es X.env := by rfl) (hpl : (backTo pos (starEach es X.env)).any (·.1) = false := by rfl) : PD X S W (.Call (.Name "isinstance" p) (e :: es) [] pos) (mCl cIsi f) := pd_callB call_isi cs_isi hg B.isinstance PyProof.Rows.boot_isinstance ha (by decide) (by decide) he hpl
theorem b_max (B : Bl X.mg) (ha : PPs X S W (e :: es) f) (hc : X.calm = true) (hg : Gl X "max" := by rfl) (he : starEach (e :: es) X.env = (false, eval e X.env) :: starEach es X.env := by rfl) (hpl : (backTo pos (starEach es X.env)).any (·.1) = false := by rfl) : PD X S W (.Call (.Name "max" p) (e :: es) [] pos) (mCl cMax2 f) := pd_callB (call_max2 hc) cs_max2 hg B.max PyProof.Rows.boot_max ha (by decide) (by decide) he hpl
theorem b_min (B : Bl X.mg) (ha : PPs X S W (e :: es) f) (hc : X.calm = true) (hg : Gl X "min" := by rfl) (he : starEach (e :: es) X.env = (false, eval e X.env) :: starEach es X.env := by rfl) (hpl : (backTo pos (starEach es X.env)).any (·.1) = false := by rfl) : PD X S W (.Call (.Name "min" p) (e :: es) [] pos) (mCl cMin2 f) := pd_callB (call_min2 hc) cs_min2 hg B.min PyProof.Rows.boot_min ha (by decide) (by decide) he hpl
theorem b_list (B : Bl X.mg) (ha : PPs X S W (e :: es) f) (hg : Gl X "list" := by rfl) (he : starEach (e :: es) X.env = (false, eval e X.env) :: starEach es X.env := by rfl) (hpl : (backTo pos (starEach es X.env)).any (·.1) = false := by rfl) : PD X S W (.Call (.Name "list" p) (e :: es) [] pos) (mCl cList f) := pd_callTy call_list_of cs_list hg B.list PyProof.Rows.boot_list ha (by decide) (by decide) he hpl
theorem b_tuple (B : Bl X.mg) (ha : PPs X S W (e :: es) f) (hg : Gl X "tuple" := by rfl) (he : starEach (e :: es) X.env = (false, eval e X.env) :: starEach es X.env := by rfl) (hpl : (backTo pos (starEach es X.env)).any (·.1) = false := by rfl) : PD X S W (.Call (.Name "tuple" p) (e :: es) [] pos) (mCl cTuple f) := pd_callTy call_tuple_of cs_tuple hg B.tuple PyProof.Rows.boot_tuple ha (by decide) (by decide) he hpl
theorem b_sum (B : Bl X.mg) (ha : PPs X S W (e :: es) f) (hc : X.calm = true) (hg : Gl X "sum" := by rfl) (he : starEach (e :: es) X.env = (false, eval e X.env) :: starEach es X.env := by rfl) (hpl : (backTo pos (starEach es X.env)).any (·.1) = false := by rfl) : PD X S W (.Call (.Name "sum" p) (e :: es) [] pos) (mCl cSum f) := pd_callB (cr_sum hc) cs_sum hg B.sum PyProof.Rows.boot_sum ha (by decide) (by decide) he hpl
theorem b_any (B : Bl X.mg) (ha : PPs X S W (e :: es) f) (hc : X.calm = true) (hg : Gl X "any" := by rfl) (he : starEach (e :: es) X.env = (false, eval e X.env) :: starEach es X.env := by rfl) (hpl : (backTo pos (starEach es X.env)).any (·.1) = false := by rfl) : PD X S W (.Call (.Name "any" p) (e :: es) [] pos) (mCl cAny f) := pd_callB (cr_any hc) cs_any hg B.any PyProof.Rows.boot_any ha (by decide) (by decide) he hpl
theorem b_all (B : Bl X.mg) (ha : PPs X S W (e :: es) f) (hc : X.calm = true) (hg : Gl X "all" := by rfl) (he : starEach (e :: es) X.env = (false, eval e X.env) :: starEach es X.env := by rfl) (hpl : (backTo pos (starEach es X.env)).any (·.1) = false := by rfl) : PD X S W (.Call (.Name "all" p) (e :: es) [] pos) (mCl cAll f) := pd_callB (cr_all hc) cs_all hg B.all PyProof.Rows.boot_all ha (by decide) (by decide) he hpl
theorem b_gcd (hm : X.mg "gcd" = some (.builtin "math.gcd")) (ha : PPs X S W (e :: es) f) (hg : Gl X "gcd" := by rfl) (he : starEach (e :: es) X.env = (false, eval e X.env) :: starEach es X.env := by rfl) (hpl : (backTo pos (starEach es X.env)).any (·.1) = false := by rfl) : PD X S W (.Call (.Name "gcd" p) (e :: es) [] pos) (mCl cGcd f) := pd_callBf cr_gcd cs_gcd hg hm ha (by decide) he hpl
end
theorem y_rng1 {f : M (List D)} {tg : Expr} (B : Bl X.mg) (ha : PPs X S W [a] f) (hg : Gl X "range" := by rfl) (hs : starEach [a] X.env = [(false, eval a X.env)] := by rfl) : PY X S W tg (.Call (.Name "range" p) [a] [] pos) (mRng1 f) := py_range1 hg B.range ha hs
theorem y_rng2 {f : M (List D)} {tg : Expr} (B : Bl X.mg) (ha : PPs X S W [a, b] f) (hg : Gl X "range" := by rfl) (hs : starEach [a, b] X.env = [(false, eval a X.env), (false, eval b X.env)] := by rfl) (hs2 : starEach [b] X.env = [(false, eval b X.env)] := by rfl) : PY X S W tg (.Call (.Name "range" p) [a, b] [] pos) (mRng2 f) := py_range2 hg B.range ha hs hs2
theorem cl {k j n : Nat} {x : Str} {fn : List D → FR} {f : M (List D)} (c : Cl X.prog X.w X.K X.mg X.base S k x n fn) (hr : Room j X.A) (hk : k ≤ j) (tk : L2N.Takes X W) (ha : PFs X S W (e :: es) f) (hg : Gl X x := by rfl)
    (hdb : (x == ("__debug__" : Str)) = false := by decide) (he : starEach (e :: es) X.env = (false, eval e X.env) :: starEach es X.env := by rfl) (hpl : (backTo pos (starEach es X.env)).any (·.1) = false := by rfl) : PD X S W (.Call (.Name x p) (e :: es) [] pos) (mCall n fn f) := pd_call c hr hk hg tk ha hdb he hpl
theorem Big.blk {s : Shared} {H : Hp} {scope : Scope} {cenv : PySem.Env} {fp : List Addr} (B : Big X) : Big (X.blk s H scope cenv fp) := ⟨B.seer, B.tree, B.top⟩
theorem tk0 : L2N.Takes X W0 := fun _ _ ⟨_, _, _, _, _, _, _, _, _, _, _, _, _, _, _, _, z⟩ => z.elim
end
theorem big_of {P : Program} {w : World} {K : PySem.W.Frag} {mg : Str → Option Value} {base : Heap} {CX : CXT} {N ps : List Str} {qual : Str} {sc : Scope} {f : Addr} {cdv : Value} {A : Around} {outer : List PySem.Env} {s : Shared} {H : Hp} {E : XK} (hn : base.NoSeer) (ht : P.given.tree = none) (S : FnScope N ps sc) :
    Big (cxOf CX P w K mg base N qual sc f cdv A outer s H E) := ⟨hn, ht, _, outer, rfl, S.gen, S.co, rfl, rfl⟩
theorem df_mk {K : PySem.W.Frag} {h : Heap} {mg : Str → Option Value} {x : Str} {st : Stmt} {ps : List Str} {f : Addr} {oc : Value} {od an : Option Addr} {osl : Array (Option Value)} {kV doc pm cdv ct : Value} (X : K.In h) (G : h.Ns mainGlobals mg)
    (a : PySem.W.nsIn K mainGlobals x = some (some (.ref f))) (l : K.lookup f = some ⟨oc, od, .func (PySem.W.fnOf x x (defArgs st) (defBody st) (defScope st) .none kV doc pm an cdv ct), osl⟩) (c : PySem.W.codeIn K cdv x = true) (k : PySem.W.keepIn K (.ref f) = true)
    (hb : ∀ (kV doc pm : Value) (an : Option Addr) (cdv ct : Value) (us : List Value), us.length = ps.length → bindArgs (PySem.W.fnOf x x (defArgs st) (defBody st) (defScope st) .none kV doc pm an cdv ct) ⟨us, []⟩ = pure (ps.zip us)) : Df K mg x st ps :=
  ⟨f, _, fun_mk l c k, PySem.W.mg_of X G a, (fun_mk l c k).binds hb⟩
end Iv

set_option Elab.async false
set_option linter.all false
/-! How meanings are reckoned. -/
namespace Iv
open PySem L2
@[simp] theorem mC_eq {d : D} {env : En} : mC d env = .ok (.d d) env := rfl
@[simp] theorem mVar_eq {i : Nat} {env : En} : mVar i env = (match env[i]? with
  | some (.fr d) => .ok (.d d) env
  | some (.ow l) => .ok (.d (.lst l)) (env.set i (.fr (.lst l)))
  | some (.od ks ds) => .ok (.d (.dct ks ds)) (env.set i (.fr (.dct ks ds)))
  | _ => .bad) := rfl
@[simp] theorem mPk_eq {i : Nat} {env : En} : mPk i env = (match env[i]? with
  | some (.fr d) => .ok d env
  | some (.ow l) => .ok (.lst l) env
  | some (.od ks ds) => .ok (.dct ks ds) env
  | _ => .bad) := rfl
@[simp] theorem mD_eq {f : M Sv} {env : En} : mD f env = (f env).bind fun sv env => .ok sv.toD env := rfl
@[simp] theorem mOp_eq {o : D → D → Option Sv} {f g : M D} {env : En} : mOp o f g env = (f env).bind fun x env => (g env).bind fun y env => rdo (o x y) env := rfl
@[simp] theorem mUn_eq {o : D → Option Sv} {f : M D} {env : En} : mUn o f env = (f env).bind fun x env => rdo (o x) env := rfl
@[simp] theorem mCl_eq {o : List D → Option Sv} {f : M (List D)} {env : En} : mCl o f env = (f env).bind fun x env => rdo (o x) env := rfl
@[simp] theorem rdo_some {sv : Sv} {env : En} : rdo (some sv) env = .ok sv env := rfl
@[simp] theorem rdo_none {env : En} : rdo none env = .bad := rfl
@[simp] theorem mNil_eq {env : En} : mNil env = .ok [] env := rfl
@[simp] theorem mCons_eq {f : M D} {g : M (List D)} {env : En} : mCons f g env = (f env).bind fun x env => (g env).bind fun xs env => .ok (x :: xs) env := rfl
@[simp] theorem mTup_eq {f : M (List D)} {env : En} : mTup f env = (f env).bind fun ds env => if ds.length ≤ 100000 then .ok (.d (.tup ds)) env else .bad := rfl
@[simp] theorem mLst_eq {f : M (List D)} {env : En} : mLst f env = (f env).bind fun ds env => if ds.length ≤ 100000 then .ok (.l ds) env else .bad := rfl
@[simp] theorem mB_eq {f : M Sv} {env : En} : mB f env = (f env).bind fun sv env => (match sv with
  | .d (.bl b) => .ok b env
  | _ => .bad) := rfl
@[simp] theorem mNotB_eq {f : M Bool} {env : En} : mNotB f env = (f env).bind fun b env => .ok (!b) env := rfl
@[simp] theorem mAndB_eq {f g : M Bool} {env : En} : mAndB f g env = (f env).bind fun b env => if b = true then g env else .ok false env := rfl
@[simp] theorem mOrB_eq {f g : M Bool} {env : En} : mOrB f g env = (f env).bind fun b env => if b = true then .ok true env else g env := rfl
@[simp] theorem mAndV_eq {f g : M Sv} {env : En} : mAndV f g env = (mB f env).bind fun b env => if b = true then g env else .ok (.d (.bl false)) env := rfl
@[simp] theorem mOrV_eq {f g : M Sv} {env : En} : mOrV f g env = (mB f env).bind fun b env => if b = true then .ok (.d (.bl true)) env else g env := rfl
@[simp] theorem mNotV_eq {f : M Sv} {env : En} : mNotV f env = (mB f env).bind fun b env => .ok (.d (.bl (!b))) env := rfl
@[simp] theorem mIf_eq {h : M Bool} {f g : M Sv} {env : En} : mIf h f g env = (h env).bind fun b env => if b = true then f env else g env := rfl
@[simp] theorem mNoP_eq {env : En} : mNoP env = .ok none env := rfl
@[simp] theorem mPart_eq {f : M D} {env : En} : mPart f env = (f env).bind fun d env => (match d with
  | .int i => .ok (some i) env
  | _ => .bad) := rfl
@[simp] theorem mSl_eq {f : M D} {lo hi : M (Option Int)} {env : En} : mSl f lo hi env = (f env).bind fun d env => (lo env).bind fun l env => (hi env).bind fun u env => rdo (oSl d l u) env := rfl
@[simp] theorem mCall_eq {n : Nat} {fn : List D → FR} {f : M (List D)} {env : En} : mCall n fn f env = (f env).bind fun ds env => if ds.length = n then (match fn ds with
  | .ok d => .ok (.d d) env
  | .ex c x => .ex c x env
  | .bad => .bad) else .bad := rfl
@[simp] theorem mIt_eq {f : M D} {env : En} : mIt f env = (f env).bind fun d env => (match itemsOf d with
  | some l => .ok l env
  | none => .bad) := rfl
@[simp] theorem mRng1_eq {f : M (List D)} {env : En} : mRng1 f env = (f env).bind fun ds env => (match ds with
  | [.int n] => if small n = true then .ok (upTo 0 n.toNat) env else .bad
  | _ => .bad) := rfl
@[simp] theorem mRng2_eq {f : M (List D)} {env : En} : mRng2 f env = (f env).bind fun ds env => (match ds with
  | [.int a, .int b] => if small a = true ∧ small b = true then .ok (upTo a (b - a).toNat) env else .bad
  | _ => .bad) := rfl
@[simp] theorem mLc_eq {vs : List Nat} {γ : D → En → Option En} {src : M (List D)} {cond : M Bool} {elt : M D} {env : En} : mLc vs γ src cond elt env = (src env).bind fun items env1 => if items.length ≤ 90000 then
    (match compL vs γ cond elt items [] (wipeE env1 vs) with
    | .ok acc env2 => .ok (.l acc) env2
    | _ => .bad) else .bad := rfl
@[simp] theorem mYes_eq {env : En} : mYes env = .ok true env := rfl
@[simp] theorem mNx_eq {env : En} : mNx env = .ok .nx env := rfl
@[simp] theorem mSeq_eq {g h : M Fl} {env : En} : mSeq g h env = (match g env with
  | .ok .nx env' => h env'
  | r => r) := rfl
@[simp] theorem mSet_eq {i : Nat} {f : M Sv} {env : En} : mSet i f env = (f env).bind fun sv env => .ok .nx (env.set i (slOf sv)) := rfl
@[simp] theorem slOf_d {x : D} : slOf (.d x) = .fr x := rfl
@[simp] theorem slOf_l {x : List D} : slOf (.l x) = .ow x := rfl
@[simp] theorem slOf_k {ks : List Key} {x : List D} : slOf (.k ks x) = .od ks x := rfl
@[simp] theorem mAsg_eq {γ : D → En → Option En} {f : M D} {env : En} : mAsg γ f env = (f env).bind fun d env => (match γ d env with
  | some env' => .ok .nx env'
  | none => .bad) := rfl
@[simp] theorem mRet_eq {f : M D} {env : En} : mRet f env = (f env).bind fun d env => .ok (.rt d) env := rfl
@[simp] theorem mRetN_eq {env : En} : mRetN env = .ok (.rt .non) env := rfl
@[simp] theorem mDrop_eq {f : M Sv} {env : En} : mDrop f env = (f env).bind fun _ env => .ok .nx env := rfl
@[simp] theorem mIfS_eq {f : M Bool} {g h : M Fl} {env : En} : mIfS f g h env = (f env).bind fun b env => if b = true then g env else h env := rfl
@[simp] theorem mFor_eq {γ : D → En → Option En} {src : M (List D)} {g : M Fl} {env : En} : mFor γ src g env = (src env).bind fun items env => forL γ g items env := rfl
@[simp] theorem mApp_eq {i : Nat} {f : M D} {env : En} : mApp i f env = (match owAt env i with
  | some _ => (f env).bind fun d env => (match owAt env i with
    | some l => if l.length < 90000 then .ok .nx (env.set i (.ow (l ++ [d]))) else .bad
    | none => .bad)
  | none => .bad) := rfl
@[simp] theorem owAt_eq' {i : Nat} {env : En} : owAt env i = (match env[i]? with
  | some (.ow l) => some l
  | _ => none) := rfl
@[simp] theorem mPut_eq {i : Nat} {ix f : M D} {env : En} : mPut i ix f env = (f env).bind fun d env => (match owAt env i with
  | some _ => (ix env).bind fun k env => (match owAt env i, k with
    | some l, .int k => (match ixN l.length k with
      | some j => .ok .nx (env.set i (.ow (l.set j d)))
      | none => .bad)
    | _, _ => .bad)
  | none => .bad) := rfl
@[simp] theorem mRaise_eq {c : Nat} {env : En} : mRaise c env = .ex c none env := rfl
@[simp] theorem γN_eq {i : Nat} {d : D} {env : En} : γN i d env = some (env.set i (.fr d)) := rfl
@[simp] theorem γNil_eq {env : En} : γNil [] env = some env := rfl
@[simp] theorem γCons_eq {g : D → En → Option En} {h : List D → En → Option En} {d : D} {r : List D} {env : En} : γCons g h (d :: r) env = (g d env).bind fun env1 => h r env1 := rfl
@[simp] theorem γT_eq {n : Nat} {h : List D → En → Option En} {l : List D} {env : En} : γT n h (.tup l) env = if l.length = n then h l env else none := rfl
@[simp] theorem runF_eq {n : Nat} {g : M Fl} {ds : List D} : runF n g ds = (match g (stE n ds) with
  | .ok (.rt d) _ => .ok d
  | .ok .nx _ => .ok .non
  | .ex c x _ => .ex c x
  | _ => .bad) := rfl
@[simp] theorem stE_eq {n : Nat} {ds : List D} : stE n ds = ds.map Sl.fr ++ List.replicate (n - ds.length) .un := rfl
@[simp] theorem forL_nil {γ : D → En → Option En} {g : M Fl} {env : En} : forL γ g [] env = .ok .nx env := rfl
@[simp] theorem forL_cons {γ : D → En → Option En} {g : M Fl} {x : D} {xs : List D} {env : En} : forL γ g (x :: xs) env = (match γ x env with
    | none => .bad
    | some env1 => (match g env1 with
      | .ok .nx env2 => forL γ g xs env2
      | .ok .ct env2 => forL γ g xs env2
      | .ok .bk env2 => .ok .nx env2
      | r => r)) := by
  (conv => lhs; unfold forL)
  all_goals rfl
@[simp] theorem wipeE_nil {env : En} : wipeE env [] = env := rfl
@[simp] theorem wipeE_cons {env : En} {v : Nat} {vs : List Nat} : wipeE env (v :: vs) = (wipeE env vs).set v .un := rfl
/-- operations on ints -/
@[simp] theorem oAdd_int {i j : Int} : oAdd (.int i) (.int j) = some (.d (.int (i + j))) := rfl
@[simp] theorem oSub_int {i j : Int} : oSub (.int i) (.int j) = some (.d (.int (i - j))) := rfl
theorem oAdd_lst {a b : List D} (h : a.length + b.length ≤ 100000) : oAdd (.lst a) (.lst b) = some (.l (a ++ b)) := by
  show (if a.length + b.length ≤ 100000 then _ else _) = _
  rw [if_pos h]
theorem oMul_int {i j : Int} (h : mulOk i j = true) : oMul (.int i) (.int j) = some (.d (.int (i * j))) := by
  show (if mulOk i j = true then _ else _) = _
  rw [if_pos h]
theorem oDiv_int {i j : Int} (h : j ≠ 0) : oDiv (.int i) (.int j) = some (.d (.int (i.fdiv j))) := by
  show (if nz i j = true then _ else _) = _
  rw [if_pos (show nz i j = true from decide_eq_true h)]
theorem oMod_int {i j : Int} (h : j ≠ 0) : oMod (.int i) (.int j) = some (.d (.int (i.fmod j))) := by
  show (if nz i j = true then _ else _) = _
  rw [if_pos (show nz i j = true from decide_eq_true h)]
@[simp] theorem oLt_int {i j : Int} : oLt (.int i) (.int j) = some (.d (.bl (decide (i < j)))) := rfl
@[simp] theorem oLe_int {i j : Int} : oLe (.int i) (.int j) = some (.d (.bl (decide (i ≤ j)))) := rfl
@[simp] theorem oGt_int {i j : Int} : oGt (.int i) (.int j) = some (.d (.bl (decide (j < i)))) := rfl
@[simp] theorem oGe_int {i j : Int} : oGe (.int i) (.int j) = some (.d (.bl (decide (j ≤ i)))) := rfl
@[simp] theorem oEq_int {i j : Int} : oEq (.int i) (.int j) = some (.d (.bl (i == j))) := rfl
@[simp] theorem oNe_int {i j : Int} : oNe (.int i) (.int j) = some (.d (.bl (!(i == j)))) := rfl
@[simp] theorem oEq_bl {i j : Bool} : oEq (.bl i) (.bl j) = some (.d (.bl (i == j))) := rfl
@[simp] theorem oEq_str {i j : Str} : oEq (.str i) (.str j) = some (.d (.bl (i == j))) := rfl
@[simp] theorem oIs_non {a : D} : oIs a .non = some (.d (.bl (isN a))) := rfl
@[simp] theorem oIsNot_non {a : D} : oIsNot a .non = some (.d (.bl (!isN a))) := rfl
@[simp] theorem oNeg_int {i : Int} : oNeg (.int i) = some (.d (.int (-i))) := rfl
@[simp] theorem cLen_lst {l : List D} : cLen [.lst l] = some (.d (.int l.length)) := rfl
@[simp] theorem cLen_tup {l : List D} : cLen [.tup l] = some (.d (.int l.length)) := rfl
@[simp] theorem cLen_scr {l : List Int} : cLen [.scr l] = some (.d (.int l.length)) := rfl
@[simp] theorem cAbs_int {i : Int} : cAbs [.int i] = some (.d (.int (i.natAbs : Int))) := rfl
@[simp] theorem cInt_int {i : Int} : cInt [.int i] = some (.d (.int i)) := rfl
@[simp] theorem cInt_bl {b : Bool} : cInt [.bl b] = some (.d (.int (if b then 1 else 0))) := rfl
@[simp] theorem cMax2_int {i j : Int} : cMax2 [.int i, .int j] = some (.d (.int (if j > i then j else i))) := rfl
@[simp] theorem cMin2_int {i j : Int} : cMin2 [.int i, .int j] = some (.d (.int (if j < i then j else i))) := rfl
@[simp] theorem cGcd_int {i j : Int} : cGcd [.int i, .int j] = some (.d (.int (Nat.gcd i.natAbs j.natAbs : Nat))) := rfl
@[simp] theorem cList_lst {l : List D} : cList [.lst l] = some (.l l) := rfl
@[simp] theorem cList_tup {l : List D} : cList [.tup l] = some (.l l) := rfl
@[simp] theorem cTuple_lst {l : List D} : cTuple [.lst l] = some (.d (.tup l)) := rfl
@[simp] theorem cTuple_tup {l : List D} : cTuple [.tup l] = some (.d (.tup l)) := rfl
@[simp] theorem itemsOf_lst {l : List D} : itemsOf (.lst l) = some l := rfl
@[simp] theorem itemsOf_tup {l : List D} : itemsOf (.tup l) = some l := rfl
@[simp] theorem itemsOf_scr {l : List Int} : itemsOf (.scr l) = some (l.map D.int) := rfl
@[simp] theorem oIx_tup {l : List D} {i : Int} : oIx (.tup l) (.int i) = (atI l i).map Sv.d := rfl
@[simp] theorem oIx_lst {l : List D} {i : Int} : oIx (.lst l) (.int i) = (atI l i).map Sv.d := rfl
@[simp] theorem oIx_scr {l : List Int} {i : Int} : oIx (.scr l) (.int i) = (atI l i).map fun n => Sv.d (.int n) := rfl
@[simp] theorem atI_two0 {α : Type} {a b : α} : atI [a, b] 0 = some a := rfl
@[simp] theorem atI_two1 {α : Type} {a b : α} : atI [a, b] 1 = some b := rfl
theorem atI_nat' {α : Type} {l : List α} {k : Nat} : atI l (k : Int) = l[k]? := by
  cases h : l[k]? with
  | some v => exact atI_nat h
  | none =>
    have hl : l.length ≤ k := List.getElem?_eq_none_iff.mp h
    unfold atI ixN
    rw [if_pos (by omega), if_neg (by omega)]
    rfl
@[simp] theorem tyN_non : tyN .non = "NoneType" := rfl
@[simp] theorem tyN_bl {b : Bool} : tyN (.bl b) = "bool" := rfl
@[simp] theorem tyN_int {b : Int} : tyN (.int b) = "int" := rfl
@[simp] theorem tyN_str {b : Str} : tyN (.str b) = "str" := rfl
@[simp] theorem tyN_tup {b : List D} : tyN (.tup b) = "tuple" := rfl
@[simp] theorem tyN_lst {b : List D} : tyN (.lst b) = "list" := rfl
@[simp] theorem tyN_scr {b : List Int} : tyN (.scr b) = "list" := rfl
@[simp] theorem cIsi_non {t : String} : cIsi [.non, .ty t] = (isTy "NoneType" t).map fun c => .d (.bl c) := rfl
@[simp] theorem cIsi_bl {b : Bool} {t : String} : cIsi [.bl b, .ty t] = (isTy "bool" t).map fun c => .d (.bl c) := rfl
@[simp] theorem cIsi_int {b : Int} {t : String} : cIsi [.int b, .ty t] = (isTy "int" t).map fun c => .d (.bl c) := rfl
@[simp] theorem cIsi_str {b : Str} {t : String} : cIsi [.str b, .ty t] = (isTy "str" t).map fun c => .d (.bl c) := rfl
@[simp] theorem cIsi_tup {b : List D} {t : String} : cIsi [.tup b, .ty t] = (isTy "tuple" t).map fun c => .d (.bl c) := rfl
@[simp] theorem cIsi_lst {b : List D} {t : String} : cIsi [.lst b, .ty t] = (isTy "list" t).map fun c => .d (.bl c) := rfl
@[simp] theorem cIsi_scr {b : List Int} {t : String} : cIsi [.scr b, .ty t] = (isTy "list" t).map fun c => .d (.bl c) := rfl
@[simp] theorem isTy_int {a : String} : isTy a "int" = some (a = "int" || a = "bool") := rfl
@[simp] theorem isTy_bool {a : String} : isTy a "bool" = some (decide (a = "bool")) := rfl
@[simp] theorem isTy_str {a : String} : isTy a "str" = some (decide (a = "str")) := rfl
@[simp] theorem isTy_tuple {a : String} : isTy a "tuple" = some (decide (a = "tuple")) := rfl
@[simp] theorem isTy_list {a : String} : isTy a "list" = some (decide (a = "list")) := rfl
end Iv

set_option Elab.async false
set_option linter.all false
set_option maxHeartbeats 1000000
/-! What the laws' own helpers yield. -/
namespace Law
open PySem PySem.Spec PyProof.Rows L2 Evl Iv
noncomputable def g_u_law_cell : M Fl :=
    mSeq (mIfS (mB (mOp oLt (mPk 1) (mD (mCl cLen (mCons (mPk 0) (mNil)))))) (mRet (mD (mOp oIx (mPk 0) (mPk 1)))) (mNx))
    (mRet (mD (mOp oAdd (mD (mOp oMul (mD (mC (.int 5))) (mPk 1))) (mD (mC (.int 3))))))
noncomputable def f_u_law_cell : List D → FR := runF 2 g_u_law_cell
noncomputable def g_u_law_gcd : M Fl :=
    mSeq (mSet 0 (mCl cAbs (mCons (mPk 0) (mNil))))
    (mSeq (mSet 1 (mCl cAbs (mCons (mPk 1) (mNil))))
    (mSeq (mWh (mB (mOp oGt (mPk 1) (mD (mC (.int 0))))) (mSeq (mSet 2 (mOp oMod (mD (mCl cInt (mCons (mPk 0) (mNil)))) (mPk 1)))
    (mSeq (mSet 0 (mVar 1))
    (mSet 1 (mVar 2)))))
    (mRet (mD (mVar 0)))))
noncomputable def f_u_law_gcd : List D → FR := runF 3 g_u_law_gcd
noncomputable def g_u_law_low : M Fl :=
    mSeq (mSet 2 (mCall 2 f_u_law_gcd (mCons (mD (mVar 0)) (mCons (mD (mVar 1)) (mNil)))))
    (mSeq (mIfS (mB (mOp oLt (mPk 1) (mD (mC (.int 0))))) (mSet 2 (mOp oSub (mD (mC (.int 0))) (mPk 2))) (mNx))
    (mRet (mD (mTup (mCons (mD (mOp oDiv (mPk 0) (mPk 2))) (mCons (mD (mOp oDiv (mPk 1) (mPk 2))) (mNil)))))))
noncomputable def f_u_law_low : List D → FR := runF 3 g_u_law_low
noncomputable def g_u_law_ratio : M Fl :=
    mSeq (mIfS (mB (mOp oEq (mPk 1) (mD (mC (.int 0))))) (mRet (mD (mTup (mCons (mD (mC (.int 0))) (mCons (mD (mC (.int 1))) (mNil)))))) (mNx))
    (mRet (mD (mCall 2 f_u_law_low (mCons (mD (mVar 0)) (mCons (mD (mVar 1)) (mNil))))))
noncomputable def f_u_law_ratio : List D → FR := runF 2 g_u_law_ratio

/-! ### sizes -/
theorem mulOk_of {i j : Int} {a b : Nat} (ha : i.natAbs < 2 ^ a) (hb : j.natAbs < 2 ^ b) (h : a + b ≤ 130000000) : mulOk i j = true := by
  refine decide_eq_true ?_
  have key : ∀ (x : Nat) (a : Nat), x < 2 ^ a → x.log2 ≤ a - 1 := fun x a hx => by
    by_cases h0 : x = 0
    · subst h0; simp
    · have := (Nat.log2_lt h0).mpr hx
      omega
  have h1 := key _ _ ha
  have h2 := key _ _ hb
  have p1 : i.natAbs = 0 ∨ 0 < a := by
    by_cases h0 : a = 0
    · subst h0; left; simpa using ha
    · omega
  have p2 : j.natAbs = 0 ∨ 0 < b := by
    by_cases h0 : b = 0
    · subst h0; left; simpa using hb
    · omega
  omega

/-! ### cells -/
def cellAt (ns : List Int) (k : Nat) : Int := match ns[k]? with
  | some v => v
  | none => 5 * (k : Int) + 3
theorem cell_eq {ns : List Int} {k : Nat} (hk : k < 1000000) : f_u_law_cell [.scr ns, .int (k : Int)] = .ok (.int (cellAt ns k)) := by
  have hm : mulOk 5 (k : Int) = true := mulOk_of (a := 3) (b := 64) (by decide) (by
    have : (1000000 : Nat) < 2 ^ 64 := by decide
    simp only [Int.natAbs_natCast]; omega) (by decide)
  by_cases h : k < ns.length
  · have hd : decide ((k : Int) < (ns.length : Int)) = true := decide_eq_true (by omega)
    have hg : ns[k]? = some ns[k] := List.getElem?_eq_getElem h
    simp [f_u_law_cell, g_u_law_cell, atI_nat', hg, hd, cellAt, h]
  · have hd : decide ((k : Int) < (ns.length : Int)) = false := decide_eq_false (by omega)
    have hg : ns[k]? = none := List.getElem?_eq_none (by omega)
    simp [f_u_law_cell, g_u_law_cell, hd, cellAt, hg, h, oMul_int hm]
/-! ### the greatest common divisor -/
theorem gcd_loop : ∀ (b a : Nat) (s : Sl), ∃ n s', whN (mB (mOp oGt (mPk 1) (mD (mC (.int 0))))) (mSeq (mSet 2 (mOp oMod (mD (mCl cInt (mCons (mPk 0) (mNil)))) (mPk 1))) (mSeq (mSet 0 (mVar 1)) (mSet 1 (mVar 2)))) n
    [.fr (.int (a : Int)), .fr (.int (b : Int)), s] = .ok .nx [.fr (.int (Nat.gcd a b : Nat)), .fr (.int 0), s'] := fun b => by
  induction b using Nat.strongRecOn with
  | ind b ih =>
    intro a s
    by_cases h : b = 0
    · subst h
      exact ⟨1, s, by simp [whN]⟩
    · have hb : ((b : Nat) : Int) ≠ 0 := by omega
      obtain ⟨n, s', e⟩ := ih (a % b) (Nat.mod_lt _ (by omega)) b (.fr (.int ((a % b : Nat) : Int)))
      have hf : ((a : Nat) : Int).fmod (b : Int) = ((a % b : Nat) : Int) := by
        rw [Int.fmod_eq_emod_of_nonneg _ (by omega)]
        rfl
      have hp : 0 < b := by omega
      refine ⟨n + 1, s', ?_⟩
      rw [whN]
      simp [hp, oMod_int hb, hf, h]
      have hg : Nat.gcd a b = Nat.gcd b (a % b) := by rw [Nat.gcd_comm, Nat.gcd_rec, Nat.gcd_comm]
      rw [hg, ← e]
      simp
theorem gcd_eq {a b : Int} : f_u_law_gcd [.int a, .int b] = .ok (.int (Int.gcd a b : Nat)) := by
  obtain ⟨n, s', e⟩ := gcd_loop b.natAbs a.natAbs .un
  have hw := mWh_eq e (fun z => nomatch z)
  simp [f_u_law_gcd, g_u_law_gcd, hw, Int.gcd]
/-! ### ratios -/
/-- a ratio as it is written: its number in lowest terms -/
def enc (q : Rat) : D := .tup [.int q.num, .int (q.den : Int)]
theorem low_num {n d : Int} (hd : d ≠ 0) : (if d < 0 then n.fdiv (0 - (Int.gcd n d : Nat)) else n.fdiv (Int.gcd n d : Nat)) = (Rat.divInt n d).num := by
  have hg : Int.gcd n d ≠ 0 := fun z => hd (Int.gcd_eq_zero_iff.mp z).2
  have hdv : ((Int.gcd n d : Nat) : Int) ∣ n := Int.gcd_dvd_left ..
  obtain ⟨k, hk⟩ := hdv
  have hgi : ((Int.gcd n d : Nat) : Int) ≠ 0 := by omega
  rw [Rat.num_divInt, Int.gcd_comm d n]
  generalize hG : ((Int.gcd n d : Nat) : Int) = G at *
  split
  · rename_i h
    rw [Int.sign_eq_neg_one_of_neg h, hk]
    have e1 : (G * k).fdiv (0 - G) = -k := by
      have : G * k = (0 - G) * (-k) := by grind
      rw [this, Int.mul_fdiv_cancel_left _ (by omega)]
    have e2 : (-1 * (G * k)) / G = -k := by
      have : -1 * (G * k) = G * (-k) := by grind
      rw [this, Int.mul_ediv_cancel_left _ hgi]
    rw [e1, e2]
  · rename_i h
    have hs : d.sign = 1 := Int.sign_eq_one_of_pos (by omega)
    rw [hs, hk, Int.mul_fdiv_cancel_left _ hgi, Int.one_mul, Int.mul_ediv_cancel_left _ hgi]
theorem low_den {n d : Int} (hd : d ≠ 0) : (if d < 0 then d.fdiv (0 - (Int.gcd n d : Nat)) else d.fdiv (Int.gcd n d : Nat)) = ((Rat.divInt n d).den : Int) := by
  have hg : Int.gcd n d ≠ 0 := fun z => hd (Int.gcd_eq_zero_iff.mp z).2
  have hdv : ((Int.gcd n d : Nat) : Int) ∣ d := Int.gcd_dvd_right ..
  obtain ⟨k, hk⟩ := hdv
  have hgi : ((Int.gcd n d : Nat) : Int) ≠ 0 := by omega
  rw [Rat.den_divInt, if_neg hd, Int.gcd_comm d n]
  have hN : d.natAbs = Int.gcd n d * k.natAbs := by
    have := congrArg Int.natAbs hk
    rw [Int.natAbs_mul, Int.natAbs_natCast] at this
    exact this
  rw [hN, Nat.mul_div_cancel_left _ (by omega)]
  generalize hG : ((Int.gcd n d : Nat) : Int) = G at *
  have hGp : 0 < G := by omega
  split
  · rename_i h
    have hkn : k < 0 := by
      rw [hk] at h
      by_cases hk0 : k < 0
      · exact hk0
      · exact absurd h (Int.not_lt.mpr (Int.mul_nonneg (by omega) (by omega)))
    have e1 : (G * k).fdiv (0 - G) = -k := by
      have : G * k = (0 - G) * (-k) := by grind
      rw [this, Int.mul_fdiv_cancel_left _ (by omega)]
    rw [hk, e1]
    omega
  · rename_i h
    have hkp : 0 ≤ k := by
      rw [hk] at h
      by_cases hk0 : k < 0
      · exact absurd (Int.mul_neg_of_pos_of_neg hGp hk0) h
      · omega
    rw [hk, Int.mul_fdiv_cancel_left _ hgi]
    omega
theorem low_eq {n d : Int} (hd : d ≠ 0) : f_u_law_low [.int n, .int d] = .ok (enc (Rat.divInt n d)) := by
  have hg : ((Int.gcd n d : Nat) : Int) ≠ 0 := fun z => hd (Int.gcd_eq_zero_iff.mp (Int.natCast_eq_zero.mp z)).2
  have h1 := low_num (n := n) hd
  have h2 := low_den (n := n) hd
  by_cases h : d < 0
  · rw [if_pos h] at h1 h2
    have hg2 : 0 - ((Int.gcd n d : Nat) : Int) ≠ 0 := by omega
    simp only [Int.zero_sub] at h1 h2 hg2
    simp [f_u_law_low, g_u_law_low, gcd_eq, h, oDiv_int (i := n) hg2, oDiv_int (i := d) hg2, h1, h2, enc, hg]
  · rw [if_neg h] at h1 h2
    simp [f_u_law_low, g_u_law_low, gcd_eq, h, oDiv_int (i := n) hg, oDiv_int (i := d) hg, h1, h2, enc]
/-- n / d, zero over zero being zero -/
def ratOf (n d : Int) : Rat := if d = 0 then 0 else Rat.divInt n d
theorem ratio_eq {n d : Int} : f_u_law_ratio [.int n, .int d] = .ok (enc (ratOf n d)) := by
  by_cases h : d = 0
  · subst h
    simp [f_u_law_ratio, g_u_law_ratio, ratOf, enc]
  · have hb : (d == 0) = false := beq_eq_false_iff_ne.mpr h
    simp [f_u_law_ratio, g_u_law_ratio, ratOf, low_eq h, h, hb]
/-! ### loops and comprehensions that are pure -/
theorem compL_pure {vs : List Nat} {γ : D → En → Option En} {cond : M Bool} {elt : M D} {env : En} {h : D → D} : ∀ {xs : List D} {acc : List D}, (∀ x ∈ xs, ∃ e1 e2 e3, γ x env = some e1 ∧ cond e1 = .ok true e2 ∧ elt e2 = .ok (h x) e3 ∧ wipeE e3 vs = env) → compL vs γ cond elt xs acc env = .ok (acc ++ xs.map h) env
  | [], acc, _ => by simp [compL]
  | x :: xs, acc, H => by
    obtain ⟨e1, e2, e3, h1, h2, h3, h4⟩ := H x List.mem_cons_self
    unfold compL
    rw [h1]
    dsimp only
    rw [h2]
    dsimp only
    rw [h3]
    dsimp only
    rw [h4, compL_pure fun y hy => H y (List.mem_cons_of_mem _ hy)]
    simp
theorem compL_map {α : Type} {enc : α → D} {vs : List Nat} {γ : D → En → Option En} {cond : M Bool} {elt : M D} {env : En} {h : α → D} : ∀ {xs : List α} {acc : List D}, (∀ x ∈ xs, ∃ e1 e2 e3, γ (enc x) env = some e1 ∧ cond e1 = .ok true e2 ∧ elt e2 = .ok (h x) e3 ∧ wipeE e3 vs = env) → compL vs γ cond elt (xs.map enc) acc env = .ok (acc ++ xs.map h) env
  | [], acc, _ => by simp [compL]
  | x :: xs, acc, H => by
    obtain ⟨e1, e2, e3, h1, h2, h3, h4⟩ := H x List.mem_cons_self
    rw [List.map_cons]
    unfold compL
    rw [h1]
    dsimp only
    rw [h2]
    dsimp only
    rw [h3]
    dsimp only
    rw [h4, compL_map fun y hy => H y (List.mem_cons_of_mem _ hy)]
    simp
theorem compL_filter {vs : List Nat} {γ : D → En → Option En} {cond : M Bool} {elt : M D} {env : En} {h : D → D} {p : D → Bool} : ∀ {xs : List D} {acc : List D}, (∀ x ∈ xs, ∃ e1 e2, γ x env = some e1 ∧ cond e1 = .ok (p x) e2 ∧ (p x = true → ∃ e3, elt e2 = .ok (h x) e3 ∧ wipeE e3 vs = env) ∧ (p x = false → wipeE e2 vs = env)) →
    compL vs γ cond elt xs acc env = .ok (acc ++ (xs.filter p).map h) env
  | [], acc, _ => by simp [compL]
  | x :: xs, acc, H => by
    obtain ⟨e1, e2, h1, h2, h3, h4⟩ := H x List.mem_cons_self
    have ih := fun acc => compL_filter (acc := acc) fun y hy => H y (List.mem_cons_of_mem x hy)
    unfold compL
    rw [h1]
    dsimp only
    rw [h2]
    cases hp : p x with
    | true =>
      obtain ⟨e3, q1, q2⟩ := h3 hp
      dsimp only
      rw [q1]
      dsimp only
      rw [q2, ih]
      simp [hp]
    | false =>
      dsimp only
      rw [h4 hp, ih]
      simp [hp]
/-- a loop by its fold: E s is the state of the slots at the fold's s, whatever the loop's own slots hold -/
theorem forL_fold {σ : Type} {γ : D → En → Option En} {g : M Fl} (E : σ → En → Prop) (step : σ → D → σ) : ∀ {xs : List D} {s : σ} {env : En}, E s env → (∀ x ∈ xs, ∀ s env, E s env → ∃ e1 e2, γ x env = some e1 ∧ g e1 = .ok .nx e2 ∧ E (step s x) e2) →
    ∃ env', forL γ g xs env = .ok .nx env' ∧ E (xs.foldl step s) env'
  | [], s, env, h, _ => ⟨env, rfl, h⟩
  | x :: xs, s, env, h, H => by
    obtain ⟨e1, e2, h1, h2, h3⟩ := H x List.mem_cons_self s env h
    obtain ⟨env', q1, q2⟩ := forL_fold E step h3 fun y hy => H y (List.mem_cons_of_mem _ hy)
    refine ⟨env', ?_, q2⟩
    rw [forL_cons, h1]
    dsimp only
    rw [h2]
    exact q1
theorem upTo_len {lo : Int} {n : Nat} : (Iv.upTo lo n).length = n := by simp [Iv.upTo]
theorem mem_upTo {n : Nat} {x : D} (h : x ∈ Iv.upTo 0 n) : ∃ k : Nat, k < n ∧ x = .int (k : Int) := by
  unfold Iv.upTo at h
  obtain ⟨k, h1, h2⟩ := List.mem_map.mp h
  exact ⟨k, List.mem_range.mp h1, by rw [← h2, Int.zero_add]⟩
theorem small_nat {n : Nat} (h : n ≤ 1000000) : small (n : Int) = true := by
  unfold small
  rw [Bool.and_eq_true, decide_eq_true_eq, decide_eq_true_eq]
  omega

/-! ### the same data -/
noncomputable def g_u_law_same (f_u_law_same : List D → FR) : M Fl :=
    mSeq (mIfS (mB (mOp oIs (mPk 1) (mD (mC .non)))) (mRet (mD (mOp oIs (mPk 0) (mD (mC .non))))) (mNx))
    (mSeq (mIfS (mB (mCl cIsi (mCons (mPk 1) (mCons (mD (mC (.ty "bool"))) (mNil))))) (mRet (mD (mAndV (mCl cIsi (mCons (mPk 0) (mCons (mD (mC (.ty "bool"))) (mNil)))) (mOp oEq (mPk 0) (mPk 1))))) (mNx))
    (mSeq (mIfS (mB (mCl cIsi (mCons (mPk 1) (mCons (mD (mC (.ty "int"))) (mNil))))) (mRet (mD (mAndV (mCl cIsi (mCons (mPk 0) (mCons (mD (mC (.ty "int"))) (mNil)))) (mAndV (mNotV (mCl cIsi (mCons (mPk 0) (mCons (mD (mC (.ty "bool"))) (mNil))))) (mOp oEq (mPk 0) (mPk 1)))))) (mNx))
    (mSeq (mIfS (mB (mCl cIsi (mCons (mPk 1) (mCons (mD (mC (.ty "str"))) (mNil))))) (mRet (mD (mAndV (mCl cIsi (mCons (mPk 0) (mCons (mD (mC (.ty "str"))) (mNil)))) (mOp oEq (mPk 0) (mPk 1))))) (mNx))
    (mSeq (mIfS (mB (mCl cIsi (mCons (mPk 1) (mCons (mD (mC (.ty "list"))) (mNil))))) (mIfS (mOrB (mNotB (mB (mCl cIsi (mCons (mPk 0) (mCons (mD (mC (.ty "list"))) (mNil)))))) (mB (mOp oNe (mD (mCl cLen (mCons (mPk 0) (mNil)))) (mD (mCl cLen (mCons (mPk 1) (mNil))))))) (mRet (mD (mC (.bl false)))) (mNx)) (mIfS (mOrB (mNotB (mB (mCl cIsi (mCons (mPk 0) (mCons (mD (mC (.ty "tuple"))) (mNil)))))) (mB (mOp oNe (mD (mCl cLen (mCons (mPk 0) (mNil)))) (mD (mCl cLen (mCons (mPk 1) (mNil))))))) (mRet (mD (mC (.bl false)))) (mNx)))
    (mRet (mD (mCl cAll (mCons (mD (mLc [2] (γN 2) (mRng1 (mCons (mD (mCl cLen (mCons (mPk 1) (mNil)))) (mNil))) (mYes) (mD (mCall 2 f_u_law_same (mCons (mD (mOp oIx (mPk 0) (mPk 2))) (mCons (mD (mOp oIx (mPk 1) (mPk 2))) (mNil))))))) (mNil)))))))))
noncomputable def sameF : Nat → List D → FR
  | 0, _ => .bad
  | n + 1, ds => runF 3 (g_u_law_same (sameF n)) ds
/-- of eight levels -/
noncomputable def f_u_law_same : List D → FR := sameF 8
/-- data of so many levels -/
def Pl : Nat → D → Prop
  | 0, _ => False
  | _ + 1, .non => True
  | _ + 1, .bl _ => True
  | _ + 1, .int _ => True
  | _ + 1, .str _ => True
  | n + 1, .tup l => l.length ≤ 90000 ∧ ∀ x ∈ l, Pl n x
  | n + 1, .lst l => l.length ≤ 90000 ∧ ∀ x ∈ l, Pl n x
  | _ + 1, _ => False
theorem cAll_map {α : Type} {l : List α} {p : α → Bool} : cAll [.lst (l.map fun x => D.bl (p x))] = some (.d (.bl (l.all p))) := by
  have e : l.map (fun x => D.bl (p x)) = (l.map p).map D.bl := by rw [List.map_map]; rfl
  show (bools _).map _ = _
  rw [e, bools_map]
  simp
theorem cAny_map {α : Type} {l : List α} {p : α → Bool} : cAny [.lst (l.map fun x => D.bl (p x))] = some (.d (.bl (l.any p))) := by
  have e : l.map (fun x => D.bl (p x)) = (l.map p).map D.bl := by rw [List.map_map]; rfl
  show (bools _).map _ = _
  rw [e, bools_map]
  simp
theorem same_seq {n : Nat} {l : List D} {c : List D → D} (hc : c = D.tup ∨ c = D.lst) (hl : l.length ≤ 90000) (ih : ∀ x ∈ l, sameF n [x, x] = .ok (.bl true)) : sameF (n + 1) [c l, c l] = .ok (.bl true) := by
  have key : compL [2] (γN 2) mYes (mD (mCall 2 (sameF n) (mCons (mD (mOp oIx (mPk 0) (mPk 2))) (mCons (mD (mOp oIx (mPk 1) (mPk 2))) mNil)))) (Iv.upTo 0 l.length) [] [.fr (c l), .fr (c l), .un] = .ok ((Iv.upTo 0 l.length).map fun _ => D.bl true) [.fr (c l), .fr (c l), .un] := by
    refine compL_pure fun x hx => ?_
    obtain ⟨k, hk, rfl⟩ := mem_upTo hx
    have hg : l[k]? = some l[k] := List.getElem?_eq_getElem hk
    refine ⟨[.fr (c l), .fr (c l), .fr (.int k)], _, [.fr (c l), .fr (c l), .fr (.int k)], rfl, rfl, ?_, rfl⟩
    rcases hc with rfl | rfl <;> simp [atI_nat', hg, ih _ (List.getElem_mem hk)]
  have hs : small (l.length : Int) = true := small_nat (by omega)
  have hall : cAll [.lst ((Iv.upTo 0 l.length).map fun _ => D.bl true)] = some (.d (.bl true)) := by
    rw [cAll_map (p := fun _ => true)]
    simp
  rcases hc with rfl | rfl <;> simp [sameF, g_u_law_same, isN, hs, upTo_len, hl, key, hall]
theorem same_self : ∀ {n : Nat} {d : D}, Pl n d → sameF n [d, d] = .ok (.bl true)
  | 0, _, h => h.elim
  | n + 1, .non, _ => by simp [sameF, g_u_law_same, isN]
  | n + 1, .bl b, _ => by simp [sameF, g_u_law_same, isN]
  | n + 1, .int b, _ => by simp [sameF, g_u_law_same, isN]
  | n + 1, .str b, _ => by simp [sameF, g_u_law_same, isN]
  | n + 1, .tup l, h => same_seq (.inl rfl) h.1 fun x hx => same_self (h.2 x hx)
  | n + 1, .lst l, h => same_seq (.inr rfl) h.1 fun x hx => same_self (h.2 x hx)
  | n + 1, .ty _, h => h.elim
  | n + 1, .scr _, h => h.elim
  | n + 1, .dct _ _, h => h.elim
theorem Pl.enc {n : Nat} {q : Rat} : Pl (n + 2) (enc q) := ⟨by simp, fun x hx => by
  rcases List.mem_cons.mp hx with e | hx
  · rw [e]; exact True.intro
  · rw [List.mem_singleton.mp hx]; exact True.intro⟩
theorem same_enc {q : Rat} : f_u_law_same [enc q, enc q] = .ok (.bl true) := same_self (n := 8) Pl.enc

/-! ### is it a ratio -/
noncomputable def g_u_law_is_integer : M Fl :=
    mRet (mD (mAndV (mCl cIsi (mCons (mPk 0) (mCons (mD (mC (.ty "int"))) (mNil)))) (mNotV (mCl cIsi (mCons (mPk 0) (mCons (mD (mC (.ty "bool"))) (mNil)))))))
noncomputable def f_u_law_is_integer : List D → FR := runF 1 g_u_law_is_integer
noncomputable def g_u_law_is_ratio : M Fl :=
    mSeq (mIfS (mOrB (mNotB (mB (mCl cIsi (mCons (mPk 0) (mCons (mD (mC (.ty "tuple"))) (mNil)))))) (mB (mOp oNe (mD (mCl cLen (mCons (mPk 0) (mNil)))) (mD (mC (.int 2)))))) (mRet (mD (mC (.bl false)))) (mNx))
    (mSeq (mIfS (mOrB (mNotB (mB (mCall 1 f_u_law_is_integer (mCons (mD (mOp oIx (mPk 0) (mD (mC (.int 0))))) (mNil))))) (mNotB (mB (mCall 1 f_u_law_is_integer (mCons (mD (mOp oIx (mPk 0) (mD (mC (.int 1))))) (mNil)))))) (mRet (mD (mC (.bl false)))) (mNx))
    (mRet (mD (mAndV (mOp oGe (mD (mOp oIx (mPk 0) (mD (mC (.int 1))))) (mD (mC (.int 1)))) (mOp oEq (mD (mCall 2 f_u_law_gcd (mCons (mD (mOp oIx (mPk 0) (mD (mC (.int 0))))) (mCons (mD (mOp oIx (mPk 0) (mD (mC (.int 1))))) (mNil))))) (mD (mC (.int 1))))))))
noncomputable def f_u_law_is_ratio : List D → FR := runF 1 g_u_law_is_ratio
theorem is_int {i : Int} : f_u_law_is_integer [.int i] = .ok (.bl true) := by simp [f_u_law_is_integer, g_u_law_is_integer]
theorem is_rat {q : Rat} : f_u_law_is_ratio [enc q] = .ok (.bl true) := by
  have h1 : (1 : Int) ≤ (q.den : Int) := by have := q.den_pos; omega
  have h2 : Int.gcd q.num (q.den : Int) = 1 := q.reduced
  simp [f_u_law_is_ratio, g_u_law_is_ratio, enc, is_int, h1, gcd_eq, h2]
end Law

set_option Elab.async false
set_option linter.all false
set_option maxHeartbeats 1000000
set_option maxRecDepth 100000
/-! Ratios of the program. -/
namespace Law
open PySem PySem.Spec PyProof.Rows L2 Evl Iv
/-! ### sizes of ratios -/
def Sz (b : Nat) (q : Rat) : Prop := q.num.natAbs < 2 ^ b ∧ q.den < 2 ^ b
theorem Sz.mono {a b : Nat} {q : Rat} (h : Sz a q) (hl : a ≤ b) : Sz b q :=
  ⟨Nat.lt_of_lt_of_le h.1 (Nat.pow_le_pow_right (by decide) hl), Nat.lt_of_lt_of_le h.2 (Nat.pow_le_pow_right (by decide) hl)⟩
theorem divInt_size {n d : Int} (hd : d ≠ 0) : (Rat.divInt n d).num.natAbs ≤ n.natAbs ∧ (Rat.divInt n d).den ≤ d.natAbs := by
  rw [Rat.num_divInt, Rat.den_divInt, if_neg hd]
  constructor
  · have hg : Int.gcd d n ≠ 0 := fun z => hd (Int.gcd_eq_zero_iff.mp z).1
    obtain ⟨k, hk⟩ := (Int.gcd_dvd_right .. : ((Int.gcd d n : Nat) : Int) ∣ n)
    have hgi : ((Int.gcd d n : Nat) : Int) ≠ 0 := by omega
    generalize hG : ((Int.gcd d n : Nat) : Int) = G at *
    have e : d.sign * n / G = d.sign * k := by
      rw [hk, show d.sign * (G * k) = G * (d.sign * k) by grind, Int.mul_ediv_cancel_left _ hgi]
    rw [e, hk, Int.natAbs_mul, Int.natAbs_mul, Int.natAbs_sign_of_ne_zero hd, Nat.one_mul]
    exact Nat.le_mul_of_pos_left _ (by omega)
  · exact Nat.div_le_self _ _
theorem divInt_sz {n d : Int} {b : Nat} (hd : d ≠ 0) (hn : n.natAbs < 2 ^ b) (hb : d.natAbs < 2 ^ b) : Sz b (Rat.divInt n d) :=
  ⟨Nat.lt_of_le_of_lt (divInt_size hd).1 hn, Nat.lt_of_le_of_lt (divInt_size hd).2 hb⟩
theorem add_divInt (p q : Rat) : p + q = Rat.divInt (p.num * q.den + q.num * p.den) (p.den * q.den) := by
  have hp : (p.den : Int) ≠ 0 := by have := p.den_nz; omega
  have hq : (q.den : Int) ≠ 0 := by have := q.den_nz; omega
  rw [← Rat.divInt_add_divInt _ _ hp hq, Rat.num_divInt_den, Rat.num_divInt_den]
theorem sub_divInt (p q : Rat) : p - q = Rat.divInt (p.num * q.den - q.num * p.den) (p.den * q.den) := by
  have hp : (p.den : Int) ≠ 0 := by have := p.den_nz; omega
  have hq : (q.den : Int) ≠ 0 := by have := q.den_nz; omega
  rw [← Rat.divInt_sub_divInt _ _ hp hq, Rat.num_divInt_den, Rat.num_divInt_den]
theorem mul_divInt (p q : Rat) : p * q = Rat.divInt (p.num * q.num) (p.den * q.den) := by
  rw [← Rat.divInt_mul_divInt, Rat.num_divInt_den, Rat.num_divInt_den]
theorem div_divInt (p q : Rat) : p / q = Rat.divInt (p.num * q.den) (p.den * q.num) := by
  rw [Rat.div_def, Rat.inv_def, ← Rat.divInt_mul_divInt, Rat.num_divInt_den]
theorem dens_ne (p q : Rat) : (p.den : Int) * (q.den : Int) ≠ 0 := by
  have hp := p.den_pos
  have hq := q.den_pos
  have : 0 < (p.den : Int) * (q.den : Int) := Int.mul_pos (by omega) (by omega)
  omega
theorem lt_mul {x y a b : Nat} (hx : x < 2 ^ a) (hy : y < 2 ^ b) : x * y < 2 ^ (a + b) := by
  rw [Nat.pow_add]
  exact Nat.mul_lt_mul'' hx hy
theorem Sz.add {a b : Nat} {p q : Rat} (hp : Sz a p) (hq : Sz b q) : Sz (a + b + 1) (p + q) := by
  rw [add_divInt]
  have h1 := lt_mul hp.1 hq.2
  have h2 := lt_mul hq.1 hp.2
  have h3 := lt_mul hp.2 hq.2
  rw [Nat.add_comm b a] at h2
  have h4 : 2 ^ (a + b + 1) = 2 ^ (a + b) + 2 ^ (a + b) := by rw [Nat.pow_succ]; omega
  refine divInt_sz (dens_ne p q) ?_ ?_
  · have : (p.num * q.den + q.num * p.den).natAbs ≤ (p.num * q.den).natAbs + (q.num * p.den).natAbs := Int.natAbs_add_le _ _
    rw [Int.natAbs_mul, Int.natAbs_mul, Int.natAbs_natCast, Int.natAbs_natCast] at this
    omega
  · rw [Int.natAbs_mul, Int.natAbs_natCast, Int.natAbs_natCast]
    omega
theorem Sz.neg {a : Nat} {p : Rat} (hp : Sz a p) : Sz a (-p) := ⟨by rw [Rat.neg_num, Int.natAbs_neg]; exact hp.1, by rw [Rat.neg_den]; exact hp.2⟩
theorem Sz.sub {a b : Nat} {p q : Rat} (hp : Sz a p) (hq : Sz b q) : Sz (a + b + 1) (p - q) := by
  rw [Rat.sub_eq_add_neg]
  exact hp.add hq.neg
theorem Sz.mul {a b : Nat} {p q : Rat} (hp : Sz a p) (hq : Sz b q) : Sz (a + b) (p * q) := by
  rw [mul_divInt]
  refine divInt_sz (dens_ne p q) ?_ ?_
  · rw [Int.natAbs_mul]
    exact lt_mul hp.1 hq.1
  · rw [Int.natAbs_mul, Int.natAbs_natCast, Int.natAbs_natCast]
    exact lt_mul hp.2 hq.2
theorem num_ne {q : Rat} (h : q ≠ 0) : q.num ≠ 0 := fun z => h (Rat.num_eq_zero.mp z)
theorem Sz.div {a b : Nat} {p q : Rat} (hp : Sz a p) (hq : Sz b q) (h0 : q ≠ 0) : Sz (a + b) (p / q) := by
  rw [div_divInt]
  have hd : (p.den : Int) * q.num ≠ 0 := Int.mul_ne_zero (by have := p.den_nz; omega) (num_ne h0)
  refine divInt_sz hd ?_ ?_
  · rw [Int.natAbs_mul, Int.natAbs_natCast]
    exact lt_mul hp.1 hq.2
  · rw [Int.natAbs_mul, Int.natAbs_natCast]
    exact lt_mul hp.2 hq.1
theorem sz_zero : Sz 1 0 := ⟨by decide, by decide⟩
theorem sz_one : Sz 1 1 := ⟨by decide, by decide⟩

/-! ### the program's functions -/
noncomputable def g_make_ratio : M Fl :=
    mSeq (mIfS (mB (mOp oEq (mPk 1) (mD (mC (.int 0))))) ((fun _ => .bad : M Fl)) (mNx))
    (mSeq (mSet 2 (mCl cGcd (mCons (mPk 0) (mCons (mPk 1) (mNil)))))
    (mSeq (mIfS (mB (mOp oLt (mPk 1) (mD (mC (.int 0))))) (mSet 2 (mUn oNeg (mPk 2))) (mNx))
    (mRet (mD (mTup (mCons (mD (mOp oDiv (mPk 0) (mPk 2))) (mCons (mD (mOp oDiv (mPk 1) (mPk 2))) (mNil))))))))
noncomputable def f_make_ratio : List D → FR := runF 3 g_make_ratio
noncomputable def g_add : M Fl :=
    mRet (mD (mCall 2 f_make_ratio (mCons (mD (mOp oAdd (mD (mOp oMul (mD (mOp oIx (mPk 0) (mD (mC (.int 0))))) (mD (mOp oIx (mPk 1) (mD (mC (.int 1))))))) (mD (mOp oMul (mD (mOp oIx (mPk 1) (mD (mC (.int 0))))) (mD (mOp oIx (mPk 0) (mD (mC (.int 1))))))))) (mCons (mD (mOp oMul (mD (mOp oIx (mPk 0) (mD (mC (.int 1))))) (mD (mOp oIx (mPk 1) (mD (mC (.int 1))))))) (mNil)))))
noncomputable def f_add : List D → FR := runF 2 g_add
noncomputable def g_subtract : M Fl :=
    mRet (mD (mCall 2 f_make_ratio (mCons (mD (mOp oSub (mD (mOp oMul (mD (mOp oIx (mPk 0) (mD (mC (.int 0))))) (mD (mOp oIx (mPk 1) (mD (mC (.int 1))))))) (mD (mOp oMul (mD (mOp oIx (mPk 1) (mD (mC (.int 0))))) (mD (mOp oIx (mPk 0) (mD (mC (.int 1))))))))) (mCons (mD (mOp oMul (mD (mOp oIx (mPk 0) (mD (mC (.int 1))))) (mD (mOp oIx (mPk 1) (mD (mC (.int 1))))))) (mNil)))))
noncomputable def f_subtract : List D → FR := runF 2 g_subtract
theorem make_eq {n d : Int} (hd : d ≠ 0) : f_make_ratio [.int n, .int d] = .ok (enc (Rat.divInt n d)) := by
  have hg : ((Int.gcd n d : Nat) : Int) ≠ 0 := fun z => hd (Int.gcd_eq_zero_iff.mp (Int.natCast_eq_zero.mp z)).2
  have h1 := low_num (n := n) hd
  have h2 := low_den (n := n) hd
  have hb : (d == 0) = false := beq_eq_false_iff_ne.mpr hd
  have eg : ((Nat.gcd n.natAbs d.natAbs : Nat) : Int) = ((Int.gcd n d : Nat) : Int) := rfl
  by_cases h : d < 0
  · rw [if_pos h, Int.zero_sub] at h1 h2
    have hg2 : -((Int.gcd n d : Nat) : Int) ≠ 0 := by omega
    simp [f_make_ratio, g_make_ratio, hb, hd, eg, h, oDiv_int (i := n) hg2, oDiv_int (i := d) hg2, h1, h2, enc, hg]
  · rw [if_neg h] at h1 h2
    simp [f_make_ratio, g_make_ratio, hb, hd, eg, h, oDiv_int (i := n) hg, oDiv_int (i := d) hg, h1, h2, enc]
theorem mk_nd {p q : Rat} {a b : Nat} (hp : Sz a p) (hq : Sz b q) (h : a + b ≤ 130000000) : mulOk p.num q.den = true := mulOk_of hp.1 (by rw [Int.natAbs_natCast]; exact hq.2) h
theorem mk_dd {p q : Rat} {a b : Nat} (hp : Sz a p) (hq : Sz b q) (h : a + b ≤ 130000000) : mulOk p.den q.den = true := mulOk_of (by rw [Int.natAbs_natCast]; exact hp.2) (by rw [Int.natAbs_natCast]; exact hq.2) h
theorem mk_nn {p q : Rat} {a b : Nat} (hp : Sz a p) (hq : Sz b q) (h : a + b ≤ 130000000) : mulOk p.num q.num = true := mulOk_of hp.1 hq.1 h
theorem mk_dn {p q : Rat} {a b : Nat} (hp : Sz a p) (hq : Sz b q) (h : a + b ≤ 130000000) : mulOk p.den q.num = true := mulOk_of (by rw [Int.natAbs_natCast]; exact hp.2) hq.1 h
theorem add_eq {p q : Rat} {a b : Nat} (hp : Sz a p) (hq : Sz b q) (h : a + b ≤ 130000000) : f_add [enc p, enc q] = .ok (enc (p + q)) := by
  have h' : b + a ≤ 130000000 := by omega
  rw [add_divInt]
  simp [f_add, g_add, enc, oMul_int (mk_nd hp hq h), oMul_int (mk_nd hq hp h'), oMul_int (mk_dd hp hq h), make_eq (dens_ne p q)]
theorem sub_eq {p q : Rat} {a b : Nat} (hp : Sz a p) (hq : Sz b q) (h : a + b ≤ 130000000) : f_subtract [enc p, enc q] = .ok (enc (p - q)) := by
  have h' : b + a ≤ 130000000 := by omega
  rw [sub_divInt]
  simp [f_subtract, g_subtract, enc, oMul_int (mk_nd hp hq h), oMul_int (mk_nd hq hp h'), oMul_int (mk_dd hp hq h), make_eq (dens_ne p q)]
@[simp] theorem ix_num {q : Rat} : oIx (enc q) (.int 0) = some (.d (.int q.num)) := rfl
@[simp] theorem ix_den {q : Rat} : oIx (enc q) (.int 1) = some (.d (.int (q.den : Int))) := rfl
theorem cross {q : Rat} {n d : Int} (hd : d ≠ 0) (h : q = Rat.divInt n d) : q.num * d = n * (q.den : Int) := by
  have hq : (q.den : Int) ≠ 0 := by have := q.den_nz; omega
  have e : Rat.divInt q.num q.den = Rat.divInt n d := by rw [Rat.num_divInt_den, h]
  exact (Rat.divInt_eq_divInt_iff hq hd).mp e
theorem add_cross (a b : Rat) : (a + b).num * ((a.den : Int) * b.den) = (a.num * b.den + b.num * a.den) * ((a + b).den : Int) := cross (dens_ne a b) (add_divInt a b)
theorem sub_cross (a b : Rat) : (a - b).num * ((a.den : Int) * b.den) = (a.num * b.den - b.num * a.den) * ((a - b).den : Int) := cross (dens_ne a b) (sub_divInt a b)
theorem mul_cross (a b : Rat) : (a * b).num * ((a.den : Int) * b.den) = a.num * b.num * ((a * b).den : Int) := cross (dens_ne a b) (mul_divInt a b)
theorem enc_neg {q : Rat} : D.tup [.int (0 - q.num), .int (q.den : Int)] = enc (-q) := by
  unfold enc
  rw [Rat.neg_num, Rat.neg_den, Int.zero_sub]
theorem enc_neg' {q : Rat} : D.tup [.int (-q.num), .int (q.den : Int)] = enc (-q) := by
  unfold enc
  rw [Rat.neg_num, Rat.neg_den]
theorem enc_zero : D.tup [.int 0, .int 1] = enc 0 := rfl
theorem enc_one : D.tup [.int 1, .int 1] = enc 1 := rfl
/-! ### sizes of cells -/
theorem bits_lt {i : Int} {b : Nat} (h : Builtin.Int.intBits i ≤ b) : i.natAbs < 2 ^ b := by
  unfold Builtin.Int.intBits at h
  by_cases h0 : i.natAbs = 0
  · rw [h0]; exact Nat.two_pow_pos b
  · have h1 : ¬ ((i == 0) = true) := fun z => h0 (by rw [beq_iff_eq] at z; omega)
    have h2 : i.natAbs.log2 + 1 ≤ b := by
      first
        | (rw [if_neg h1] at h; exact h)
        | (simp at h; omega)
    exact (Nat.log2_lt h0).mp (by omega)
theorem cell_sz {ns : List Int} {k b : Nat} (hb : ∀ i ∈ ns, Builtin.Int.intBits i ≤ b) (h64 : 64 ≤ b) (hk : k < 1000000) : (cellAt ns k).natAbs < 2 ^ b := by
  unfold cellAt
  split
  · rename_i v e
    exact bits_lt (hb v (List.mem_of_getElem? e))
  · have h1 : (2 : Nat) ^ 64 ≤ 2 ^ b := Nat.pow_le_pow_right (by decide) h64
    have h2 : (10000000 : Nat) < 2 ^ 64 := by decide
    omega
theorem ratOf_sz {n d : Int} {b : Nat} (hn : n.natAbs < 2 ^ b) (hd : d.natAbs < 2 ^ b) (h1 : 1 ≤ b) : Sz b (ratOf n d) := by
  unfold ratOf
  split
  · exact sz_zero.mono h1
  · rename_i h
    exact divInt_sz h hn hd
/-! ### a loop by what holds of it -/
theorem forL_inv {γ : D → En → Option En} {g : M Fl} {all : List D} (P : Nat → En → Prop) (step : ∀ i x env, all[i]? = some x → P i env → ∃ e1 e2, γ x env = some e1 ∧ g e1 = .ok .nx e2 ∧ P (i + 1) e2) :
    ∀ {xs : List D} {i : Nat} {env : En}, all.drop i = xs → i ≤ all.length → P i env → ∃ env', forL γ g xs env = .ok .nx env' ∧ P all.length env'
  | [], i, env, hx, hi, h => by
    have : i = all.length := by
      have := congrArg List.length hx
      rw [List.length_drop, List.length_nil] at this
      omega
    subst this
    exact ⟨env, rfl, h⟩
  | x :: xs, i, env, hx, hi, h => by
    have hl : i < all.length := by
      have := congrArg List.length hx
      rw [List.length_drop, List.length_cons] at this
      omega
    have hd := List.drop_eq_getElem_cons hl
    rw [hx] at hd
    obtain ⟨h1, h2⟩ := List.cons.inj hd
    have hg : all[i]? = some x := by rw [List.getElem?_eq_getElem hl, h1]
    obtain ⟨e1, e2, q1, q2, q3⟩ := step i x env hg h
    obtain ⟨env', q4, q5⟩ := forL_inv P step (xs := xs) (i := i + 1) (env := e2) h2.symm hl q3
    refine ⟨env', ?_, q5⟩
    rw [forL_cons, q1]
    dsimp only
    rw [q2]
    exact q4
theorem for_inv {γ : D → En → Option En} {g : M Fl} {all : List D} {env : En} (P : Nat → En → Prop) (h0 : P 0 env) (step : ∀ i x env, all[i]? = some x → P i env → ∃ e1 e2, γ x env = some e1 ∧ g e1 = .ok .nx e2 ∧ P (i + 1) e2) :
    ∃ env', forL γ g all env = .ok .nx env' ∧ P all.length env' := forL_inv P step (xs := all) (i := 0) rfl (Nat.zero_le _) h0
/-! ### two ratios: the same, less, greater -/
theorem same_int {n : Nat} {i j : Int} : sameF (n + 1) [.int i, .int j] = .ok (.bl (i == j)) := by simp [sameF, g_u_law_same, isN]
theorem sameF_succ {n : Nat} {ds : List D} : sameF (n + 1) ds = runF 3 (g_u_law_same (sameF n)) ds := rfl
theorem same_two {f : List D → FR} (hf : ∀ i j : Int, f [.int i, .int j] = .ok (.bl (i == j))) {a b c d : Int} : runF 3 (g_u_law_same f) [.tup [.int a, .int b], .tup [.int c, .int d]] = .ok (.bl ((a == c) && ((b == d) && true))) := by
  have e : Iv.upTo 0 2 = [.int 0, .int 1] := rfl
  have hs : small 2 = true := by decide
  have ha : cAll [.lst [.bl (a == c), .bl (b == d)]] = some (.d (.bl ((a == c) && ((b == d) && true)))) := by simp [cAll, Iv.bools]
  have key : compL [2] (γN 2) mYes (mD (mCall 2 f (mCons (mD (mOp oIx (mPk 0) (mPk 2))) (mCons (mD (mOp oIx (mPk 1) (mPk 2))) mNil)))) [.int 0, .int 1] [] [.fr (.tup [.int a, .int b]), .fr (.tup [.int c, .int d]), .un] = .ok [.bl (a == c), .bl (b == d)] [.fr (.tup [.int a, .int b]), .fr (.tup [.int c, .int d]), .un] := by
    simp [compL, hf]
  simp [g_u_law_same, isN, hs, e, key, ha]
theorem same_rat {p q : Rat} : f_u_law_same [enc p, enc q] = .ok (.bl (decide (p = q))) := by
  have e2 : decide (p = q) = ((p.num == q.num) && (((p.den : Int) == (q.den : Int)) && true)) := by
    rw [Bool.eq_iff_iff]
    simp only [decide_eq_true_eq, Bool.and_eq_true, beq_iff_eq]
    constructor
    · intro h; subst h; exact ⟨rfl, rfl, trivial⟩
    · intro h; exact Rat.ext h.1 (by omega)
  rw [e2]
  show sameF (7 + 1) [enc p, enc q] = _
  rw [sameF_succ]
  exact same_two fun i j => same_int (n := 6)
noncomputable def cmpQ (p q : Rat) : Int := if p < q then -1 else if q < p then 1 else 0
noncomputable def g_compare : M Fl :=
    mSeq (mSet 2 (mOp oMul (mD (mOp oIx (mPk 0) (mD (mC (.int 0))))) (mD (mOp oIx (mPk 1) (mD (mC (.int 1)))))))
    (mSeq (mSet 3 (mOp oMul (mD (mOp oIx (mPk 1) (mD (mC (.int 0))))) (mD (mOp oIx (mPk 0) (mD (mC (.int 1)))))))
    (mSeq (mIfS (mB (mOp oLt (mPk 2) (mPk 3))) (mRet (mD (mUn oNeg (mD (mC (.int 1)))))) (mNx))
    (mSeq (mIfS (mB (mOp oGt (mPk 2) (mPk 3))) (mRet (mD (mC (.int 1)))) (mNx))
    (mRet (mD (mC (.int 0)))))))
noncomputable def f_compare : List D → FR := runF 4 g_compare
theorem compare_eq {p q : Rat} {a b : Nat} (hp : Sz a p) (hq : Sz b q) (h : a + b ≤ 130000000) : f_compare [enc p, enc q] = .ok (.int (cmpQ p q)) := by
  have m1 := mk_nd hp hq h
  have m2 := mk_nd hq hp (by omega)
  have l1 := Rat.lt_iff p q
  have l2 := Rat.lt_iff q p
  unfold cmpQ
  by_cases h1 : p < q
  · have h1' := l1.mp h1
    simp [f_compare, g_compare, oMul_int, m1, m2, h1, h1']
  · have h1' : ¬ (p.num * (q.den : Int) < q.num * (p.den : Int)) := fun z => h1 (l1.mpr z)
    by_cases h2 : q < p
    · have h2' := l2.mp h2
      simp [f_compare, g_compare, oMul_int, m1, m2, h1, h2, h1', h2']
    · have h2' : ¬ (q.num * (p.den : Int) < p.num * (q.den : Int)) := fun z => h2 (l2.mpr z)
      simp [f_compare, g_compare, oMul_int, m1, m2, h1, h2, h1', h2']
end Law

set_option Elab.async false
set_option linter.all false
set_option maxRecDepth 100000
set_option maxHeartbeats 4000000
/-! The ratio arithmetic of laws and program; draws. -/
namespace Law
open PySem PySem.Spec PyProof.Rows L2 Evl Iv
noncomputable def g_u_law_add : M Fl :=
    mRet (mD (mCall 2 f_u_law_low (mCons (mD (mOp oAdd (mD (mOp oMul (mD (mOp oIx (mPk 0) (mD (mC (.int 0))))) (mD (mOp oIx (mPk 1) (mD (mC (.int 1))))))) (mD (mOp oMul (mD (mOp oIx (mPk 1) (mD (mC (.int 0))))) (mD (mOp oIx (mPk 0) (mD (mC (.int 1))))))))) (mCons (mD (mOp oMul (mD (mOp oIx (mPk 0) (mD (mC (.int 1))))) (mD (mOp oIx (mPk 1) (mD (mC (.int 1))))))) (mNil)))))
noncomputable def f_u_law_add : List D → FR := runF 2 g_u_law_add
noncomputable def g_u_law_subtract : M Fl :=
    mRet (mD (mCall 2 f_u_law_low (mCons (mD (mOp oSub (mD (mOp oMul (mD (mOp oIx (mPk 0) (mD (mC (.int 0))))) (mD (mOp oIx (mPk 1) (mD (mC (.int 1))))))) (mD (mOp oMul (mD (mOp oIx (mPk 1) (mD (mC (.int 0))))) (mD (mOp oIx (mPk 0) (mD (mC (.int 1))))))))) (mCons (mD (mOp oMul (mD (mOp oIx (mPk 0) (mD (mC (.int 1))))) (mD (mOp oIx (mPk 1) (mD (mC (.int 1))))))) (mNil)))))
noncomputable def f_u_law_subtract : List D → FR := runF 2 g_u_law_subtract
noncomputable def g_u_law_multiply : M Fl :=
    mRet (mD (mCall 2 f_u_law_low (mCons (mD (mOp oMul (mD (mOp oIx (mPk 0) (mD (mC (.int 0))))) (mD (mOp oIx (mPk 1) (mD (mC (.int 0))))))) (mCons (mD (mOp oMul (mD (mOp oIx (mPk 0) (mD (mC (.int 1))))) (mD (mOp oIx (mPk 1) (mD (mC (.int 1))))))) (mNil)))))
noncomputable def f_u_law_multiply : List D → FR := runF 2 g_u_law_multiply
noncomputable def g_multiply : M Fl :=
    mRet (mD (mCall 2 f_make_ratio (mCons (mD (mOp oMul (mD (mOp oIx (mPk 0) (mD (mC (.int 0))))) (mD (mOp oIx (mPk 1) (mD (mC (.int 0))))))) (mCons (mD (mOp oMul (mD (mOp oIx (mPk 0) (mD (mC (.int 1))))) (mD (mOp oIx (mPk 1) (mD (mC (.int 1))))))) (mNil)))))
noncomputable def f_multiply : List D → FR := runF 2 g_multiply
noncomputable def g_divide : M Fl :=
    mRet (mD (mCall 2 f_make_ratio (mCons (mD (mOp oMul (mD (mOp oIx (mPk 0) (mD (mC (.int 0))))) (mD (mOp oIx (mPk 1) (mD (mC (.int 1))))))) (mCons (mD (mOp oMul (mD (mOp oIx (mPk 0) (mD (mC (.int 1))))) (mD (mOp oIx (mPk 1) (mD (mC (.int 0))))))) (mNil)))))
noncomputable def f_divide : List D → FR := runF 2 g_divide
noncomputable def g_u_law_draws : M Fl :=
    mSeq (mSet 2 (mCl cAbs (mCons (mD (mCl cInt (mCons (mPk 0) (mNil)))) (mNil))))
    (mSeq (mSet 3 (mOp oGe (mPk 2) (mD (mOp oPow (mD (mC (.int 10))) (mD (mC (.int 18)))))))
    (mSeq (mSet 4 (mVar 2))
    (mSeq (mSet 5 (mLst (mNil)))
    (mSeq (mFor (γN 6) (mRng1 (mCons (mPk 1) (mNil))) (mIfS (mAndB (mB (mVar 3)) (mB (mOp oGt (mPk 2) (mD (mC (.int 0)))))) (mSeq (mApp 5 (mD (mOp oMod (mD (mCl cInt (mCons (mPk 2) (mNil)))) (mD (mC (.int 5040))))))
    (mSet 2 (mOp oDiv (mPk 2) (mD (mC (.int 5040)))))) (mSeq (mSet 7 (mOp oMod (mD (mCl cInt (mCons (mD (mOp oAdd (mD (mOp oAdd (mD (mOp oMul (mPk 4) (mD (mC (.int 48271))))) (mD (mOp oMul (mD (mOp oAdd (mPk 6) (mD (mC (.int 1))))) (mD (mC (.int 69621))))))) (mD (mC (.int 11))))) (mNil)))) (mD (mC (.int 2147483647)))))
    (mSeq (mSet 7 (mOp oMod (mD (mCl cInt (mCons (mD (mOp oAdd (mD (mOp oMul (mPk 7) (mPk 7))) (mD (mOp oMul (mD (mC (.int 40692))) (mD (mOp oAdd (mPk 6) (mD (mC (.int 3))))))))) (mNil)))) (mD (mC (.int 2147483399)))))
    (mApp 5 (mD (mOp oMod (mD (mCl cInt (mCons (mD (mOp oDiv (mPk 7) (mD (mC (.int 64))))) (mNil)))) (mD (mC (.int 5040))))))))))
    (mRet (mD (mVar 5)))))))
noncomputable def f_u_law_draws : List D → FR := runF 8 g_u_law_draws
noncomputable def g_u_law_discount : M Fl :=
    mSeq (mSet 1 (mOp oAdd (mD (mC (.int 2))) (mD (mOp oMod (mD (mCl cInt (mCons (mPk 0) (mNil)))) (mD (mC (.int 9)))))))
    (mRet (mD (mCall 2 f_u_law_low (mCons (mD (mOp oMod (mD (mOp oDiv (mD (mCl cInt (mCons (mPk 0) (mNil)))) (mD (mC (.int 9))))) (mPk 1))) (mCons (mD (mVar 1)) (mNil))))))
noncomputable def f_u_law_discount : List D → FR := runF 2 g_u_law_discount
theorem ladd_eq {p q : Rat} {a b : Nat} (hp : Sz a p) (hq : Sz b q) (h : a + b ≤ 130000000) : f_u_law_add [enc p, enc q] = .ok (enc (p + q)) := by
  simp [f_u_law_add, g_u_law_add, oMul_int, mk_nd hp hq h, mk_nd hq hp (by omega : b + a ≤ _), mk_dd hp hq h, low_eq (dens_ne p q), add_divInt]
theorem lsub_eq {p q : Rat} {a b : Nat} (hp : Sz a p) (hq : Sz b q) (h : a + b ≤ 130000000) : f_u_law_subtract [enc p, enc q] = .ok (enc (p - q)) := by
  simp [f_u_law_subtract, g_u_law_subtract, oMul_int, mk_nd hp hq h, mk_nd hq hp (by omega : b + a ≤ _), mk_dd hp hq h, low_eq (dens_ne p q), sub_divInt]
theorem lmul_eq {p q : Rat} {a b : Nat} (hp : Sz a p) (hq : Sz b q) (h : a + b ≤ 130000000) : f_u_law_multiply [enc p, enc q] = .ok (enc (p * q)) := by
  simp [f_u_law_multiply, g_u_law_multiply, oMul_int, mk_nn hp hq h, mk_dd hp hq h, low_eq (dens_ne p q), mul_divInt]
theorem mul_eq {p q : Rat} {a b : Nat} (hp : Sz a p) (hq : Sz b q) (h : a + b ≤ 130000000) : f_multiply [enc p, enc q] = .ok (enc (p * q)) := by
  simp [f_multiply, g_multiply, oMul_int, mk_nn hp hq h, mk_dd hp hq h, make_eq (dens_ne p q), mul_divInt]
theorem div_eq {p q : Rat} {a b : Nat} (hp : Sz a p) (hq : Sz b q) (h : a + b ≤ 130000000) (h0 : q ≠ 0) : f_divide [enc p, enc q] = .ok (enc (p / q)) := by
  have hd : (p.den : Int) * q.num ≠ 0 := Int.mul_ne_zero (by have := p.den_pos; omega) (num_ne h0)
  simp [f_divide, g_divide, oMul_int, mk_nd hp hq h, mk_dn hp hq h, make_eq hd, div_divInt]
/-! ### draws -/
theorem fm {i : Int} {k : Nat} (h : 0 < k) : i.fmod (k : Int) = i % (k : Int) := Int.fmod_eq_emod_of_nonneg _ (by omega)
theorem nat_of {i : Int} (h : 0 ≤ i) : ∃ n : Nat, i = (n : Int) := ⟨i.toNat, by omega⟩
theorem pow_18 : oPow (.int 10) (.int 18) = some (.d (.int 1000000000000000000)) := rfl
/-- a row of draws -/
def Dr (n : Nat) (xs : List Int) : Prop := xs.length = n ∧ ∀ x ∈ xs, 0 ≤ x ∧ x < 5040
theorem Dr.snoc {n : Nat} {xs : List Int} {x : Int} (h : Dr n xs) (h0 : 0 ≤ x) (h1 : x < 5040) : Dr (n + 1) (xs ++ [x]) := ⟨by rw [List.length_append, h.1]; rfl, fun y hy => by
  rcases List.mem_append.mp hy with hy | hy
  · exact h.2 y hy
  · rw [List.mem_singleton.mp hy]; exact ⟨h0, h1⟩⟩
theorem draws_eq {i : Int} {B n : Nat} (hi : i.natAbs < 2 ^ B) (hB : B ≤ 100000000) (hn : n ≤ 1000) : ∃ xs, Dr n xs ∧ f_u_law_draws [.int i, .int (n : Int)] = .ok (.lst (xs.map .int)) := by
  obtain ⟨big, hbig⟩ : ∃ b : Bool, b = decide ((1000000000000000000 : Int) ≤ (i.natAbs : Int)) := ⟨_, rfl⟩
  have key := for_inv (γ := γN 6) (g := (mIfS (mAndB (mB (mVar 3)) (mB (mOp oGt (mPk 2) (mD (mC (.int 0)))))) (mSeq (mApp 5 (mD (mOp oMod (mD (mCl cInt (mCons (mPk 2) (mNil)))) (mD (mC (.int 5040))))))
    (mSet 2 (mOp oDiv (mPk 2) (mD (mC (.int 5040)))))) (mSeq (mSet 7 (mOp oMod (mD (mCl cInt (mCons (mD (mOp oAdd (mD (mOp oAdd (mD (mOp oMul (mPk 4) (mD (mC (.int 48271))))) (mD (mOp oMul (mD (mOp oAdd (mPk 6) (mD (mC (.int 1))))) (mD (mC (.int 69621))))))) (mD (mC (.int 11))))) (mNil)))) (mD (mC (.int 2147483647)))))
    (mSeq (mSet 7 (mOp oMod (mD (mCl cInt (mCons (mD (mOp oAdd (mD (mOp oMul (mPk 7) (mPk 7))) (mD (mOp oMul (mD (mC (.int 40692))) (mD (mOp oAdd (mPk 6) (mD (mC (.int 3))))))))) (mNil)))) (mD (mC (.int 2147483399)))))
    (mApp 5 (mD (mOp oMod (mD (mCl cInt (mCons (mD (mOp oDiv (mPk 7) (mD (mC (.int 64))))) (mNil)))) (mD (mC (.int 5040))))))))))
    (all := Iv.upTo 0 n) (env := [.fr (.int i), .fr (.int (n : Int)), .fr (.int (i.natAbs : Int)), .fr (.bl big), .fr (.int (i.natAbs : Int)), .ow [], .un, .un])
    (fun k env => ∃ xs r s6 s7, env = [.fr (.int i), .fr (.int (n : Int)), .fr (.int r), .fr (.bl big), .fr (.int (i.natAbs : Int)), .ow (xs.map .int), s6, s7] ∧ Dr k xs) ⟨[], _, .un, .un, rfl, rfl, fun _ h => nomatch h⟩ (by
      rintro k x env hx ⟨xs, r, s6, s7, rfl, hd⟩
      obtain ⟨j, hj, rfl⟩ := mem_upTo (List.mem_of_getElem? hx)
      have hk : k < n := by
        have := (List.getElem?_eq_some_iff.mp hx).1
        rw [upTo_len] at this
        exact this
      have hl := hd.1
      have hq : xs.length < 90000 := by omega
      by_cases hc : big = true ∧ 0 < r
      · have f := fm (i := r) (k := 5040) (by decide)
        simp only [Int.cast_ofNat_Int] at f
        have m : oMod (.int r) (.int 5040) = _ := oMod_int (by decide)
        have d : oDiv (.int r) (.int 5040) = _ := oDiv_int (by decide)
        refine ⟨_, [.fr (.int i), .fr (.int (n : Int)), .fr (.int (r.fdiv 5040)), .fr (.bl big), .fr (.int (i.natAbs : Int)), .ow ((xs ++ [r.fmod 5040]).map .int), .fr (.int (j : Int)), s7], rfl, ?_, _, _, _, _, rfl, hd.snoc (by omega) (by omega)⟩
        simp [hc.1, hc.2, m, d, hq]
      · have hc' : big = true → ¬ 0 < r := fun a b => hc ⟨a, b⟩
        have m0 : oMul (.int (i.natAbs : Int)) (.int 48271) = _ := oMul_int (mulOk_of (a := B) (b := 16) (by rw [Int.natAbs_natCast]; exact hi) (by decide) (by omega))
        have j1 : oMul (.int ((j : Int) + 1)) (.int 69621) = _ := oMul_int (mulOk_of (a := 16) (b := 17) (by omega) (by decide) (by decide))
        have j3 : oMul (.int 40692) (.int ((j : Int) + 3)) = _ := oMul_int (mulOk_of (a := 16) (b := 16) (by decide) (by omega) (by decide))
        generalize hz : (i.natAbs : Int) * 48271 + ((j : Int) + 1) * 69621 + 11 = z at *
        have m1 : oMod (.int z) (.int 2147483647) = _ := oMod_int (by decide)
        have f1 := fm (i := z) (k := 2147483647) (by decide)
        simp only [Int.cast_ofNat_Int] at f1
        have b1 : 0 ≤ z.fmod 2147483647 ∧ z.fmod 2147483647 < 2147483647 := by omega
        generalize z.fmod 2147483647 = y at *
        have m2 : oMul (.int y) (.int y) = _ := oMul_int (mulOk_of (a := 31) (b := 31) (by omega) (by omega) (by decide))
        generalize hu : y * y + 40692 * ((j : Int) + 3) = u at *
        have m3 : oMod (.int u) (.int 2147483399) = _ := oMod_int (by decide)
        generalize u.fmod 2147483399 = v at *
        have d : oDiv (.int v) (.int 64) = _ := oDiv_int (by decide)
        generalize v.fdiv 64 = t at *
        have m4 : oMod (.int t) (.int 5040) = _ := oMod_int (by decide)
        have f := fm (i := t) (k := 5040) (by decide)
        simp only [Int.cast_ofNat_Int] at f
        refine ⟨_, [.fr (.int i), .fr (.int (n : Int)), .fr (.int r), .fr (.bl big), .fr (.int (i.natAbs : Int)), .ow ((xs ++ [t.fmod 5040]).map .int), .fr (.int (j : Int)), .fr (.int v)], rfl, ?_, _, _, _, _, rfl, hd.snoc (by omega) (by omega)⟩
        cases big with
        | true => simp [hc' rfl, m0, j1, j3, hz, m1, m2, hu, m3, d, m4, hq]
        | false => simp [m0, j1, j3, hz, m1, m2, hu, m3, d, m4, hq])
  obtain ⟨env', k1, xs, r, s6, s7, rfl, hd⟩ := key
  rw [upTo_len] at hd
  have hsm : small (n : Int) = true := small_nat (by omega)
  refine ⟨xs, hd, ?_⟩
  subst hbig
  simp [f_u_law_draws, g_u_law_draws, pow_18, hsm, k1]
/-- a discount: at least zero, less than one, small -/
theorem discount_eq {x : Int} (h0 : 0 ≤ x) (h1 : x < 5040) : ∃ b : Rat, 0 ≤ b ∧ b < 1 ∧ Sz 4 b ∧ f_u_law_discount [.int x] = .ok (enc b) := by
  have m9 : oMod (.int x) (.int 9) = _ := oMod_int (by decide)
  have d9 : oDiv (.int x) (.int 9) = _ := oDiv_int (by decide)
  have f9 := fm (i := x) (k := 9) (by decide)
  simp only [Int.cast_ofNat_Int] at f9
  have b9 : 0 ≤ x.fmod 9 ∧ x.fmod 9 < 9 := by omega
  generalize x.fmod 9 = r at *
  generalize x.fdiv 9 = q at *
  obtain ⟨w, hw⟩ := nat_of (i := 2 + r) (by omega)
  have hw0 : 0 < w := by omega
  have mw : oMod (.int q) (.int (2 + r)) = some (.d (.int (q % (w : Int)))) := by rw [oMod_int (by omega), hw, fm hw0]
  have c0 := Int.emod_nonneg q (by omega : (w : Int) ≠ 0)
  have c1 := Int.emod_lt_of_pos q (by omega : 0 < (w : Int))
  generalize q % (w : Int) = n at *
  have hwz : (w : Int) ≠ 0 := by omega
  refine ⟨Rat.divInt n w, ?_, ?_, divInt_sz hwz (by omega) (by omega), ?_⟩
  · exact Rat.divInt_nonneg c0 (by omega)
  · have hp : (0 : Rat) < ((w : Int) : Rat) := by rw [show (0 : Rat) = ((0 : Int) : Rat) from rfl, Rat.intCast_lt_intCast]; omega
    rw [Rat.divInt_eq_div, Rat.div_lt_iff hp, Rat.one_mul, Rat.intCast_lt_intCast]
    exact c1
  · have lo := low_eq (n := n) hwz
    generalize Rat.divInt n w = b at *
    rw [← hw] at lo
    simp [f_u_law_discount, g_u_law_discount, m9, d9, mw, lo]
end Law

set_option Elab.async false
set_option linter.all false
set_option maxRecDepth 100000
set_option maxHeartbeats 4000000
/-! Exceptions of own classes: raise, try, the law's look at what it caught. -/
namespace Iv
open PySem PySem.Spec PyProof.Rows L2 Evl
/-! ### how often True stands in a list -/
def isT : Value → Bool
  | .bool b => b
  | _ => false
theorem bools_vals : ∀ {bs : List Bool} {us : List Value}, Vals (bs.map V.bl) us → us = bs.map Value.bool
  | [], _, .nil => rfl
  | b :: bs, _, .cons r t => by
    have r : _ = Value.bool b := r
    rw [r, bools_vals t]
    rfl
theorem isT_count : ∀ bs : List Bool, (bs.map Value.bool).countP isT = bs.count true
  | [] => rfl
  | b :: bs => by
    rw [List.map_cons, List.countP_cons, List.count_cons, isT_count bs]
    cases b <;> rfl
def rCntT (K : PySem.W.Frag) : V → List V → Hp → VK → Prop := fun x ys H Q => ∃ (p : Addr) (bs : List Bool), x = .ref p ∧ ys = [.bl true] ∧ SqL K H p (bs.map V.bl) ∧ Q (.int (bs.count true : Nat)) H
theorem mt_cntT {X : Cx} : MtR X "list.count" (rCntT X.K) := by
  intro pins s σ H x ys v us Q I rx rys ⟨p, bs, e1, e2, hq, q⟩
  subst e1 e2
  obtain rfl : v = Value.ref p := rx
  match us, rys with
  | [u], .cons ry .nil =>
    obtain rfl : u = Value.bool true := ry
    obtain ⟨its, rv, ⟨⟨c, dd, dt, sl⟩, n, ho, hc, _, hdt⟩, _⟩ := I.list hq
    dsimp only at hc hdt
    subst hc hdt
    have hv := bools_vals rv
    subst hv
    refine call_meets PySem.F.slot_list_count ⟨_, ho, rfl⟩ PySem.F.entry_list_count (PySem.F.args_list_count_2 _ _) (PySem.SeqAt.list_countAt p (bs.map Value.bool).toArray n dd sl (.bool true) isT) ⟨ho, fun y hy => ?_, ?_⟩
    · obtain ⟨b, _, rfl⟩ := List.mem_map.mp (show y ∈ bs.map Value.bool by simpa using hy)
      have z := PySem.SeqAt.EqAt.bool_bool (A := X.A.in1) (s := s) b true
      have e : (b == true) = isT (.bool b) := by cases b <;> rfl
      rw [e] at z
      exact z
    · have e : (bs.map Value.bool).toArray.toList.countP isT = bs.count true := isT_count bs
      rw [e]
      exact ⟨.int (bs.count true : Nat), H, I.tok _, ⟨_, rfl⟩, q⟩
/-- l.count(True) -/
def oCnt (l : List D) : D → Option Sv
  | .bl true => (bools l).map fun bs => .d (.int (bs.count true : Nat))
  | _ => none
def mCnt (f g : M D) : M Sv := fun env => (f env).bind fun x env => match x with
  | .lst l => (g env).bind fun y env => rdo (oCnt l y) env
  | _ => .bad
section
variable {X : Cx} {S : Xs} {W : WX} {o e : Expr} {es : List Expr} {pos apos p : Pos} {f g : M D}
theorem pd_cnt (ho : PP X S W o f) (ha : PP X S W e g) (hbase : attributeBase o "count" X.env (eval o X.env) = eval o X.env := by rfl)
    (hfew : ((backTo pos (starEach [e] X.env)).all (fun x => !x.1) && (backToKw pos (keywordEach [] X.env)).all (fun x => x.1.isSome)
      && decide ([e].length + ([] : List Keyword).length + (if ([] : List Keyword).isEmpty then 0 else 1) < 30)) = true := by rfl)
    (hline : (apos.endLine == pos.line) = true := by rfl) (hs : starEach [e] X.env = [(false, eval e X.env)] := by rfl) :
    PD X S W (.Call (.Attribute o "count" apos) [e] [] pos) (mCnt f g) :=
  PE.imp (pe_bm PySem.F.plainAttrs_list PySem.F.slot_list_count PySem.F.type_list_count mt_cntT ho (pa_cons ha pa_nil hs) hbase hfew hline hs rfl) fun σ H Q q => by
  obtain ⟨F, ef, q⟩ := rd_bind (T := TP X.K) q
  refine rd_imp q fun x H1 ⟨F1, env1, dx, g1, g2, rel1, rx, q⟩ => ?_
  have rx : RP X.K F1 H1 dx x := rx
  cases dx with
  | lst l =>
    have hx : ∃ p vs, x = .ref p ∧ H1 p = some (.lst vs) ∧ Rs X.K F1 l vs := by
      rcases rx with r | ⟨ds, p, vs, z, e2, e3, e4⟩ | ⟨ks, ds, p, vs, z, _⟩
      · simp only [R] at r
        obtain ⟨a, vs, e1, e2, e3⟩ := r
        exact ⟨a, vs, e1, rel1.ex a _ e2, e3⟩
      · cases z
        exact ⟨p, vs, e2, e3, e4⟩
      · cases z
    obtain ⟨p, vs, rfl, hp, rvs⟩ := hx
    refine ⟨.inl ⟨rfl, vs, sq_of hp⟩, ?_⟩
    have q := okG.bind (T := TP X.K) q
    refine ⟨F1, env1, rel1, q.imp fun y H2 ⟨F2, env2, dy, k1, k2, rel2, ry, q⟩ => ?_⟩
    dsimp only at q
    show rCntT X.K (.ref p) [y] H2 Q
    have hb : ∃ bs : List Bool, l = bs.map D.bl ∧ dy = .bl true ∧ okG X.K S W σ (TV X.K) F2 H2 env2 Q (.ok (.d (.int (bs.count true : Nat))) env2) := by
      cases dy with
      | bl b =>
        cases b with
        | true =>
          cases hbs : bools l with
          | none => rw [show oCnt l (.bl true) = none by unfold oCnt; rw [hbs]; rfl] at q; exact q.elim
          | some bs =>
            rw [show oCnt l (.bl true) = some (.d (.int (bs.count true : Nat))) by unfold oCnt; rw [hbs]; rfl] at q
            exact ⟨bs, bools_eq hbs, rfl, q⟩
        | false => exact q.elim
      | _ => exact q.elim
    obtain ⟨bs, rfl, rfl, q2⟩ := hb
    have ey : y = .bl true := (show RP X.K F2 H2 (.bl true) y from ry).bl
    subst ey
    have ev := Rs.bls rvs
    subst ev
    exact ⟨p, bs, rfl, rfl, sq_of (k2 p _ hp), q2 _ F2 H2 Gr.refl rel2 (RVd Ri)⟩
  | _ => exact q.elim
/-! ### isinstance of the exception that is held -/
theorem call_isP {a C : Addr} {oe : Obj} (T : ExcC X.K C) (hm : (a, oe) ∈ X.pn) (hz : Zc (.ref C) none oe) (hf : ∃ vs, oe.data = .fields vs) : CallR X (.builtin "isinstance") (rIsE X.K C a) := fun pins s σ H ys us Q I r ⟨c, cv, b, e0, hcv, hk, q⟩ => by
  subst e0
  match us, r with
  | [u, w], .cons r1 (.cons r2 .nil) =>
    obtain rfl : u = Value.ref a := r1
    obtain rfl : w = cv := hcv _ r2
    have get := (I.pin (a, oe) (List.mem_append_left _ hm)).1
    have J : PySem.W.InstAt s.heap a oe C none := by
      obtain ⟨vs, hv⟩ := hf
      obtain ⟨c1, d1, t1, sl1⟩ := oe
      obtain ⟨z1, z2⟩ := hz
      dsimp only at z1 z2 hv
      subst z1 z2 hv
      exact ⟨get, rfl, rfl, True.intro⟩
    exact PySem.W.kia_one (PySem.W.handS_kitx_exc T.hg T.hk T.hs T.hd T.ha T.hn T.ht T.hm) I.kIn J hk (fun z => nomatch z) fun tk => ⟨.bl b, H, I.kept (t' := tk) fun _ _ k => k, rfl, q⟩
/-- isinstance(e, C), e in slot i holds the exception at a -/
def mIsE (i : Nat) (a : Addr) (b : Bool) : M Sv := fun env => match env[i]? with
  | some (.xo a') => if a' = a then .ok (.d (.bl b)) env else .bad
  | _ => .bad
theorem rd_isE {i : Nat} {a C : Addr} {b : Bool} {v : V} {cv : Value} {σ : L2.St} {H : Hp} {Q : VK} (hcv : ∀ u, RelV v u → u = cv) (hk : PySem.W.kitOne X.K (.ref C) cv = some b) (q : rd X.K S W (TV X.K) (mIsE i a b) σ H Q) :
    tCB (rIsE X.K C a) (tCons (tVar i) (tCons (tC v) tNil)) σ H Q := by
  obtain ⟨F, env, rel, q⟩ := q
  unfold mIsE at q
  split at q
  · rename_i a' hi
    by_cases ha : a' = a
    · subst ha
      rw [if_pos rfl] at q
      obtain ⟨o, h1, h2⟩ := rel.at_ i _ hi
      obtain rfl : o = some (.ref a') := h2
      exact ⟨_, h1, v, cv, b, rfl, hcv, hk, q _ F H Gr.refl rel (RVd Rb)⟩
    · rw [if_neg ha] at q
      exact q.elim
  · exact q.elim
theorem pd_isE {i : Nat} {a C D : Addr} {oe : Obj} {b : Bool} {x y : Str} {p1 p2 : Pos} (T : ExcC X.K C) (hp : (a, oe) ∈ X.pn) (hz : Zc (.ref C) none oe) (hf : ∃ vs, oe.data = .fields vs) (B : Bl X.mg) (hD : X.mg y = some (.ref D)) (hk : PySem.W.kitOne X.K (.ref C) (.ref D) = some b)
    (hN : X.N[i]? = some x := by rfl) (hv : Vis X.env.scope x := by first | exact Or.inl rfl | exact Or.inr (Or.inl rfl) | exact Or.inr (Or.inr rfl)) (hd : (x == ("__debug__" : Str)) = false := by decide) (hcd : (x == ("__classdict__" : Str)) = false := by decide) (hg : Gl X "isinstance" := by rfl) (hg2 : Gl X y := by rfl) (hdy : (y == ("__debug__" : Str)) = false := by decide) :
    PD X S W (.Call (.Name "isinstance" p) [.Name x p1, .Name y p2] [] pos) (mIsE i a b) :=
  PE.imp (pe_callB (call_isP T hp hz hf) hg B.isinstance PyProof.Rows.boot_isinstance (pa_cons (pe_var hN hv hd hcd) (pa_cons (pe_glob (v := .ref D) hg2 hD rfl hdy) pa_nil))) fun σ H Q q => rd_isE (fun u r => r) hk q
theorem pd_isET {i : Nat} {a C : Addr} {oe : Obj} {b : Bool} {x y : Str} {T' : String} {p1 p2 : Pos} (T : ExcC X.K C) (hp : (a, oe) ∈ X.pn) (hz : Zc (.ref C) none oe) (hf : ∃ vs, oe.data = .fields vs) (B : Bl X.mg) (hD : X.mg y = none) (hb : bootBuiltins y = some (.type T')) (hk : PySem.W.kitOne X.K (.ref C) (.type T') = some b) (hy : y ≠ "__name__" := by decide)
    (hN : X.N[i]? = some x := by rfl) (hv : Vis X.env.scope x := by first | exact Or.inl rfl | exact Or.inr (Or.inl rfl) | exact Or.inr (Or.inr rfl)) (hd : (x == ("__debug__" : Str)) = false := by decide) (hcd : (x == ("__classdict__" : Str)) = false := by decide) (hg : Gl X "isinstance" := by rfl) (hg2 : Gl X y := by rfl) (hdy : (y == ("__debug__" : Str)) = false := by decide) :
    PD X S W (.Call (.Name "isinstance" p) [.Name x p1, .Name y p2] [] pos) (mIsE i a b) :=
  PE.imp (pe_callB (call_isP T hp hz hf) hg B.isinstance PyProof.Rows.boot_isinstance (pa_cons (pe_var hN hv hd hcd) (pa_cons (pe_bltn (v := .ty T') hg2 hD hb rfl hy hdy) pa_nil))) fun σ H Q q => rd_isE (fun u r => r) hk q
end
end Iv
namespace Iv
open PySem PySem.Spec PyProof.Rows L2 Evl L2H
/-! ### raise C('..') -/
/-- what the written part says of an own error class without __init__ -/
structure ExF (K : PySem.W.Frag) (mg : Str → Option Value) (x : Str) (C : Addr) : Prop where
  g : mg x = some (.ref C)
  q : PySem.W.excIn K C [.type "ValueError", .type "Exception", .type "BaseException", .type "object"] "ValueError.__new__" = true
  k : PySem.W.keepIn K (.ref C) = true
  b : PySem.W.subIn K (.ref C) (.type "BaseException") = some true
  t : PySem.W.typeIn K (.ref C) = some (.type "type")
  e : ExcC K C
  x : PySem.W.exmOne K (.ref C) (.ref C) = some true
theorem ds_raiseC {X : Cx} {S : Xs} {W : WX} {F0 H0 : Hp} {c : Nat} {C : Addr} {x m : Str} {j : Nat} {p p2 pos pos2 : Pos} (hc : X.calm = true) (tk : L2N.Takes X W) (T : ExF X.K X.mg x C) (hC : S.cls c = .ref C) (hg : Gl X x := by rfl) (hd : (x == ("__debug__" : Str)) = false := by decide) :
    DS X S W F0 H0 (.Raise (some (.Call (.Name x p) [.Constant (.str m) j p2] [] pos)) none pos2) (mRaise c) :=
  ds_raise (L2N.ps_raise hc tk (L2N.pmk_own PySem.F.excBase_ValueError T.q T.g T.k (raises_own T.b T.t) hg hd)) hC
/-! ### a def that looks at the exception that is held -/
structure FnP (P : Program) (w : World) (K : PySem.W.Frag) (mg : Str → Option Value) (base : Heap) (S : Xs) (k : Nat) (f : Addr) (fd : FuncData) (x : Str) (p : Addr × Obj) (d : D) : Prop where
  run : ∀ (A : Around) (outer : List PySem.Env) (s : Shared) (F H : Hp) (Q : VK), RoomH k A → PinOk outer H s p → Env0 P w K mg base A outer s H → BindsTo s fd ⟨[.ref p.1], []⟩ [(x, .ref p.1)] → Ex F H → (∀ v F' H', New F H F' H' → R K F' d v → Q v H') →
    codeAny (model P w) A (.call (.ref f) ⟨[.ref p.1], []⟩) (CR (L2N.CX P w) outer P w H s Q fun _ _ _ => False) s
theorem startP_rel {K : PySem.W.Frag} {F H : Hp} {a : Addr} {N : List Str} (e : Ex F H) (hn : 1 ≤ N.length) : Rel K F H (L2.start N [.ref a]) (.xo a :: List.replicate (N.length - 1) .un) where
  len := by unfold L2.start; simp
  ex := e
  at_ := fun i s h => by
    unfold L2.start
    cases i with
    | zero => cases h; exact ⟨some (.ref a), rfl, rfl⟩
    | succ i =>
      have h : (List.replicate (N.length - 1) Sl.un)[i]? = some s := h
      obtain ⟨h1, h2⟩ := List.getElem?_eq_some_iff.mp h
      rw [List.getElem_replicate] at h2
      subst h2
      rw [List.length_replicate] at h1
      refine ⟨none, ?_, True.intro⟩
      show (List.replicate (N.length - 1) (none : Option V))[i]? = some none
      exact List.getElem?_eq_some_iff.mpr ⟨by rw [List.length_replicate]; exact h1, List.getElem_replicate _⟩
  dis := fun i j s t b h1 _ o1 _ _ _ => by
    exfalso
    cases i with
    | zero => cases h1; cases o1
    | succ i =>
      have h : (List.replicate (N.length - 1) Sl.un)[i]? = some s := h1
      obtain ⟨q1, q2⟩ := List.getElem?_eq_some_iff.mp h
      rw [List.getElem_replicate] at q2
      subst q2
      cases o1
theorem startP_own {σ : L2.St} {a b : Addr} {n : Nat} : ¬ Owned σ (.xo a :: List.replicate n .un) b := fun ⟨i, s, h, o, _⟩ => by
  cases i with
  | zero => cases h; cases o
  | succ i =>
    have h : (List.replicate n Sl.un)[i]? = some s := h
    obtain ⟨q1, q2⟩ := List.getElem?_eq_some_iff.mp h
    rw [List.getElem_replicate] at q2
    subst q2
    cases o
theorem fnP_of {P : Program} {w : World} {K : PySem.W.Frag} {mg : Str → Option Value} {base : Heap} {S : Xs} {k : Nat} {x y : Str} {st : Stmt} {f : Addr} {fd : FuncData} {N : List Str} {p : Addr × Obj} {d : D} {g : M Fl} {env' : En} (Fn : Fun K x x st f fd) (Sc : FnScope N [y] (defScope st))
    (hb : ∀ (cdv : Value) (A : Around) (outer : List PySem.Env) (s : Shared) (H : Hp) (F0 : Hp), RoomH k (A.deeper (envOfC x (defScope st) s.heap.objs.size f cdv)) →
      DSs (cxH (L2N.CX P w) P w K mg base N x (defScope st) f cdv A outer s H (fun _ _ _ => False) p) S (fun _ _ _ _ => False) F0 H (defBody st) g)
    (hg : g (.xo p.1 :: List.replicate (N.length - 1) .un) = .ok (.rt d) env') : FnP P w K mg base S (k + 1) f fd y p d := by
  obtain ⟨_, _, _, _, _, _, cdv, _, _, e, lk, hcd⟩ := Fn.ex
  subst e
  refine ⟨fun A outer s F H Q hr hpin e0 bi ef hq => ?_⟩
  have kin : K.In s.heap := e0.mod.kin.keeps fun b o e => (e0.bs b o e).1
  have nolim : s.heap.NoLimit := e0.mod.nolimit.keeps fun b o e => (e0.bs b o e).1
  have hpar := Sc.par y List.mem_cons_self
  have kinds : ∀ z ∈ [(y, Value.ref p.1)], (defScope st).names.lookup z.1 = some .local ∨ ((defScope st).names.lookup z.1 = some .cell ∧ ((cellsFrom (s.heap.objs.size + 1) (defScope st).names []).lookup z.1).isSome = true) := fun z hz => by
    rw [List.mem_singleton.mp hz]
    rcases hpar with q | q
    · exact .inl q
    · exact .inr ⟨q, PySem.W.cellsFrom_some _ _ _ (.inl q)⟩
  have hn : 1 ≤ N.length := by
    have := congrArg List.length Sc.pre
    rw [List.length_take] at this
    have e1 : [y].length = 1 := rfl
    omega
  refine codeAny_call_function hr.depth (kin _ _ lk) rfl Sc.co Sc.gen rfl (PySem.W.codeRec_of kin hcd) (bi _ _ _ _ (wpAny_newFunctionEnv_cells Sc.kind kinds fun env1 he s1 z => ?_))
  subst he
  refine ⟨nolim.keeps z.toInCall.keep, codeAny_func ?_⟩
  have I : Inv (cxH (L2N.CX P w) P w K mg base N x (defScope st) f cdv A outer s H (fun _ _ _ => False) p) [] (L2.start N [.ref p.1]) H s1 := inv_startH (ps := [y]) (us := [.ref p.1]) (vs := [.ref p.1]) Sc hpin e0 rfl (.cons rfl .nil) z
  have fin : ∀ {σ' : L2.St} {H' : Hp} {v : V} {u : Value} {s' : Shared}, Inv (cxH (L2N.CX P w) P w K mg base N x (defScope st) f cdv A outer s H (fun _ _ _ => False) p) [] σ' H' s' → RelV v u → Q v H' → CE outer P w H s Q u s' :=
    fun {σ' H' v u s'} J r q => ⟨v, H', J.os, J.bare, J.base, J.hok, r, q⟩
  have go := (hb cdv A outer s H F (hr.deeper _)).run [] s1 (L2.start N [.ref p.1]) H { nx := fun _ H' => Q .non H', rt := Q } I ⟨F, _, ⟨Ex.refl _, Ex.refl _, fun _ _ h => h, fun b z => absurd z startP_own⟩, startP_rel ef hn, by
    rw [hg]
    exact fun v F' H' n r => hq v F' H' n r⟩
  refine wpAny_mono go (fun fl s' q => ?_) fun _ _ q => q
  match fl, q with
  | .ret u, ⟨v, σ', H', J, r, q⟩ => exact fin J r q
  | .next, ⟨σ', H', J, q⟩ => exact fin (v := V.non) (u := Value.none) J rfl q
  | .brk, ⟨_, _, _, q⟩ => exact q.elim
  | .cont, ⟨_, _, _, q⟩ => exact q.elim
end Iv
namespace Iv
open PySem PySem.Spec PyProof.Rows L2 Evl L2H
section
variable {X : Cx}
/-- f(e), f looks at the exception that e holds -/
theorem pe_callP {S : Xs} {i k : Nat} {f : Addr} {fd : FuncData} {x y n : Str} {p : Addr × Obj} {d : D} {q q1 pos : Pos} (Fn : FnP X.prog X.w X.K X.mg X.base S k f fd y p d) (hp : p ∈ X.pn) (hr : RoomH k X.A) (hm : X.mg x = some (.ref f)) (hk : PySem.W.keepIn X.K (.ref f) = true) (bi : Binds X.K fd [y] []) (hN : X.N[i]? = some n)
    (hv : Vis X.env.scope n) (hg : Gl X x) (hd : (n == ("__debug__" : Str)) = false := by decide) (hcd : (n == ("__classdict__" : Str)) = false := by decide) (hdb : (x == ("__debug__" : Str)) = false := by decide) :
    PE X (.Call (.Name x q) [.Name n q1] [] pos) (fun σ H Q => σ[i]? = some (some (.ref p.1)) ∧ ∃ F, Ex F H ∧ ∀ v F' H', New F H F' H' → R X.K F' d v → Q v H') := by
  refine ⟨fun pins s σ H Q I ⟨hs, F, ef, hq⟩ => ?_⟩
  have ha : PA X [.Name n q1] (tCons (tVar i) tNil) := pa_cons (pe_var hN hv hd hcd) pa_nil
  refine wpAny_Call_Name_kw (ld_glob I hg hm (PySem.W.callWith_K (h₀ := X.base) I.ok.mod.kin hk (thn (ha.run pos pins s σ H (fun vs H1 => vs = [.ref p.1] ∧ H1 = H) I ⟨_, hs, rfl, rfl⟩) fun us s1 hh => ?_) rfl rfl) hdb)
  obtain ⟨vs, H1, I1, r, e1, e2⟩ := hh
  subst e1 e2
  refine ⟨I1.kIn, ?_⟩
  match us, r with
  | [u], .cons ru .nil =>
    obtain rfl : u = Value.ref p.1 := ru
    obtain ⟨g1, g2, g3, g4, g5⟩ := I1.pin p (List.mem_append_left _ hp)
    have pin : PinOk X.stack H1 s1 p := ⟨g1, g2, fun m => (List.mem_cons.mp (I1.stkSub p.1 m)).elim g3 g4, g5⟩
    have b := bi s1 [.ref p.1] I1.kIn rfl
    refine wpAny_call (codeAny_mono (Fn.run X.A X.stack s1 F H1 Q hr pin I1.env0 b ef hq) fun r s' z => ?_)
    match r, z with
    | .error e, ⟨_, _, _, _, _, _, _, _, _, _, _, _, z⟩ => exact z.elim
    | .ok (.ret u), z => exact I1.after z
    | .ok .next, z => exact False.elim z
    | .ok .brk, z => exact False.elim z
    | .ok .cont, z => exact False.elim z
/-- try: body / except C as n: return look(n) -/
def mTryL (c0 i : Nat) (d : D) (g : M Fl) : M Fl := fun env => match g env with
  | .ex c x e => (match x with
    | none => if c = c0 ∧ i < e.length then .ok (.rt d) e else .bad
    | some _ => .bad)
  | r => r
theorem ds_tryL {S : Xs} {W : WX} {F0 H0 : Hp} {c0 i k : Nat} {C f : Addr} {fd : FuncData} {x y z n : Str} {d : D} {g : M Fl} {body : List Stmt} {np pos pos' q q1 p1 p2 : Pos} (hs : X.stack = X.env :: X.outer) (hf : X.env.frame = some X.env.locals) (hN : X.N.Nodup) (hi : X.N[i]? = some n) (hln : X.env.kindOf n = some .local)
    (T : ExF X.K X.mg z C) (hC : S.cls c0 = .ref C) (tk : L2N.Takes X W) (Fn : ∀ p : Addr × Obj, Zc (.ref C) none p.2 → (∃ vs, p.2.data = .fields vs) → FnP X.prog X.w X.K X.mg X.base S k f fd y p d) (hr : Room k X.A) (hm : X.mg x = some (.ref f)) (hk : PySem.W.keepIn X.K (.ref f) = true) (bi : Binds X.K fd [y] [])
    (hb : ∀ (W' : WX) (pn : List (Addr × Obj)) (xe : Value → Shared → Prop), L2N.Takes (X.tr pn xe) W' → PassesOwn (model X.prog X.w) X.A X.env xe → DSs (X.tr pn xe) S W' F0 H0 body g)
    (hv : Vis X.env.scope n) (hgx : Gl X x := by rfl) (hgz : Gl X z := by rfl) (hdz : (z == ("__debug__" : Str)) = false := by decide) (hd : (n == ("__debug__" : Str)) = false := by decide) (hcd : (n == ("__classdict__" : Str)) = false := by decide) (hdb : (x == ("__debug__" : Str)) = false := by decide) :
    DS X S W F0 H0 (.Try body [.ExceptHandler (some (.Name z np)) (some n) [.Return (some (.Call (.Name x q) [.Name n q1] [] p1)) p2] pos'] [] [] pos) (mTryL c0 i d g) := by
  refine PS.imp (L2N.ps_try_as (i := i) (c := .ref C) (tb := fun W' => rdS X.K S W' F0 H0 g) (ts := fun a cls dd D σ H => cls = .ref C ∧ dd = none ∧ σ[i]? = some (some (.ref a)) ∧ ∃ F, Ex F H ∧ ∀ v F' H', New F H F' H' → R X.K F' d v → D.rt v H') (Wout := W) hs hf hN hi hln ⟨hgz, hdz, .inl T.g⟩ tk hb (fun a oe cls dd pn hz hv' => ?_)) fun D σ H h => ?_
  · by_cases hcls : cls = .ref C ∧ dd = none
    · obtain ⟨rfl, rfl⟩ := hcls
      have P1 := pe_callP (X := X.suite a ((a, oe) :: pn)) (S := S) (i := i) (d := d) (q := q) (q1 := q1) (pos := p1) (Fn (a, oe) ⟨hz.1, hz.2.1⟩ hv') List.mem_cons_self ⟨hr.dp, hr.un⟩ hm hk bi hi hv hgx hd hcd hdb
      exact PSs.imp (pss_one (ps_ret P1)) fun D σ H h => ⟨h.2.2.1, h.2.2.2⟩
    · exact PSs.imp (pss_one ps_never) fun D σ H h => (hcls ⟨h.1, h.2.1⟩).elim
  · obtain ⟨F, env, b, rel, q⟩ := h
    refine ⟨F, env, b, rel, ?_⟩
    unfold mTryL at q
    cases hg : g env with
    | bad => rw [hg] at q; exact q.elim
    | ok r e =>
      rw [hg] at q
      cases r with
      | nx => exact q
      | rt d => exact q
      | bk => exact q
      | ct => exact q
    | ex c x e =>
      rw [hg] at q
      cases x with
      | some _ => exact q.elim
      | none =>
        dsimp only at q
        by_cases hc : c = c0 ∧ i < e.length
        · rw [if_pos hc] at q
          obtain ⟨rfl, hl⟩ := hc
          have q : ∀ v F H, New F0 H0 F H → R X.K F d v → D.rt v H := q
          intro a' σ' F' H' ex' b' rel' hx
          have hx : a' = none := hx
          subst hx
          rw [hC]
          refine ⟨true, T.x, fun _ a ha => ⟨rfl, rfl, List.getElem?_set_self (by rw [← rel'.len]; exact hl), F', rel'.ex, fun v F2 H2 n2 r => q v F2 H2 ⟨b'.f.trans n2.f, b'.h.trans n2.h, n2.fh, fun a h1 h2 => n2.keep a (Ex.some b'.h h1) (b'.keep a h1 h2)⟩ r⟩, fun z => Bool.noConfusion z⟩
        · rw [if_neg hc] at q
          exact q.elim
end
end Iv
namespace Iv
open PySem PySem.Spec PyProof.Rows L2 Evl L2H
/-- a def that tells d of every exception of the class at C -/
structure Lone (P : Program) (w : World) (K : PySem.W.Frag) (mg : Str → Option Value) (base : Heap) (S : Xs) (k : Nat) (C : Addr) (x y : Str) (d : D) : Prop where
  ex : ∃ f fd, mg x = some (.ref f) ∧ PySem.W.keepIn K (.ref f) = true ∧ Binds K fd [y] [] ∧ ∀ p : Addr × Obj, Zc (.ref C) none p.2 → (∃ vs, p.2.data = .fields vs) → FnP P w K mg base S k f fd y p d
theorem ds_try1 {X : Cx} {S : Xs} {W : WX} {F0 H0 : Hp} {c0 i k : Nat} {C : Addr} {x y z n : Str} {d : D} {g : M Fl} {body : List Stmt} {np pos pos' q q1 p1 p2 : Pos} (hs : X.stack = X.env :: X.outer) (hf : X.env.frame = some X.env.locals) (hN : X.N.Nodup) (hi : X.N[i]? = some n) (hln : X.env.kindOf n = some .local)
    (T : ExF X.K X.mg z C) (hC : S.cls c0 = .ref C) (tk : L2N.Takes X W) (L : Lone X.prog X.w X.K X.mg X.base S k C x y d) (hr : Room k X.A)
    (hb : ∀ (W' : WX) (pn : List (Addr × Obj)) (xe : Value → Shared → Prop), L2N.Takes (X.tr pn xe) W' → PassesOwn (model X.prog X.w) X.A X.env xe → DSs (X.tr pn xe) S W' F0 H0 body g)
    (hv : Vis X.env.scope n) (hgx : Gl X x := by rfl) (hgz : Gl X z := by rfl) (hdz : (z == ("__debug__" : Str)) = false := by decide) (hd : (n == ("__debug__" : Str)) = false := by decide) (hcd : (n == ("__classdict__" : Str)) = false := by decide) (hdb : (x == ("__debug__" : Str)) = false := by decide) :
    DS X S W F0 H0 (.Try body [.ExceptHandler (some (.Name z np)) (some n) [.Return (some (.Call (.Name x q) [.Name n q1] [] p1)) p2] pos'] [] [] pos) (mTryL c0 i d g) := by
  obtain ⟨f, fd, hm, hk, bi, Fn⟩ := L.ex
  exact ds_tryL hs hf hN hi hln T hC tk Fn hr hm hk bi hb hv hgx hgz hdz hd hcd hdb
@[simp] theorem mTryL_eq {c0 i : Nat} {d : D} {g : M Fl} {env : En} : mTryL c0 i d g env = (match g env with
  | .ex c x e => (match x with
    | none => if c = c0 ∧ i < e.length then .ok (.rt d) e else .bad
    | some _ => .bad)
  | r => r) := rfl
end Iv
namespace Iv
open PySem PySem.Spec PyProof.Rows L2 Evl L2H
theorem kit_ref {K : PySem.W.Frag} {C J : Addr} {b : Bool} (hs : PySem.W.subIn K (.ref C) (.ref C) = some true) (h1 : PySem.W.isClsIn K J = true) (h2 : PySem.W.typeIn K (.ref J) = some (.type "type")) (h3 : PySem.W.subIn K (.ref C) (.ref J) = some b) : PySem.W.kitOne K (.ref C) (.ref J) = some b := by
  unfold PySem.W.kitOne
  by_cases e : C = J
  · subst e
    rw [if_pos (beq_self_eq_true _), ← h3, hs]
  · have n : ¬ (Value.ref C == Value.ref J) = true := fun z => e (Value.ref.inj (beq_iff_eq.mp z))
    rw [if_neg n]
    show (if ((PySem.W.clsIn K J).isSome && PySem.W.typeIn K (.ref J) == some (.type "type")) = true then PySem.W.subIn K (.ref C) (.ref J) else none) = some b
    have h1 : (PySem.W.clsIn K J).isSome = true := h1
    rw [h1, h2, if_pos (by rfl)]
    exact h3
theorem kit_val {K : PySem.W.Frag} {C : Addr} {b : Bool} (h3 : PySem.W.subIn K (.ref C) (.type "ValueError") = some b) : PySem.W.kitOne K (.ref C) (.type "ValueError") = some b := by
  unfold PySem.W.kitOne
  have n : ¬ (Value.ref C == Value.type "ValueError") = true := fun z => nomatch beq_iff_eq.mp z
  rw [if_neg n]
  show (if PySem.W.kitMeta "ValueError" = true then PySem.W.subIn K (.ref C) (.type "ValueError") else none) = some b
  rw [if_pos (by decide +kernel)]
  exact h3
end Iv

set_option Elab.async false
set_option linter.all false
set_option maxRecDepth 100000
set_option maxHeartbeats 4000000
/-! Dicts of ints and texts. -/
namespace Iv
open PySem PySem.Spec PyProof.Rows L2 Evl
theorem Owned.atK {K : PySem.W.Frag} {F H F1 H1 : Hp} {σ : L2.St} {env env1 : En} {i : Nat} {ks : List Key} {l : List D} (rel1 : Rel K F1 H1 σ env1) (rel : Rel K F H σ env) (g : Gr σ env F H env1 F1 H1) (h : env1[i]? = some (.od ks l)) :
    ∃ p vs, σ[i]? = some (some (.ref p)) ∧ F1 p = none ∧ H p = some (.dK (ks.zip vs)) ∧ H1 p = some (.dK (ks.zip vs)) ∧ vs.length = ks.length ∧ Rs K F1 l vs := by
  obtain ⟨o, q1, p, vs, q2, n, q3, ql, r⟩ := rel1.at_ i _ h
  subst q2
  have ow := rel.owned (g.own p ⟨i, _, h, rfl, q1⟩)
  refine ⟨p, vs, q1, n, ?_, q3, ql, r⟩
  cases z : H p with
  | none => exact absurd z ow.2
  | some o =>
    have := g.h p o z
    rw [q3] at this
    cases this
    rfl
/-- an own list changes -/
theorem Rel.putK {K : PySem.W.Frag} {F H : Hp} {σ : L2.St} {env : En} {i : Nat} {ks ks' : List Key} {l l' : List D} {vs' : List V} {p : Addr} (rel : Rel K F H σ env) (h : env[i]? = some (.od ks l)) (hs : σ[i]? = some (some (.ref p))) (n : F p = none) (hl : vs'.length = ks'.length) (r : Rs K F l' vs') :
    Rel K F (upd H p (.dK (ks'.zip vs'))) σ (env.set i (.od ks' l')) ∧ ∀ a, Owned σ (env.set i (.od ks' l')) a → Owned σ env a := by
  have hi : i < env.length := (List.getElem?_eq_some_iff.mp h).1
  have back : ∀ {j : Nat} {t : Sl}, (env.set i (.od ks' l'))[j]? = some t → t.own = true → ∃ t', env[j]? = some t' ∧ t'.own = true ∧ (j ≠ i → t' = t) := fun {j t} e o => by
    by_cases hj : i = j
    · subst hj; exact ⟨_, h, rfl, fun z => absurd rfl z⟩
    · rw [List.getElem?_set_ne hj] at e; exact ⟨t, e, o, fun _ => rfl⟩
  refine ⟨⟨by rw [List.length_set]; exact rel.len, fun a u q => ?_, fun j t e => ?_, fun a b s t c e1 e2 o1 o2 v1 v2 => ?_⟩, fun a ⟨j, t, e, o, v⟩ => ?_⟩
  · rw [upd_ne (fun z => by rw [z, n] at q; cases q)]; exact rel.ex a u q
  · by_cases hj : i = j
    · subst hj
      rw [List.getElem?_set_self hi] at e
      cases e
      exact ⟨_, hs, p, vs', rfl, n, upd_same, hl, r⟩
    · rw [List.getElem?_set_ne hj] at e
      obtain ⟨o, q1, q2⟩ := rel.at_ j t e
      refine ⟨o, q1, ?_⟩
      have ne : ∀ a, t.own = true → o = some (.ref a) → a ≠ p := fun a ho hv z => by
        subst z
        exact hj (rel.dis i j _ t a h e rfl ho hs (by rw [q1, hv]))
      cases t with
      | un => trivial
      | xo a => exact q2
      | fr d => exact q2
      | ow l0 => obtain ⟨p', ws, z1, z2, z3, z4⟩ := q2; exact ⟨p', ws, z1, z2, by rw [upd_ne (ne p' rfl z1)]; exact z3, z4⟩
      | od ks ds => obtain ⟨p', ws, z1, z2, z3, z4⟩ := q2; exact ⟨p', ws, z1, z2, by rw [upd_ne (ne p' rfl z1)]; exact z3, z4⟩
  · obtain ⟨s', e1', o1', _⟩ := back e1 o1
    obtain ⟨t', e2', o2', _⟩ := back e2 o2
    exact rel.dis a b s' t' c e1' e2' o1' o2' v1 v2
  · obtain ⟨t', e', o', _⟩ := back e o
    exact ⟨j, t', e', o', v⟩
/-- a key -/
def keyD : D → Option Key
  | .int i => some (.inl i)
  | .str s => some (.inr s)
  | _ => none
def lookD : List Key → List D → Key → Option D
  | k' :: ks, d :: ds, k => if k' = k then some d else lookD ks ds k
  | _, _, _ => none
def setD (k : Key) (d : D) : List Key → List D → List D
  | k' :: ks, x :: ds => (if k' = k then d else x) :: setD k d ks ds
  | _, _ => []
def setV (k : Key) (v : V) : List Key → List V → List V
  | k' :: ks, x :: vs => (if k' = k then v else x) :: setV k v ks vs
  | _, _ => []
theorem key_v {K : PySem.W.Frag} {F H : Hp} {d : D} {k : Key} {y : V} (h : keyD d = some k) (r : RP K F H d y) : y = kV k := by
  cases d <;> first | (cases h; done) | skip
  · cases h; rw [r.int]; rfl
  · cases h; rw [r.str]; rfl
theorem look_rel {K : PySem.W.Frag} {F : Hp} {k : Key} : ∀ {ks : List Key} {ds : List D} {vs : List V}, vs.length = ks.length → Rs K F ds vs → (lookD ks ds k = none ∧ valV (ks.zip vs) k = none) ∨ ∃ d v, lookD ks ds k = some d ∧ valV (ks.zip vs) k = some v ∧ R K F d v
  | [], ds, vs, hl, r => by
    obtain rfl : vs = [] := List.length_eq_zero_iff.mp hl
    exact .inl ⟨by cases ds <;> rfl, rfl⟩
  | k' :: ks, [], vs, hl, r => by
    simp only [Rs] at r
    subst r
    cases hl
  | k' :: ks, d :: ds, vs, hl, r => by
    simp only [Rs] at r
    obtain ⟨v, vs', rfl, rv, r⟩ := r
    have ih := look_rel (k := k) (ks := ks) (by simpa using hl) r
    by_cases h : k' = k
    · refine .inr ⟨d, v, ?_, ?_, rv⟩
      · unfold lookD; rw [if_pos h]
      · show valV ((k', v) :: ks.zip vs') k = _
        exact valV_pos h
    · have e1 : lookD (k' :: ks) (d :: ds) k = lookD ks ds k := by
        conv => lhs; unfold lookD
        rw [if_neg h]
      have e2 : valV ((k' :: ks).zip (v :: vs')) k = valV (ks.zip vs') k := by
        show valV ((k', v) :: ks.zip vs') k = _
        simp [valV, List.find?_cons, h]
      rw [e1, e2]
      exact ih
theorem setV_zip {k : Key} {v : V} : ∀ {ks : List Key} {vs : List V}, vs.length = ks.length → (ks.zip vs).map (fun kv => if kv.1 = k then (kv.1, v) else kv) = ks.zip (setV k v ks vs) ∧ (setV k v ks vs).length = ks.length
  | [], vs, hl => by
    obtain rfl : vs = [] := List.length_eq_zero_iff.mp hl
    exact ⟨rfl, rfl⟩
  | k' :: ks, [], hl => by cases hl
  | k' :: ks, x :: vs, hl => by
    obtain ⟨h1, h2⟩ := setV_zip (k := k) (v := v) (ks := ks) (vs := vs) (by simpa using hl)
    refine ⟨?_, by unfold setV; rw [List.length_cons, List.length_cons, h2]⟩
    rw [List.zip_cons_cons, List.map_cons, h1]
    conv => rhs; unfold setV
    rw [List.zip_cons_cons]
    by_cases h : k' = k
    · rw [if_pos h, if_pos h]
    · rw [if_neg h, if_neg h]
theorem setD_rel {K : PySem.W.Frag} {F : Hp} {k : Key} {d : D} {v : V} (rv : R K F d v) : ∀ {ks : List Key} {ds : List D} {vs : List V}, vs.length = ks.length → Rs K F ds vs → Rs K F (setD k d ks ds) (setV k v ks vs)
  | [], ds, vs, hl, r => by
    obtain rfl : vs = [] := List.length_eq_zero_iff.mp hl
    cases ds <;> exact Rs.nil
  | k' :: ks, [], vs, hl, r => by
    simp only [Rs] at r
    subst r
    cases hl
  | k' :: ks, x :: ds, vs, hl, r => by
    simp only [Rs] at r
    obtain ⟨w, vs', rfl, rw', r⟩ := r
    have ih := setD_rel rv (k := k) (ks := ks) (by simpa using hl) r
    unfold setD setV
    by_cases h : k' = k
    · rw [if_pos h, if_pos h]; exact Rs.cons rv ih
    · rw [if_neg h, if_neg h]; exact Rs.cons rw' ih
/-- the dict that slot i owns -/
def odAt (env : En) (i : Nat) : Option (List Key × List D) := match env[i]? with
  | some (.od ks ds) => some (ks, ds)
  | _ => none
theorem odAt_eq {env : En} {i : Nat} {ks : List Key} {ds : List D} (h : odAt env i = some (ks, ds)) : env[i]? = some (.od ks ds) := by
  unfold odAt at h
  split at h
  · rename_i e
    cases h
    exact e
  · cases h
section
variable {X : Cx} {S : Xs} {W : WX} {F0 H0 : Hp} {o e e2 : Expr} {pos pos' apos : Pos} {f g h : M D}
/-- {} -/
def mDn : M Sv := fun env => .ok (.k [] []) env
theorem pd_dn : PD X S W (.Dict [] [] pos) mDn := PE.imp pe_dnewK fun σ H Q ⟨F, env, rel, q⟩ p hp => by
  have n := New.fresh (o := .dK []) rel.ex hp
  exact q _ _ _ (n.gr rel).1 (n.gr rel).2 ⟨p, [], rfl, hp, fresh_back rel.ex hp, upd_same, rfl, Rs.nil⟩
/-- d[k] = v -/
def mPutK (i : Nat) (ix f : M D) : M Fl := fun env => (f env).bind fun d env => match odAt env i with
  | some _ => (ix env).bind fun k env => match odAt env i, keyD k with
    | some (ks, ds), some k => if ks.length < 90000 then (if (ks.any fun k' => decide (k' = k)) = true then .ok .nx (env.set i (.od ks (setD k d ks ds))) else .ok .nx (env.set i (.od (ks ++ [k]) (ds ++ [d])))) else .bad
    | _, _ => .bad
  | none => .bad
theorem any_mem {k : Key} : ∀ {ks : List Key} {vs : List V}, vs.length = ks.length → ((ks.zip vs).any (fun kv => decide (kv.1 = k)) = true ↔ (ks.any fun k' => decide (k' = k)) = true)
  | [], vs, hl => by simp
  | k' :: ks, [], hl => by cases hl
  | k' :: ks, x :: vs, hl => by
    have ih := any_mem (k := k) (ks := ks) (vs := vs) (by simpa using hl)
    rw [List.zip_cons_cons, List.any_cons, List.any_cons, Bool.or_eq_true, Bool.or_eq_true, ih]
theorem ds_putK {i : Nat} {ix f : M D} {st : Stmt} (hp : PS X st (sDPut (tVar i) (rd X.K S W (TP X.K) ix) (rd X.K S W (TF X.K) f))) : DS X S W F0 H0 st (mPutK i ix f) :=
  PS.imp hp fun D σ H ⟨F, env, b, rel, q⟩ => by
  refine ⟨F, env, rel, okS.ex_bind b q fun d env1 v F1 H1 hr g1 b1 rel1 rv q => ?_⟩
  have rv : R X.K F1 d v := rv
  cases h0 : odAt env1 i with
  | none => rw [h0] at q; exact q.elim
  | some l0 =>
    obtain ⟨ks0, ds0⟩ := l0
    rw [h0] at q
    obtain ⟨p, vs, e1, n1, h1, h2, _, r1⟩ := Owned.atK rel1 rel1 Gr.refl (odAt_eq h0)
    refine ⟨.ref p, e1, F1, env1, rel1, okS.ex_bind b1 q fun k env2 u F2 H2 hr2 g2 b2 rel2 ru q => ?_⟩
    have ru : RP X.K F2 H2 k u := ru
    cases h3 : odAt env2 i with
    | none => rw [h3] at q; exact q.elim
    | some l =>
      obtain ⟨ks, ds⟩ := l
      rw [h3] at q
      obtain ⟨p', vs', k1, k2, k3, k4, kl, k5⟩ := Owned.atK rel2 rel1 g2 (odAt_eq h3)
      rw [e1] at k1
      cases k1
      cases hk : keyD k with
      | none => rw [hk] at q; exact q.elim
      | some key =>
        rw [hk] at q
        dsimp only at q
        have hu := key_v hk ru
        subst hu
        have hzl : (ks.zip vs').length = ks.length := by rw [List.length_zip, kl, Nat.min_self]
        by_cases hlen : ks.length < 90000
        · rw [if_pos hlen] at q
          have put := DPut.k (k := key) (v := v) k4 (sz_lt (by omega))
          have dir := any_mem (k := key) kl
          by_cases hm : (ks.any fun k' => decide (k' = key)) = true
          · rw [if_pos hm] at q
            obtain ⟨z1, z2⟩ := setV_zip (k := key) (v := v) kl
            have ep : putK (ks.zip vs') key v = ks.zip (setV key v ks vs') := by
              unfold putK
              rw [if_pos (dir.mpr hm)]
              exact z1
            rw [ep] at put
            have hp := rel2.putK (odAt_eq h3) e1 k2 z2 (setD_rel (rv.mono g2.f) kl k5)
            exact ⟨p, _, rfl, put, q σ F2 _ (Ex.refl _) (b2.put ⟨i, _, odAt_eq h3, rfl, e1⟩ hp.2) hp.1⟩
          · rw [if_neg hm] at q
            have ep : putK (ks.zip vs') key v = (ks ++ [key]).zip (vs' ++ [v]) := by
              unfold putK
              rw [if_neg (fun z => hm (dir.mp z)), List.zip_append kl.symm]
              rfl
            rw [ep] at put
            have hp := rel2.putK (ks' := ks ++ [key]) (odAt_eq h3) e1 k2 (by simp [kl]) (k5.append (Rs.cons (rv.mono g2.f) Rs.nil))
            exact ⟨p, _, rfl, put, q σ F2 _ (Ex.refl _) (b2.put ⟨i, _, odAt_eq h3, rfl, e1⟩ hp.2) hp.1⟩
        · rw [if_neg hlen] at q
          exact q.elim
end
end Iv
namespace Iv
open PySem PySem.Spec PyProof.Rows L2 Evl
section
variable {K : PySem.W.Frag} {F H : Hp} {x y : V}
/-- d[k] -/
def rGetK : R2 := fun x y H Q => ∃ a v, x = .ref a ∧ DGet H a y (some v) ∧ Q v H
def oGetK : D → D → Option Sv
  | .dct ks ds, k => match keyD k with
    | some k => (lookD ks ds k).map Sv.d
    | none => none
  | _, _ => none
theorem os_getK : OpS K rGetK oGetK := fun F H x y dx dy sv ef rx ry ho Q q => by
  cases dx <;> first | (cases ho; done) | skip
  rename_i ks ds
  obtain ⟨p, vs, e1, e2, e3, e4⟩ := RP.dct ef rx
  subst e1
  unfold oGetK at ho
  dsimp only at ho
  cases hk : keyD dy with
  | none => rw [hk] at ho; cases ho
  | some k =>
    rw [hk] at ho
    have hy := key_v hk ry
    subst hy
    rcases look_rel (k := k) e3 e4 with ⟨z, _⟩ | ⟨d, v, z1, z2, z3⟩
    · dsimp only at ho; rw [z] at ho; cases ho
    · dsimp only at ho
      rw [z1] at ho
      cases ho
      refine ⟨p, v, rfl, ?_, q v F H (New.refl ef) z3⟩
      rw [← z2]
      exact DGet.k e2
/-- k in d -/
def rInK (neg : Bool) : R2 := fun y x H Q => ∃ a o, x = .ref a ∧ DGet H a y o ∧ Q (.bl (if neg then !o.isSome else o.isSome)) H
def oInK (neg : Bool) : D → D → Option Sv
  | k, .dct ks ds => match keyD k with
    | some k => some (.d (.bl (if neg then !(lookD ks ds k).isSome else (lookD ks ds k).isSome)))
    | none => none
  | _, _ => none
theorem os_inK {neg : Bool} : OpS K (rInK neg) (oInK neg) := fun F H x y dx dy sv ef rx ry ho Q q => by
  cases dy with
  | dct ks ds =>
    obtain ⟨p, vs, e1, e2, e3, e4⟩ := RP.dct ef ry
    subst e1
    unfold oInK at ho
    dsimp only at ho
    cases hk : keyD dx with
    | none => rw [hk] at ho; cases ho
    | some k =>
      rw [hk] at ho
      have hy := key_v hk rx
      subst hy
      dsimp only at ho
      have e : (lookD ks ds k).isSome = (valV (ks.zip vs) k).isSome := by
        rcases look_rel (k := k) e3 e4 with ⟨z, z'⟩ | ⟨d, v, z1, z2, z3⟩
        · rw [z, z']
          rfl
        · rw [z1, z2]
          rfl
      cases ho
      refine ⟨p, _, rfl, DGet.k e2, ?_⟩
      rw [← e]
      exact q _ F H (New.refl ef) (RVd Rb)
  | _ => exact False.elim (by unfold oInK at ho; cases ho)
/-- data that may be compared -/
def pyD : D → Option PyData
  | .non => some .none
  | .bl b => some (.bool b)
  | .int i => some (.int i)
  | .str s => some (.str s)
  | .tup l => (pyDs l).map .tuple
  | .lst l => (pyDs l).map .list
  | _ => none
where pyDs : List D → Option (List PyData)
  | [] => some []
  | d :: l => match pyD d, pyDs l with
    | some p, some ps => some (p :: ps)
    | _, _ => none
mutual
theorem py_rel : ∀ {d : D} {v : V} {p : PyData}, Ex F H → R K F d v → pyD d = some p → Dp K H v p
  | .non, v, p, ef, r, h => by
    simp only [R] at r
    unfold pyD at h
    cases h
    subst r
    exact .non
  | .bl b, v, p, ef, r, h => by
    simp only [R] at r
    unfold pyD at h
    cases h
    subst r
    exact .bl b
  | .int b, v, p, ef, r, h => by
    simp only [R] at r
    unfold pyD at h
    cases h
    subst r
    exact .int b
  | .str b, v, p, ef, r, h => by
    simp only [R] at r
    unfold pyD at h
    cases h
    subst r
    exact .str b
  | .tup l, v, p, ef, r, h => by
    simp only [R] at r
    unfold pyD at h
    obtain ⟨ps, h1, rfl⟩ := Option.map_eq_some_iff.mp h
    obtain ⟨a, vs, rfl, e2, e3⟩ := r
    exact .tup (st_of (ef a _ e2)) (pys_rel ef e3 h1)
  | .lst l, v, p, ef, r, h => by
    simp only [R] at r
    unfold pyD at h
    obtain ⟨ps, h1, rfl⟩ := Option.map_eq_some_iff.mp h
    obtain ⟨a, vs, rfl, e2, e3⟩ := r
    exact .lst (sq_of (ef a _ e2)) (pys_rel ef e3 h1)
  | .ty _, _, _, _, _, h => by unfold pyD at h; cases h
  | .scr _, _, _, _, _, h => by unfold pyD at h; cases h
  | .dct _ _, _, _, _, _, h => by unfold pyD at h; cases h
theorem pys_rel : ∀ {l : List D} {vs : List V} {ps : List PyData}, Ex F H → Rs K F l vs → pyD.pyDs l = some ps → DpAll K H vs ps
  | [], vs, ps, ef, r, h => by
    simp only [Rs] at r
    unfold pyD.pyDs at h
    cases h
    subst r
    exact .nil
  | d :: l, vs, ps, ef, r, h => by
    simp only [Rs] at r
    obtain ⟨v, vs', rfl, r1, r2⟩ := r
    unfold pyD.pyDs at h
    cases h1 : pyD d with
    | none => rw [h1] at h; cases h
    | some p =>
      cases h2 : pyD.pyDs l with
      | none => rw [h1, h2] at h; cases h
      | some ps' =>
        rw [h1, h2] at h
        cases h
        exact .cons (py_rel ef r1 h1) (pys_rel ef r2 h2)
end
/-- a == b, a != b over data of any depth -/
def oEqP (neg : Bool) (a b : D) : Option Sv := match pyD a, pyD b with
  | some p, some q => if SeqAt.shaped p = true ∧ SeqAt.shaped q = true then some (.d (.bl (if neg then !PyData.eqv p q else PyData.eqv p q))) else none
  | _, _ => none
theorem py_peek {d : D} {v : V} {p : PyData} (ef : Ex F H) (r : RP K F H d v) (h : pyD d = some p) : Dp K H v p := by
  have r2 := r.at_ ef
  exact py_rel (Ex.refl H) r2 h
theorem os_eqP : OpS K (rEqD K) (oEqP false) := fun F H x y dx dy sv ef rx ry ho Q q => by
  unfold oEqP at ho
  cases h1 : pyD dx with
  | none => rw [h1] at ho; cases ho
  | some a =>
    cases h2 : pyD dy with
    | none => rw [h1, h2] at ho; cases ho
    | some b =>
      rw [h1, h2] at ho
      dsimp only at ho
      split at ho
      · rename_i s
        cases ho
        exact ⟨a, b, py_peek ef rx h1, py_peek ef ry h2, s.1, s.2, q _ F H (New.refl ef) (RVd Rb)⟩
      · cases ho
theorem os_neP : OpS K (rNeD K) (oEqP true) := fun F H x y dx dy sv ef rx ry ho Q q => by
  unfold oEqP at ho
  cases h1 : pyD dx with
  | none => rw [h1] at ho; cases ho
  | some a =>
    cases h2 : pyD dy with
    | none => rw [h1, h2] at ho; cases ho
    | some b =>
      rw [h1, h2] at ho
      dsimp only at ho
      split at ho
      · rename_i s
        cases ho
        exact ⟨a, b, py_peek ef rx h1, py_peek ef ry h2, s.1, s.2, q _ F H (New.refl ef) (RVd Rb)⟩
      · cases ho
/-- x in xs, flat items -/
def flD : D → Bool
  | .non => true
  | .bl _ => true
  | .int _ => true
  | .str _ => true
  | _ => false
def flV : D → Option V
  | .non => some .non
  | .bl b => some (.bl b)
  | .int i => some (.int i)
  | .str s => some (.str s)
  | _ => none
def flVs : List D → Option (List V)
  | [] => some []
  | d :: l => match flV d, flVs l with
    | some v, some vs => some (v :: vs)
    | _, _ => none
theorem fl_rel {d : D} {v w : V} (r : R K F d v) (h : flV d = some w) : v = w ∧ flatV v = true := by
  cases d <;> first
    | (cases h; done)
    | (cases h; simp only [R] at r; subst r; exact ⟨rfl, rfl⟩)
theorem fls_rel : ∀ {l : List D} {vs ws : List V}, Rs K F l vs → flVs l = some ws → vs = ws ∧ vs.all flatV = true
  | [], vs, ws, r, h => by
    simp only [Rs] at r
    cases h
    exact ⟨r, by rw [r]; rfl⟩
  | d :: l, vs, ws, r, h => by
    simp only [Rs] at r
    obtain ⟨v, vs', rfl, r1, r2⟩ := r
    unfold flVs at h
    cases h1 : flV d with
    | none => rw [h1] at h; cases h
    | some w =>
      cases h2 : flVs l with
      | none => rw [h1, h2] at h; cases h
      | some ws' =>
        rw [h1, h2] at h
        cases h
        obtain ⟨e1, f1⟩ := fl_rel r1 h1
        obtain ⟨e2, f2⟩ := fls_rel r2 h2
        subst e1 e2
        exact ⟨rfl, by rw [List.all_cons, f1, f2]; rfl⟩
def oInL (neg : Bool) : D → D → Option Sv
  | x, .lst l => match flV x, flVs l with
    | some v, some vs => some (.d (.bl (if neg then !inV v vs else inV v vs)))
    | _, _ => none
  | x, .tup l => match flV x, flVs l with
    | some v, some vs => some (.d (.bl (if neg then !inV v vs else inV v vs)))
    | _, _ => none
  | _, _ => none
theorem fl_peek {d : D} {v w : V} (r : RP K F H d v) (h : flV d = some w) : v = w ∧ flatV v = true := by
  rcases r with r | ⟨_, _, _, z, _⟩ | ⟨_, _, _, _, z, _⟩
  · exact fl_rel r h
  · subst z; cases h
  · subst z; cases h
theorem os_inL {neg : Bool} : OpS K (rIn K neg) (oInL neg) := fun F H x y dx dy sv ef rx ry ho Q q => by
  have go : ∀ {l : List D} {p : Addr} {vs : List V}, y = .ref p → (SqL K H p vs ∨ SqT K H p vs) → Rs K F l vs → (match flV dx, flVs l with
      | some v, some vs => some (Sv.d (.bl (if neg then !inV v vs else inV v vs)))
      | _, _ => none) = some sv → rIn K neg x y H Q := fun {l p vs} e1 e2 e3 ho => by
    subst e1
    cases h1 : flV dx with
    | none => rw [h1] at ho; cases ho
    | some v =>
      cases h2 : flVs l with
      | none => rw [h1, h2] at ho; cases ho
      | some ws =>
        rw [h1, h2] at ho
        cases ho
        obtain ⟨a1, a2⟩ := fl_peek rx h1
        obtain ⟨b1, b2⟩ := fls_rel e3 h2
        subst a1 b1
        exact ⟨p, vs, rfl, e2, a2, b2, q _ F H (New.refl ef) (RVd Rb)⟩
  cases dy with
  | lst l =>
    obtain ⟨p, vs, e1, e2, e3⟩ := ry.lst ef
    exact go e1 (.inl (sq_of e2)) e3 ho
  | tup l =>
    obtain ⟨p, vs, e1, e2, e3⟩ := ry.tup
    exact go e1 (.inr (st_of (ef p _ e2))) e3 ho
  | _ => exact False.elim (by unfold oInL at ho; cases ho)
end
section
variable {X : Cx} {S : Xs} {W : WX} {F0 H0 : Hp} {a b : Expr} {pos apos : Pos} {f g : M D} {k : Nat}
theorem room_u (hr : Room k X.A) : X.A.units + 1 < cLine := by have := hr.un; omega
theorem room_64 (hr : Room k X.A) : X.A.units + 64 < cLine := by have := hr.un; omega
theorem pd_getK (hr : Room k X.A) (ha : PP X S W a f) (hb : PP X S W b g) (hs : NoSl b := by intro _ _; rfl) : PD X S W (.Subscript a b pos) (mOp oGetK f g) := PE.imp (pe_dget (room_u hr) ha hb hs) fun _ _ _ q => rd_op os_getK q
theorem pd_inK (hr : Room k X.A) (ha : PP X S W a f) (hb : PP X S W b g) (hm : behindInMarks .In b = false := by rfl) : PD X S W (.Compare a [.In] [b] pos) (mOp (oInK false) f g) := PE.imp (pe_cmp (pc_din (room_u hr) ha hb) hm) fun _ _ _ q => rd_op (r := rInK false) os_inK q
theorem pd_niK (hr : Room k X.A) (ha : PP X S W a f) (hb : PP X S W b g) (hm : behindInMarks .NotIn b = false := by rfl) : PD X S W (.Compare a [.NotIn] [b] pos) (mOp (oInK true) f g) := PE.imp (pe_cmp (pc_dnotin (room_u hr) ha hb) hm) fun _ _ _ q => rd_op (r := rInK true) os_inK q
theorem pd_inL (ha : PP X S W a f) (hb : PP X S W b g) (hm : behindInMarks .In b = false := by rfl) : PD X S W (.Compare a [.In] [b] pos) (mOp (oInL false) f g) := pd_cmp op_in_seq os_inL hm ha hb
theorem pd_niL (ha : PP X S W a f) (hb : PP X S W b g) (hm : behindInMarks .NotIn b = false := by rfl) : PD X S W (.Compare a [.NotIn] [b] pos) (mOp (oInL true) f g) := pd_cmp op_notIn_seq os_inL hm ha hb
theorem pd_eqP (hr : Room k X.A) (ha : PP X S W a f) (hb : PP X S W b g) (hm : behindInMarks .Eq b = false := by rfl) : PD X S W (.Compare a [.Eq] [b] pos) (mOp (oEqP false) f g) := pd_cmp (op_eqD (room_64 hr)) os_eqP hm ha hb
theorem pd_neP (hr : Room k X.A) (ha : PP X S W a f) (hb : PP X S W b g) (hm : behindInMarks .NotEq b = false := by rfl) : PD X S W (.Compare a [.NotEq] [b] pos) (mOp (oEqP true) f g) := pd_cmp (op_neD (room_64 hr)) os_neP hm ha hb
end
end Iv
namespace Iv
open PySem PySem.Spec PyProof.Rows L2 Evl
/-- a key as data -/
def kD : Key → D
  | .inl i => .int i
  | .inr s => .str s
theorem kD_rel {K : PySem.W.Frag} {F : Hp} (k : Key) : R K F (kD k) (kV k) := by
  cases k <;> (simp only [kD, R]; rfl)
theorem keys_zip : ∀ {ks : List Key} {vs : List V}, vs.length = ks.length → (ks.zip vs).map (fun kv => kV kv.1) = ks.map kV
  | [], vs, h => rfl
  | k :: ks, [], h => by cases h
  | k :: ks, v :: vs, h => by
    rw [List.zip_cons_cons, List.map_cons, List.map_cons, keys_zip (by simpa using h)]
theorem vals_zip : ∀ {ks : List Key} {vs : List V}, vs.length = ks.length → (ks.zip vs).map (·.2) = vs
  | [], vs, h => by
    obtain rfl : vs = [] := List.length_eq_zero_iff.mp h
    rfl
  | k :: ks, [], h => by cases h
  | k :: ks, v :: vs, h => by
    rw [List.zip_cons_cons, List.map_cons, vals_zip (by simpa using h)]
theorem kv_vals : ∀ {kvs : List (Key × V)} {ws : List (Key × Value)}, KV kvs ws → Vals (kvs.map (·.2)) (ws.map (·.2))
  | _, _, .nil => .nil
  | _, _, .cons h t => .cons h.2 (kv_vals t)
/-- list(d) -/
def cKeys : List D → Option Sv
  | [.dct ks _] => some (.l (ks.map kD))
  | _ => none
/-- sorted(l), ints -/
def leI (a b : Int) : Bool := decide (a ≤ b)
def cSort : List D → Option Sv
  | [.lst l] => (intsOf l).map fun ns => .l ((ns.mergeSort leI).map D.int)
  | _ => none
section
variable {K : PySem.W.Frag}
theorem cs_keys : ClS K (fun xs H Q => ∃ (a : Addr) (kvs : List (Key × V)), xs = [.ref a] ∧ Rd H a (.dK kvs) ∧ ∀ p, H p = none → Q (.ref p) (upd H p (.lst (kvs.map fun kv => kV kv.1)))) cKeys := fun F H xs ds sv ef rx ho Q q => by
  unfold cKeys at ho
  split at ho
  · cases ho
    obtain ⟨v, e0, r⟩ := rx.one
    subst e0
    obtain ⟨p, vs, e1, e2, e3, e4⟩ := r.dct ef
    subst e1
    refine ⟨p, _, rfl, .inl e2, fun l hl => ?_⟩
    rw [keys_zip e3]
    exact q _ F _ (New.fresh ef hl) ⟨l, _, rfl, hl, fresh_back ef hl, upd_same, Rs.of_map kD_rel _⟩
  · cases ho
theorem leI_trans (a b c : Int) (h : leI a b = true) (k : leI b c = true) : leI a c = true := by
  unfold leI at *
  simp only [decide_eq_true_eq] at *
  omega
theorem leI_total (a b : Int) : (leI a b || leI b a) = true := by
  unfold leI
  simp only [Bool.or_eq_true, decide_eq_true_eq]
  omega
theorem sort_one {ns ns' : List Int} (h1 : ns'.Perm ns) (h2 : ns'.Pairwise (· ≤ ·)) : ns' = ns.mergeSort leI := by
  refine List.Perm.eq_of_pairwise (le := fun a b : Int => a ≤ b) (fun a b _ _ => Int.le_antisymm) h2 ?_ (h1.trans (List.mergeSort_perm ns leI).symm)
  exact (List.pairwise_mergeSort leI_trans leI_total ns).imp fun h => of_decide_eq_true h
theorem cs_sort : ClS K (rSortedI K) cSort := fun F H xs ds sv ef rx ho Q q => by
  unfold cSort at ho
  split at ho
  · rename_i l
    obtain ⟨v, e0, r⟩ := rx.one
    subst e0
    obtain ⟨p, vs, e1, e2, e3⟩ := r.lst ef
    subst e1
    cases hi : intsOf l with
    | none => rw [hi] at ho; cases ho
    | some ns =>
      rw [hi] at ho
      cases ho
      rw [ints_eq hi] at e3
      have ev := e3.ints
      subst ev
      refine ⟨p, ns, rfl, sq_of e2, fun ns' a hp hs ha => ?_⟩
      rw [sort_one hp hs]
      exact q _ F _ (New.fresh ef ha) ⟨a, _, rfl, ha, fresh_back ef ha, upd_same, Rs.of_map (fun i => by simp only [R]) _⟩
  · cases ho
end
section
variable {X : Cx} {S : Xs} {W : WX} {o e e2 : Expr} {es : List Expr} {pos apos cpos p : Pos} {f g h : M D} {ff : M (List D)} {k : Nat}
theorem b_keys (B : Bl X.mg) (ha : PPs X S W (e :: es) ff) (hc : X.calm = true) (hg : Gl X "list" := by rfl) (he : starEach (e :: es) X.env = (false, eval e X.env) :: starEach es X.env := by rfl) (hpl : (backTo pos (starEach es X.env)).any (·.1) = false := by rfl) :
    PD X S W (.Call (.Name "list" p) (e :: es) [] pos) (mCl cKeys ff) := pd_callTy (call_listD hc) cs_keys hg B.list PyProof.Rows.boot_list ha (by decide) (by decide) he hpl
theorem b_sort (B : Bl X.mg) (ha : PPs X S W (e :: es) ff) (hg : Gl X "sorted" := by rfl) (he : starEach (e :: es) X.env = (false, eval e X.env) :: starEach es X.env := by rfl) (hpl : (backTo pos (starEach es X.env)).any (·.1) = false := by rfl) :
    PD X S W (.Call (.Name "sorted" p) (e :: es) [] pos) (mCl cSort ff) := pd_callB cr_sortedI cs_sort hg B.sorted (by decide +kernel) ha (by decide) (by decide) he hpl
/-- d.get(k, x) -/
def mGet (f g h : M D) : M Sv := fun env => (f env).bind fun x env => match x with
  | .dct ks ds => (g env).bind fun k env => (h env).bind fun z env => (match keyD k with
    | some k => .ok (.d ((lookD ks ds k).getD z)) env
    | none => .bad)
  | _ => .bad
theorem pd_get (hr : Room k X.A) (ho : PP X S W o f) (he : PP X S W e g) (hf : PF X S W e2 h) (hbase : attributeBase o "get" X.env (eval o X.env) = eval o X.env := by rfl)
    (hfew : ((backTo cpos (starEach [e, e2] X.env)).all (fun x => !x.1) && (backToKw cpos (keywordEach [] X.env)).all (fun x => x.1.isSome)
      && decide (([e, e2] : List Expr).length + ([] : List Keyword).length + (if ([] : List Keyword).isEmpty then 0 else 1) < 30)) = true := by rfl)
    (hline : (apos.endLine == cpos.line) = true := by rfl) (hs : backTo cpos (starEach [e, e2] X.env) = [(false, eval e X.env), (false, eval e2 X.env)] := by rfl) :
    PD X S W (.Call (.Attribute o "get" apos) [e, e2] [] cpos) (mGet f g h) :=
  PE.imp (pe_dget2 (room_u hr) ho he hf ⟨hbase, hfew, hline, hs⟩) fun σ H Q q => by
  obtain ⟨F, ef, q⟩ := rd_bind (T := TP X.K) q
  refine rd_imp q fun x H1 ⟨F1, env1, dx, g1, g2, rel1, rx, q⟩ => ?_
  have rx : RP X.K F1 H1 dx x := rx
  cases dx with
  | dct ks ds =>
    obtain ⟨a, vs, e1, e2, e3, e4⟩ := rx.dct rel1.ex
    subst e1
    refine ⟨a, rfl, .inl ⟨_, .inl e2⟩, ?_⟩
    have q := okG.bind (T := TP X.K) q
    refine ⟨F1, env1, rel1, q.imp fun y H2 ⟨F2, env2, dy, k1, k2, rel2, ry, q⟩ => ?_⟩
    have ry : RP X.K F2 H2 dy y := ry
    have q := okG.bind (T := TF X.K) q
    refine ⟨F2, env2, rel2, q.imp fun z H3 ⟨F3, env3, dz, l1, l2, rel3, rz, q⟩ => ?_⟩
    have rz : R X.K F3 dz z := rz
    dsimp only at q
    cases hk : keyD dy with
    | none => rw [hk] at q; exact q.elim
    | some key =>
      rw [hk] at q
      have hy := key_v hk ry
      subst hy
      have h3 : H3 a = some (.dK (ks.zip vs)) := l2 a _ (k2 a _ e2)
      refine ⟨valV (ks.zip vs) key, DGet.k h3, q _ F3 H3 Gr.refl rel3 (RVd ?_)⟩
      rcases look_rel (k := key) e3 e4 with ⟨z1, z2⟩ | ⟨d, v, z1, z2, z3⟩
      · rw [z1, z2]; exact rz
      · rw [z1, z2]; exact z3.mono (k1.trans l1)
  | _ => exact q.elim
/-- d.values() -/
def tValsK (t : TE) : TE := fun σ H Q => t σ H fun x H1 => ∃ a kvs, x = .ref a ∧ Rd H1 a (.dK kvs) ∧ ∀ p, H1 p = none → Q (.ref p) (upd H1 p (viewO "dict_values" p a))
theorem pe_valsK {te : TE} (he : PE X e te) (hbase : attributeBase e "values" X.env (eval e X.env) = eval e X.env := by rfl) (hline : (apos.endLine == cpos.line) = true := by rfl) : PE X (.Call (.Attribute e "values" apos) [] [] cpos) (tValsK te) := by
  refine ⟨fun pins s σ H Q I hq => wpAny_Call_method (T := "dict") (id := "dict.values") hbase rfl hline F.plainAttrs_dict F.slot_dict_values F.type_dict_values (thn (he.run pins s σ H _ I hq) fun u s1 ⟨x, H1, I1, rx, a, kvs, ex, hd, q⟩ => ?_)⟩
  subst ex
  obtain rfl : u = Value.ref a := rx
  obtain ⟨lz, sm, ws, kv, dd⟩ := dk_rd I1.hok hd
  refine ⟨dd.typeIs, dd.mapOf.noDict, ?_⟩
  have done : EP X pins σ Q (.ref s1.heap.objs.size) { s1 with heap := s1.heap.push (DSub.viewOb "dict_values" a) } :=
    ⟨.ref s1.heap.objs.size, _, I1.laid (t' := s1.toks) (fun _ _ z => Heap.get?_push_of_some _ z) (Nat.le_refl _) (viewO_ok (Heap.get?_push_size _ rfl)), rfl, q _ (I1.hok.fresh (Nat.le_refl _))⟩
  show wpAny _ _ (callWith cpos (.builtin "dict.values") [.ref a] [] []) _ X.xe s1
  exact method_meetsIn F.slot_dict_values F.entry_dict_values rfl (PySem.evalArgs_none ⟨rfl, dd.typeIs, F.args_dict_values_1 _, _, meets_dict_values (mixKind X.prog X.w) a sm, ⟨ws, dd⟩, done⟩)
/-- list(a view of values) -/
def rListV : List V → Hp → VK → Prop := fun xs H Q => ∃ (p a : Addr) (kvs : List (Key × V)), xs = [.ref p] ∧ H p = some (viewO "dict_values" p a) ∧ Rd H a (.dK kvs) ∧ ∀ l, H l = none → Q (.ref l) (upd H l (.lst (kvs.map (·.2))))
theorem call_listV (hc : X.calm = true) : CallR X (.type "list") rListV := fun pins s σ H ys us Q I r ⟨p, a, kvs, e0, hv, hd, q⟩ => by
  subst e0
  match us, r with
  | [u], .cons ru .nil =>
    obtain rfl : u = Value.ref p := ru
    obtain ⟨lz, sm, ws, kv, dd⟩ := dk_rd I.hok hd
    obtain ⟨ep, hat⟩ := dd.dictAt
    have view : s.heap.get? p = some (DSub.viewOb "dict_values" a) := (I.hok p _ hv).1
    refine PySem.W.kdl_call (PySem.W.kdl_values (knd := mixKind X.prog X.w) (kvs := ws) (ep := ep)) (I.ok.hd hc) ⟨⟨_, view, rfl, rfl⟩, hat⟩ (by rw [← kv.length]; exact lz) fun h' tk acc c' hk hD hacc => ?_
    have ea : acc.toList = ws.map (·.2) := PySem.W.kdl_vals_eq acc.toList (by rw [Array.length_toList]; exact hacc.1) fun j v z => hacc.2 j v (by rw [← Array.getElem?_toList]; exact z)
    refine ⟨.ref s.heap.objs.size, upd H s.heap.objs.size (.lst (kvs.map (·.2))), I.laid (t' := tk) hk (Nat.le_refl _)
      (show ObjOk X.prog X.w _ _ _ (.lst (kvs.map (·.2))) from ⟨by rw [List.length_map]; exact lz, acc.toList, c', by rw [ea]; exact kv_vals kv, by rw [Array.toArray_toList]; exact hD⟩), rfl, q _ (I.hok.fresh (Nat.le_refl _))⟩
/-- list(d.values()) -/
def mVals (f : M D) : M Sv := fun env => (f env).bind fun x env => match x with
  | .dct _ ds => .ok (.l ds) env
  | _ => .bad
theorem pd_vals (B : Bl X.mg) (hc : X.calm = true) (he : PP X S W e f) (hbase : attributeBase e "values" X.env (eval e X.env) = eval e X.env := by rfl) (hline : (apos.endLine == cpos.line) = true := by rfl) (hg : Gl X "list" := by rfl)
    (hs : starEach [.Call (.Attribute e "values" apos) [] [] cpos] X.env = [(false, eval (.Call (.Attribute e "values" apos) [] [] cpos) X.env)] := by rfl) :
    PD X S W (.Call (.Name "list" p) [.Call (.Attribute e "values" apos) [] [] cpos] [] pos) (mVals f) :=
  PE.imp (pe_callTy (call_listV hc) hg B.list PyProof.Rows.boot_list (pa_cons (pe_valsK he hbase hline) pa_nil hs) (by decide) (by decide) hs rfl) fun σ H Q q => by
  obtain ⟨F, ef, q⟩ := rd_bind (T := TP X.K) q
  refine rd_imp q fun x H1 ⟨F1, env1, dx, g1, g2, rel1, rx, q⟩ => ?_
  have rx : RP X.K F1 H1 dx x := rx
  cases dx with
  | dct ks ds =>
    obtain ⟨a, vs, e1, e2, e3, e4⟩ := rx.dct rel1.ex
    subst e1
    refine ⟨a, _, rfl, .inl e2, fun p hp => ?_⟩
    have n1 := New.fresh (o := viewO "dict_values" p a) rel1.ex hp
    refine ⟨p, a, ks.zip vs, rfl, upd_same, .inl ((New.fresh (o := viewO "dict_values" p a) rel1.ex hp).h a _ e2), fun l hl => ?_⟩
    have n2 := New.fresh (o := .lst vs) n1.fh hl
    have n : New F1 H1 F1 (upd (upd H1 p (viewO "dict_values" p a)) l (.lst vs)) := ⟨Ex.refl _, n1.h.trans n2.h, n2.fh, fun _ _ z => z⟩
    rw [vals_zip e3]
    exact q _ _ _ (n.gr rel1).1 (n.gr rel1).2 ⟨l, vs, rfl, fresh_back n1.h hl, fresh_back n1.fh hl, upd_same, e4⟩
  | _ => exact q.elim
end
end Iv
namespace Iv
open PySem PySem.Spec PyProof.Rows L2 Evl
section
variable {X : Cx} {S : Xs} {W : WX} {a b : Expr} {pos : Pos} {f g : M D} {k : Nat}
theorem pb_inK (hr : Room k X.A) (ha : PP X S W a f) (hb : PP X S W b g) (hm : behindInMarks .In b = false := by rfl) : PB X S W (.Compare a [.In] [b] pos) (mB (mOp (oInK false) f g)) :=
  PT.imp (pt_cmp (pc_din (room_u hr) ha hb) hm) fun _ _ _ q => rd_op (r := rInK false) os_inK (rd_test q)
theorem pb_niK (hr : Room k X.A) (ha : PP X S W a f) (hb : PP X S W b g) (hm : behindInMarks .NotIn b = false := by rfl) : PB X S W (.Compare a [.NotIn] [b] pos) (mB (mOp (oInK true) f g)) :=
  PT.imp (pt_cmp (pc_dnotin (room_u hr) ha hb) hm) fun _ _ _ q => rd_op (r := rInK true) os_inK (rd_test q)
theorem pb_inL (ha : PP X S W a f) (hb : PP X S W b g) (hm : behindInMarks .In b = false := by rfl) : PB X S W (.Compare a [.In] [b] pos) (mB (mOp (oInL false) f g)) := pb_cmp op_in_seq os_inL hm ha hb
theorem pb_niL (ha : PP X S W a f) (hb : PP X S W b g) (hm : behindInMarks .NotIn b = false := by rfl) : PB X S W (.Compare a [.NotIn] [b] pos) (mB (mOp (oInL true) f g)) := pb_cmp op_notIn_seq os_inL hm ha hb
theorem pb_eqP (hr : Room k X.A) (ha : PP X S W a f) (hb : PP X S W b g) (hm : behindInMarks .Eq b = false := by rfl) : PB X S W (.Compare a [.Eq] [b] pos) (mB (mOp (oEqP false) f g)) := pb_cmp (op_eqD (room_64 hr)) os_eqP hm ha hb
theorem pb_neP (hr : Room k X.A) (ha : PP X S W a f) (hb : PP X S W b g) (hm : behindInMarks .NotEq b = false := by rfl) : PB X S W (.Compare a [.NotEq] [b] pos) (mB (mOp (oEqP true) f g)) := pb_cmp (op_neD (room_64 hr)) os_neP hm ha hb
end
end Iv

set_option Elab.async false
set_option linter.all false
set_option maxRecDepth 100000
set_option maxHeartbeats 4000000
/-! Games as the program makes them. -/
namespace Law
open PySem PySem.Spec PyProof.Rows L2 Evl Iv
noncomputable def g_total : M Fl :=
    mSeq (mSet 1 (mTup (mCons (mD (mC (.int 0))) (mCons (mD (mC (.int 1))) (mNil)))))
    (mSeq (mFor (γN 2) (mIt (mD (mVar 0))) (mSet 1 (mCall 2 f_add (mCons (mD (mVar 1)) (mCons (mD (mVar 2)) (mNil))))))
    (mRet (mD (mVar 1))))
noncomputable def f_total : List D → FR := runF 3 g_total
noncomputable def g_made_row : M Fl :=
    mSeq (mSet 3 (mDn))
    (mSeq (mFor (γT 2 (γCons (γN 4) (γCons (γN 5) (γNil)))) (mIt (mD (mVar 0))) (mSeq (mIfS (mOrB (mB (mOp oLt (mPk 4) (mD (mC (.int 0))))) (mB (mOp oGe (mPk 4) (mPk 2)))) ((fun _ => .bad : M Fl)) (mNx))
    (mSeq (mIfS (mB (mOp oLt (mD (mCall 2 f_compare (mCons (mD (mVar 5)) (mCons (mD (mTup (mCons (mD (mC (.int 0))) (mCons (mD (mC (.int 1))) (mNil))))) (mNil))))) (mD (mC (.int 0))))) ((fun _ => .bad : M Fl)) (mNx))
    (mPutK 3 (mPk 4) (mD (mCall 2 f_add (mCons (mD (mGet (mPk 3) (mPk 4) (mD (mTup (mCons (mD (mC (.int 0))) (mCons (mD (mC (.int 1))) (mNil))))))) (mCons (mD (mVar 5)) (mNil)))))))))
    (mSeq (mIfS (mB (mOp (oEqP true) (mD (mCall 1 f_total (mCons (mD (mVals (mPk 3))) (mNil)))) (mD (mTup (mCons (mD (mC (.int 1))) (mCons (mD (mC (.int 1))) (mNil))))))) ((fun _ => .bad : M Fl)) (mNx))
    (mRet (mD (mCl cTuple (mCons (mD (mLc [4] (γN 4) (mIt (mD (mCl cSort (mCons (mD (mCl cKeys (mCons (mPk 3) (mNil)))) (mNil))))) (mB (mOp (oEqP true) (mD (mOp oGetK (mPk 3) (mPk 4))) (mD (mTup (mCons (mD (mC (.int 0))) (mCons (mD (mC (.int 1))) (mNil))))))) (mD (mTup (mCons (mD (mVar 4)) (mCons (mD (mOp oGetK (mPk 3) (mPk 4))) (mNil))))))) (mNil)))))))
noncomputable def f_made_row : List D → FR := runF 6 g_made_row
noncomputable def g_make_game : M Fl :=
    mSeq (mSet 2 (mCl cLen (mCons (mPk 0) (mNil))))
    (mSeq (mIfS (mB (mOp oEq (mPk 2) (mD (mC (.int 0))))) ((fun _ => .bad : M Fl)) (mNx))
    (mSeq (mIfS (mB (mOp oNe (mD (mCl cLen (mCons (mPk 1) (mNil)))) (mPk 2))) ((fun _ => .bad : M Fl)) (mNx))
    (mSeq (mSet 3 (mLc [4] (γN 4) (mRng1 (mCons (mPk 2) (mNil))) (mYes) (mD (mCall 3 f_made_row (mCons (mD (mOp oIx (mPk 1) (mPk 4))) (mCons (mD (mVar 4)) (mCons (mD (mVar 2)) (mNil))))))))
    (mRet (mD (mTup (mCons (mD (mCl cTuple (mCons (mPk 0) (mNil)))) (mCons (mD (mCl cTuple (mCons (mPk 3) (mNil)))) (mNil)))))))))
noncomputable def f_make_game : List D → FR := runF 5 g_make_game
noncomputable def g_u_law_fraction : M Fl :=
    mRet (mD (mCall 2 f_u_law_low (mCons (mD (mOp oSub (mD (mOp oMod (mD (mCl cInt (mCons (mPk 0) (mNil)))) (mD (mC (.int 13))))) (mD (mC (.int 6))))) (mCons (mD (mOp oAdd (mD (mC (.int 1))) (mD (mOp oMod (mD (mOp oDiv (mD (mCl cInt (mCons (mPk 0) (mNil)))) (mD (mC (.int 13))))) (mD (mC (.int 4))))))) (mNil)))))
noncomputable def f_u_law_fraction : List D → FR := runF 1 g_u_law_fraction
/-! ### sums -/
noncomputable def sumQ (qs : List Rat) : Rat := qs.foldl (· + ·) 0
theorem sum_sz {B : Nat} : ∀ (qs : List Rat) (s : Rat) (n : Nat), Sz ((B + 1) * n + 1) s → (∀ q ∈ qs, Sz B q) → Sz ((B + 1) * (n + qs.length) + 1) (qs.foldl (· + ·) s)
  | [], s, n, h, _ => h
  | q :: qs, s, n, h, hq => by
    have h1 := h.add (hq q List.mem_cons_self)
    have h2 : Sz ((B + 1) * (n + 1) + 1) (s + q) := h1.mono (by rw [Nat.mul_add]; omega)
    have h3 := sum_sz qs (s + q) (n + 1) h2 fun y hy => hq y (List.mem_cons_of_mem _ hy)
    rw [List.length_cons, show n + (qs.length + 1) = n + 1 + qs.length by omega]
    exact h3
theorem fold_shift : ∀ (qs : List Rat) (s : Rat), qs.foldl (· + ·) s = qs.foldl (· + ·) 0 + s
  | [], s => (Rat.zero_add s).symm
  | q :: qs, s => by
    rw [List.foldl_cons, List.foldl_cons, fold_shift qs (s + q), fold_shift qs (0 + q)]
    grind
theorem total_go {B : Nat} {f : List D → FR} (hf : ∀ p q a b, Sz a p → Sz b q → a + b ≤ 130000000 → f [enc p, enc q] = .ok (enc (p + q))) {c : D} {qs : List Rat} (hB : (B + 1) * (qs.length + 1) ≤ 120000000) (h : ∀ x ∈ qs, Sz B x) :
    ∃ s, forL (γN 2) (mSet 1 (mCall 2 f (mCons (mD (mVar 1)) (mCons (mD (mVar 2)) (mNil))))) (qs.map enc) [.fr c, .fr (enc 0), .un] = .ok .nx [.fr c, .fr (enc (sumQ qs)), s] := by
  have key := for_inv (γ := γN 2) (g := mSet 1 (mCall 2 f (mCons (mD (mVar 1)) (mCons (mD (mVar 2)) (mNil))))) (all := qs.map enc) (env := [.fr c, .fr (enc 0), .un])
    (fun i env => ∃ s, env = [.fr c, .fr (enc ((qs.take i).foldl (· + ·) 0)), s]) ⟨.un, rfl⟩ (by
      rintro i x env hx ⟨s, rfl⟩
      rw [List.getElem?_map] at hx
      obtain ⟨y, h1, rfl⟩ := Option.map_eq_some_iff.mp hx
      have hy : Sz B y := h y (List.mem_of_getElem? h1)
      have hi : i < qs.length := (List.getElem?_eq_some_iff.mp h1).1
      have hz := sum_sz (B := B) (qs.take i) 0 0 sz_zero fun q hq => h q (List.mem_of_mem_take hq)
      rw [List.length_take, Nat.min_eq_left (by omega), Nat.zero_add] at hz
      have hm : (B + 1) * i + (B + 1) ≤ (B + 1) * (qs.length + 1) := by
        rw [← Nat.mul_succ]
        exact Nat.mul_le_mul_left _ (by omega)
      have e := hf _ _ _ _ hz hy (by omega)
      have ht : qs.take (i + 1) = qs.take i ++ [y] := by rw [List.take_add_one, h1]; rfl
      refine ⟨[.fr c, .fr (enc ((qs.take i).foldl (· + ·) 0)), .fr (enc y)], [.fr c, .fr (enc ((qs.take (i + 1)).foldl (· + ·) 0)), .fr (enc y)], rfl, ?_, .fr (enc y), rfl⟩
      rw [ht, List.foldl_append]
      simp [e])
  obtain ⟨env', k1, s, rfl⟩ := key
  rw [List.length_map, List.take_length] at k1
  exact ⟨s, k1⟩
theorem total_eq {B : Nat} {qs : List Rat} {c : List D → D} (hc : c = D.lst ∨ c = D.tup) (hB : (B + 1) * (qs.length + 1) ≤ 120000000) (h : ∀ x ∈ qs, Sz B x) : f_total [c (qs.map enc)] = .ok (enc (sumQ qs)) := by
  obtain ⟨s, e⟩ := total_go (f := f_add) (c := c (qs.map enc)) (fun p q a b hp hq h => add_eq hp hq h) hB h
  generalize hl : qs.map enc = l at *
  rcases hc with rfl | rfl <;> simp [f_total, g_total, enc_zero, e]
/-! ### rows of moves -/
theorem intsOf_map : ∀ ns : List Int, intsOf (ns.map D.int) = some ns
  | [] => rfl
  | n :: ns => by
    show (intsOf (ns.map D.int)).map _ = _
    rw [intsOf_map ns]
    rfl
def pE (p : Int × Rat) : D := .tup [.int p.1, enc p.2]
theorem eqP_enc {neg : Bool} {p q : Rat} : oEqP neg (enc p) (enc q) = some (.d (.bl (if neg then !decide (p = q) else decide (p = q)))) := by
  have e1 : ∀ q : Rat, pyD (enc q) = some (.tuple [.int q.num, .int (q.den : Int)]) := fun q => rfl
  have e2 : ∀ a b : Int, SeqAt.shaped (.tuple [.int a, .int b]) = true := fun a b => rfl
  have e3 : PyData.eqv (.tuple [.int p.num, .int (p.den : Int)]) (.tuple [.int q.num, .int (q.den : Int)]) = decide (p = q) := by
    show ((p.num == q.num) && (((p.den : Int) == (q.den : Int)) && true)) = _
    by_cases h : p = q
    · subst h
      simp
    · rw [decide_eq_false h]
      by_cases h1 : p.num = q.num
      · by_cases h2 : p.den = q.den
        · exact absurd (Rat.ext h1 h2) h
        · have : ((p.den : Int) == (q.den : Int)) = false := beq_eq_false_iff_ne.mpr (by omega)
          rw [this]
          simp
      · rw [beq_eq_false_iff_ne.mpr h1]
        rfl
  unfold oEqP
  rw [e1, e1]
  dsimp only
  rw [if_pos ⟨e2 _ _, e2 _ _⟩, e3]
theorem look_none {k : Key} : ∀ {ks : List Key} {ds : List D}, (∀ k' ∈ ks, k' ≠ k) → lookD ks ds k = none
  | [], ds, _ => by cases ds <;> rfl
  | k' :: ks, [], _ => rfl
  | k' :: ks, d :: ds, h => by
    unfold lookD
    rw [if_neg (h k' List.mem_cons_self)]
    exact look_none fun x hx => h x (List.mem_cons_of_mem _ hx)
theorem any_none {k : Key} {ks : List Key} (h : ∀ k' ∈ ks, k' ≠ k) : (ks.any fun k' => decide (k' = k)) = false := by
  rw [List.any_eq_false]
  exact fun x hx => by simpa using h x hx
theorem look_asc : ∀ {ps : List (Int × Rat)} {p : Int × Rat}, ps.Pairwise (fun a b => a.1 < b.1) → p ∈ ps → lookD (ps.map fun p => .inl p.1) (ps.map fun p => enc p.2) (.inl p.1) = some (enc p.2)
  | [], p, _, h => nomatch h
  | q :: ps, p, hp, h => by
    rw [List.map_cons, List.map_cons]
    unfold lookD
    obtain ⟨h1, h2⟩ := List.pairwise_cons.mp hp
    rcases List.mem_cons.mp h with e | e
    · subst e
      rw [if_pos rfl]
    · have := h1 p e
      rw [if_neg (fun z => by have := Sum.inl.inj z; omega)]
      exact look_asc h2 e
/-- a row of a game of so many states -/
structure RowOk (B : Nat) (size : Int) (ps : List (Int × Rat)) : Prop where
  tgt : ∀ p ∈ ps, 0 ≤ p.1 ∧ p.1 < size
  pos : ∀ p ∈ ps, 0 < p.2
  sz : ∀ p ∈ ps, Sz B p.2
  asc : ps.Pairwise (fun a b => a.1 < b.1)
  sum : sumQ (ps.map (·.2)) = 1
  len : ps.length ≤ 1000
  big : (B + 1) * (ps.length + 1) ≤ 120000000
theorem row_eq {B : Nat} {size s : Int} {ps : List (Int × Rat)} {c : List D → D} (hc : c = D.lst ∨ c = D.tup) (h : RowOk B size ps) : f_made_row [c (ps.map pE), .int s, .int size] = .ok (.tup (ps.map pE)) := by
  have hB : B + 1 ≤ 120000000 := Nat.le_trans (Nat.le_mul_of_pos_right _ (by omega)) h.big
  have key := for_inv (γ := γT 2 (γCons (γN 4) (γCons (γN 5) (γNil)))) (g := (mSeq (mIfS (mOrB (mB (mOp oLt (mPk 4) (mD (mC (.int 0))))) (mB (mOp oGe (mPk 4) (mPk 2)))) ((fun _ => .bad : M Fl)) (mNx))
    (mSeq (mIfS (mB (mOp oLt (mD (mCall 2 f_compare (mCons (mD (mVar 5)) (mCons (mD (mTup (mCons (mD (mC (.int 0))) (mCons (mD (mC (.int 1))) (mNil))))) (mNil))))) (mD (mC (.int 0))))) ((fun _ => .bad : M Fl)) (mNx))
    (mPutK 3 (mPk 4) (mD (mCall 2 f_add (mCons (mD (mGet (mPk 3) (mPk 4) (mD (mTup (mCons (mD (mC (.int 0))) (mCons (mD (mC (.int 1))) (mNil))))))) (mCons (mD (mVar 5)) (mNil)))))))))
    (all := ps.map pE) (env := [.fr (c (ps.map pE)), .fr (.int s), .fr (.int size), .od [] [], .un, .un])
    (fun i env => ∃ s4 s5, env = [.fr (c (ps.map pE)), .fr (.int s), .fr (.int size), .od ((ps.take i).map fun p => .inl p.1) ((ps.take i).map fun p => enc p.2), s4, s5]) ⟨.un, .un, rfl⟩ (by
      rintro i x env hx ⟨s4, s5, rfl⟩
      rw [List.getElem?_map] at hx
      obtain ⟨p, h1, rfl⟩ := Option.map_eq_some_iff.mp hx
      have hm : p ∈ ps := List.mem_of_getElem? h1
      obtain ⟨t0, t1⟩ := h.tgt p hm
      have hq := h.pos p hm
      have hz := h.sz p hm
      have ht : ps.take (i + 1) = ps.take i ++ [p] := by rw [List.take_add_one, h1]; rfl
      have hi : i < ps.length := (List.getElem?_eq_some_iff.mp h1).1
      have hlen := h.len
      have fresh : ∀ k' ∈ (ps.take i).map (fun p => (Sum.inl p.1 : Key)), k' ≠ Sum.inl p.1 := fun k' hk z => by
        obtain ⟨r, hr, rfl⟩ := List.mem_map.mp hk
        have e : ps = ps.take i ++ p :: ps.drop (i + 1) := by
          conv => lhs; rw [← List.take_append_drop i ps, List.drop_eq_getElem_cons hi]
          rw [(List.getElem?_eq_some_iff.mp h1).2]
        have as := h.asc
        rw [e, List.pairwise_append] at as
        have := as.2.2 r hr p List.mem_cons_self
        have := Sum.inl.inj z
        omega
      have l0 := look_none (ds := (ps.take i).map fun p => enc p.2) fresh
      have a0 := any_none fresh
      have cq : cmpQ p.2 0 = 1 := by
        unfold cmpQ
        rw [if_neg (by grind), if_pos hq]
      have cm := compare_eq hz sz_zero (by omega)
      rw [cq] at cm
      have ad := add_eq (sz_zero) hz (by omega)
      rw [Rat.zero_add] at ad
      have hlt : ((ps.take i).map fun p => (Sum.inl p.1 : Key)).length < 90000 := by rw [List.length_map, List.length_take]; omega
      refine ⟨[.fr (c (ps.map pE)), .fr (.int s), .fr (.int size), .od ((ps.take i).map fun p => .inl p.1) ((ps.take i).map fun p => enc p.2), .fr (.int p.1), .fr (enc p.2)], [.fr (c (ps.map pE)), .fr (.int s), .fr (.int size), .od ((ps.take (i + 1)).map fun p => .inl p.1) ((ps.take (i + 1)).map fun p => enc p.2), .fr (.int p.1), .fr (enc p.2)], rfl, ?_, _, _, rfl⟩
      rw [ht, List.map_append, List.map_append]
      generalize (ps.take i).map (fun p => (Sum.inl p.1 : Key)) = ks at *
      generalize (ps.take i).map (fun p => enc p.2) = ds at *
      have n0 : ¬ p.1 < 0 := by omega
      have n1 : ¬ size ≤ p.1 := by omega
      simp [n0, n1, enc_zero, cm, ad, mPutK, odAt, mGet, keyD, l0, a0, hlt])
  obtain ⟨env', k1, s4, s5, rfl⟩ := key
  rw [List.length_map, List.take_length] at k1
  have tot := total_eq (c := .lst) (.inl rfl) (by rw [List.length_map]; exact h.big) (qs := ps.map (·.2)) fun q hq => by
    obtain ⟨p, hp, rfl⟩ := List.mem_map.mp hq
    exact h.sz p hp
  rw [h.sum, List.map_map] at tot
  have tot : f_total [.lst (ps.map fun p => enc p.2)] = .ok (enc 1) := tot
  have e1 : oEqP true (enc 1) (enc 1) = _ := eqP_enc
  have srt : cSort [.lst (ps.map fun p => D.int p.1)] = some (.l (ps.map fun p => D.int p.1)) := by
    have e : ps.map (fun p => D.int p.1) = (ps.map (·.1)).map D.int := by rw [List.map_map]; rfl
    show (intsOf _).map _ = _
    rw [e, intsOf_map]
    have : (ps.map (·.1)).mergeSort leI = ps.map (·.1) := (sort_one (List.Perm.refl _) (List.pairwise_map.mpr (h.asc.imp fun z => Int.le_of_lt z))).symm
    show some (Sv.l (((ps.map (·.1)).mergeSort leI).map D.int)) = _
    rw [this]
  have ks : cKeys [.dct (ps.map fun p => .inl p.1) (ps.map fun p => enc p.2)] = some (.l (ps.map fun p => D.int p.1)) := by
    show some (Sv.l ((ps.map fun p => (Sum.inl p.1 : Key)).map kD)) = _
    rw [List.map_map]
    rfl
  have comp : compL [4] (γN 4) (mB (mOp (oEqP true) (mD (mOp oGetK (mPk 3) (mPk 4))) (mD (mTup (mCons (mD (mC (.int 0))) (mCons (mD (mC (.int 1))) (mNil))))))) (mD (mTup (mCons (mD (mVar 4)) (mCons (mD (mOp oGetK (mPk 3) (mPk 4))) (mNil))))) (ps.map fun p => D.int p.1) [] [.fr (c (ps.map pE)), .fr (.int s), .fr (.int size), .od (ps.map fun p => .inl p.1) (ps.map fun p => enc p.2), .un, s5] =
      .ok (ps.map pE) [.fr (c (ps.map pE)), .fr (.int s), .fr (.int size), .od (ps.map fun p => .inl p.1) (ps.map fun p => enc p.2), .un, s5] := by
    rw [compL_map (enc := fun p : Int × Rat => D.int p.1) (h := pE)]
    · rfl
    · intro p hp
      have lk := look_asc h.asc hp
      have ne : p.2 ≠ 0 := fun z => by have := h.pos p hp; rw [z] at this; exact absurd this (by decide)
      have eq0 : oEqP true (enc p.2) (enc 0) = _ := eqP_enc
      rw [decide_eq_false ne] at eq0
      have gk : oGetK (.dct (ps.map fun p => .inl p.1) (ps.map fun p => enc p.2)) (.int p.1) = some (.d (enc p.2)) := by
        show (lookD _ _ (.inl p.1)).map Sv.d = _
        rw [lk]
        rfl
      generalize (ps.map fun p => (Sum.inl p.1 : Key)) = kq at *
      generalize (ps.map fun p => enc p.2) = dq at *
      refine ⟨[.fr (c (ps.map pE)), .fr (.int s), .fr (.int size), .od kq dq, .fr (.int p.1), s5], [.fr (c (ps.map pE)), .fr (.int s), .fr (.int size), .od kq dq, .fr (.int p.1), s5], [.fr (c (ps.map pE)), .fr (.int s), .fr (.int size), .od kq dq, .fr (.int p.1), s5], rfl, ?_, ?_, rfl⟩
      · simp [gk, enc_zero, eq0]
      · simp [gk, pE]
  have hl := h.len
  generalize hks : (ps.map fun p => (Sum.inl p.1 : Key)) = kk at *
  generalize hds : (ps.map fun p => enc p.2) = dd at *
  have hii : (ps.map fun p => D.int p.1).length ≤ 90000 := by rw [List.length_map]; omega
  generalize hts : (ps.map fun p => D.int p.1) = ii at *
  generalize hpp : ps.map pE = pp at *
  rcases hc with rfl | rfl <;> simp [f_made_row, g_made_row, mDn, k1, mVals, tot, enc_one, e1, ks, srt, hii, comp]
/-- a game that make_game takes and gives back -/
structure GameOk (B : Nat) (rs : List Rat) (rows : List (List (Int × Rat))) : Prop where
  ne : rs ≠ []
  len : rows.length = rs.length
  small : rs.length ≤ 1000
  row : ∀ r ∈ rows, RowOk B rs.length r
def gameD (rs : List Rat) (rows : List (List (Int × Rat))) : D := .tup [.tup (rs.map enc), .tup (rows.map fun r => .tup (r.map pE))]
theorem game_eq {B : Nat} {rs : List Rat} {rows : List (List (Int × Rat))} (h : GameOk B rs rows) : f_make_game [.tup (rs.map enc), .tup (rows.map fun r => .tup (r.map pE))] = .ok (gameD rs rows) := by
  have hs := h.small
  have hsm : small (rs.length : Int) = true := small_nat (by omega)
  have n0 : ((rs.length : Int) == 0) = false := beq_eq_false_iff_ne.mpr (by have := List.length_pos_iff.mpr h.ne; omega)
  have n0' : ¬ rs = [] := h.ne
  have up : Iv.upTo 0 rs.length = (List.range rs.length).map fun k : Nat => D.int (k : Int) := by
    unfold Iv.upTo
    exact List.map_congr_left fun k _ => by rw [Int.zero_add]
  have comp : compL [4] (γN 4) mYes (mD (mCall 3 f_made_row (mCons (mD (mOp oIx (mPk 1) (mPk 4))) (mCons (mD (mVar 4)) (mCons (mD (mVar 2)) (mNil)))))) (Iv.upTo 0 rs.length) [] [.fr (.tup (rs.map enc)), .fr (.tup (rows.map fun r => .tup (r.map pE))), .fr (.int (rs.length : Int)), .un, .un] =
      .ok (rows.map fun r => .tup (r.map pE)) [.fr (.tup (rs.map enc)), .fr (.tup (rows.map fun r => .tup (r.map pE))), .fr (.int (rs.length : Int)), .un, .un] := by
    rw [up, compL_map (enc := fun k : Nat => D.int (k : Int)) (h := fun k : Nat => D.tup ((rows[k]?.getD []).map pE))]
    · rw [List.nil_append]
      congr 1
      refine List.ext_getElem (by simp [h.len]) fun i h1 h2 => ?_
      have hi : i < rows.length := by simpa using h2
      simp [List.getElem?_eq_getElem hi]
    · intro k hk
      have hk := List.mem_range.mp hk
      have hi : k < rows.length := by rw [h.len]; exact hk
      have e := row_eq (s := (k : Int)) (c := .tup) (.inr rfl) (h.row rows[k] (List.getElem_mem hi))
      have g : (rows.map fun r => D.tup (r.map pE))[k]? = some (.tup (rows[k].map pE)) := by rw [List.getElem?_map, List.getElem?_eq_getElem hi]; rfl
      have ix : oIx (.tup (rows.map fun r => .tup (r.map pE))) (.int (k : Int)) = some (.d (.tup (rows[k].map pE))) := by
        show (atI _ _).map Sv.d = _
        rw [atI_nat', g]
        rfl
      rw [List.getElem?_eq_getElem hi]
      generalize (rows.map fun r => D.tup (r.map pE)) = rr at *
      generalize rs.map enc = ee at *
      refine ⟨[.fr (.tup ee), .fr (.tup rr), .fr (.int (rs.length : Int)), .un, .fr (.int (k : Int))], _, [.fr (.tup ee), .fr (.tup rr), .fr (.int (rs.length : Int)), .un, .fr (.int (k : Int))], rfl, rfl, ?_, rfl⟩
      simp [ix, e]
  have h90 : rs.length ≤ 90000 := by omega
  have hl := h.len
  unfold gameD
  have lr : (rows.map fun r => D.tup (r.map pE)).length = rs.length := by rw [List.length_map]; exact hl
  have le : (rs.map enc).length = rs.length := List.length_map ..
  generalize (rows.map fun r => D.tup (r.map pE)) = rr at *
  generalize rs.map enc = ee at *
  simp [f_make_game, g_make_game, lr, le, n0, n0', hsm, upTo_len, h90, comp]
theorem game_pl {n : Nat} {rs : List Rat} {rows : List (List (Int × Rat))} (h1 : rs.length ≤ 1000) (h2 : rows.length ≤ 1000) (h3 : ∀ r ∈ rows, r.length ≤ 1000) : Pl (n + 6) (gameD rs rows) := by
  refine ⟨by simp, fun x hx => ?_⟩
  simp only [List.mem_cons, List.not_mem_nil, or_false] at hx
  rcases hx with rfl | rfl
  · exact ⟨by rw [List.length_map]; omega, fun x hx => by
      obtain ⟨q, _, rfl⟩ := List.mem_map.mp hx
      exact Pl.enc⟩
  · refine ⟨by rw [List.length_map]; omega, fun x hx => ?_⟩
    obtain ⟨r, hr, rfl⟩ := List.mem_map.mp hx
    refine ⟨by rw [List.length_map]; have := h3 r hr; omega, fun x hx => ?_⟩
    obtain ⟨p, _, rfl⟩ := List.mem_map.mp hx
    refine ⟨by simp, fun x hx => ?_⟩
    simp only [List.mem_cons, List.not_mem_nil, or_false] at hx
    rcases hx with rfl | rfl
    · exact True.intro
    · exact Pl.enc
end Law

set_option Elab.async false
set_option linter.all false
set_option maxRecDepth 100000
set_option maxHeartbeats 4000000
namespace Law
open PySem PySem.Spec PyProof.Rows L2 Evl Iv
/-! ### meanings -/
noncomputable def g_staying : M Fl :=
    mRet (mD (mTup (mCons (mD (mTup (mCons (mD (mVar 0)) (mCons (mD (mTup (mCons (mD (mC (.int 1))) (mCons (mD (mC (.int 1))) (mNil))))) (mNil))))) (mNil))))
noncomputable def f_staying : List D → FR := runF 1 g_staying
noncomputable def g_steady : M Fl :=
    mRet (mD (mTup (mCons (mD (mTup (mCons (mD (mVar 0)) (mNil)))) (mCons (mD (mTup (mCons (mD (mCall 1 f_staying (mCons (mD (mC (.int 0))) (mNil)))) (mNil)))) (mNil)))))
noncomputable def f_steady : List D → FR := runF 1 g_steady
noncomputable def g_u_law_is_game : M Fl :=
    mRet (mD (mAndV (mCall 2 f_u_law_same (mCons (mD (mVar 0)) (mCons (mD (mVar 1)) (mNil)))) (mCall 2 f_u_law_same (mCons (mD (mCall 2 f_make_game (mCons (mD (mOp oIx (mPk 0) (mD (mC (.int 0))))) (mCons (mD (mOp oIx (mPk 0) (mD (mC (.int 1))))) (mNil))))) (mCons (mD (mVar 1)) (mNil))))))
noncomputable def f_u_law_is_game : List D → FR := runF 2 g_u_law_is_game
noncomputable def g_throw : M Fl :=
    mSeq (mSet 2 (mLst (mCons (mD (mVar 0)) (mNil))))
    (mSeq (mSet 3 (mLst (mNil)))
    (mSeq (mSet 4 (mLst (mNil)))
    (mSeq (mFor (γT 2 (γCons (γN 5) (γCons (γN 6) (γNil)))) (mIt (mD (mVar 1))) (mSeq (mSet 7 (mCl cLen (mCons (mPk 2) (mNil))))
    (mSeq (mApp 2 (mD (mVar 6)))
    (mSeq (mApp 3 (mD (mTup (mCons (mD (mVar 7)) (mCons (mD (mVar 5)) (mNil))))))
    (mApp 4 (mD (mCall 1 f_staying (mCons (mD (mVar 7)) (mNil)))))))))
    (mRet (mD (mTup (mCons (mD (mCl cTuple (mCons (mPk 2) (mNil)))) (mCons (mD (mCl cTuple (mCons (mD (mOp oAdd (mD (mLst (mCons (mD (mCl cTuple (mCons (mPk 3) (mNil)))) (mNil)))) (mPk 4))) (mNil)))) (mNil)))))))))
noncomputable def f_throw : List D → FR := runF 8 g_throw
noncomputable def g_pay_row : M Fl :=
    mSeq (mSet 2 (mCl cLen (mCons (mPk 0) (mNil))))
    (mSeq (mSet 3 (mOp oAdd (mD (mLc [4] (γN 4) (mRng1 (mCons (mD (mOp oSub (mPk 2) (mD (mC (.int 1))))) (mNil))) (mYes) (mD (mOp oAdd (mPk 4) (mD (mC (.int 1))))))) (mD (mLst (mCons (mD (mVar 1)) (mNil))))))
    (mRet (mD (mTup (mCons (mD (mCl cTuple (mCons (mPk 0) (mNil)))) (mCons (mD (mCl cTuple (mCons (mD (mLc [5] (γN 5) (mIt (mD (mVar 3))) (mYes) (mD (mTup (mCons (mD (mTup (mCons (mD (mVar 5)) (mCons (mD (mTup (mCons (mD (mC (.int 1))) (mCons (mD (mC (.int 1))) (mNil))))) (mNil))))) (mNil)))))) (mNil)))) (mNil)))))))
noncomputable def f_pay_row : List D → FR := runF 6 g_pay_row
noncomputable def t15_law : M Fl :=
    mRet (mD (mCall 2 f_u_law_is_game (mCons (mD (mCall 2 f_pay_row (mCons (mD (mCl cTuple (mCons (mPk 7) (mNil)))) (mCons (mD (mVar 11)) (mNil))))) (mCons (mD (mTup (mCons (mD (mCl cTuple (mCons (mPk 7) (mNil)))) (mCons (mD (mCl cTuple (mCons (mPk 9) (mNil)))) (mNil))))) (mNil)))))
noncomputable def t14_law : M Fl :=
    mSeq (mApp 9 (mD (mTup (mCons (mD (mTup (mCons (mD (mVar 11)) (mCons (mD (mTup (mCons (mD (mC (.int 1))) (mCons (mD (mC (.int 1))) (mNil))))) (mNil))))) (mNil))))) t15_law
noncomputable def t13_law : M Fl :=
    mSeq (mSet 9 (mLc [10] (γN 10) (mRng1 (mCons (mD (mOp oSub (mPk 3) (mD (mC (.int 1))))) (mNil))) (mYes) (mD (mTup (mCons (mD (mTup (mCons (mD (mOp oAdd (mPk 10) (mD (mC (.int 1))))) (mCons (mD (mTup (mCons (mD (mC (.int 1))) (mCons (mD (mC (.int 1))) (mNil))))) (mNil))))) (mNil)))))) t14_law
noncomputable def t12_law : M Fl :=
    mSeq (mSet 11 (mOp oMod (mD (mCl cInt (mCons (mD (mOp oIx (mD (mOp oIx (mPk 4) (mD (mC (.int 0))))) (mD (mC (.int 2))))) (mNil)))) (mPk 3))) t13_law
noncomputable def t11_law : M Fl :=
    mSeq (mIfS (mNotB (mB (mCall 2 f_u_law_is_game (mCons (mD (mCall 2 f_throw (mCons (mD (mVar 2)) (mCons (mD (mVar 8)) (mNil))))) (mCons (mD (mTup (mCons (mD (mCl cTuple (mCons (mD (mOp oAdd (mD (mLst (mCons (mD (mVar 2)) (mNil)))) (mPk 7))) (mNil)))) (mCons (mD (mCl cTuple (mCons (mPk 9) (mNil)))) (mNil))))) (mNil)))))) (mRet (mD (mC (.bl false)))) (mNx)) t12_law
noncomputable def t10_law : M Fl :=
    mSeq (mFor (γN 10) (mRng1 (mCons (mPk 3) (mNil))) (mApp 9 (mD (mTup (mCons (mD (mTup (mCons (mD (mOp oAdd (mPk 10) (mD (mC (.int 1))))) (mCons (mD (mTup (mCons (mD (mC (.int 1))) (mCons (mD (mC (.int 1))) (mNil))))) (mNil))))) (mNil)))))) t11_law
noncomputable def t9_law : M Fl :=
    mSeq (mSet 9 (mLst (mCons (mD (mCl cTuple (mCons (mD (mLc [10] (γN 10) (mRng1 (mCons (mPk 3) (mNil))) (mYes) (mD (mTup (mCons (mD (mOp oAdd (mPk 10) (mD (mC (.int 1))))) (mCons (mD (mOp oIx (mD (mOp oIx (mPk 8) (mPk 10))) (mD (mC (.int 0))))) (mNil))))))) (mNil)))) (mNil)))) t10_law
noncomputable def t8_law : M Fl :=
    mSeq (mSet 8 (mCl cTuple (mCons (mD (mLc [10] (γN 10) (mRng1 (mCons (mPk 3) (mNil))) (mYes) (mD (mTup (mCons (mD (mCall 2 f_u_law_low (mCons (mD (mOp oIx (mPk 5) (mPk 10))) (mCons (mD (mVar 6)) (mNil))))) (mCons (mD (mOp oIx (mPk 7) (mPk 10))) (mNil))))))) (mNil)))) t9_law
noncomputable def t7_law : M Fl :=
    mSeq (mSet 7 (mLc [10] (γN 10) (mRng1 (mCons (mPk 3) (mNil))) (mYes) (mD (mCall 1 f_u_law_fraction (mCons (mD (mOp oIx (mD (mOp oIx (mPk 4) (mPk 10))) (mD (mC (.int 1))))) (mNil)))))) t8_law
noncomputable def t6_law : M Fl :=
    mSeq (mSet 6 (mCl cSum (mCons (mPk 5) (mNil)))) t7_law
noncomputable def t5_law : M Fl :=
    mSeq (mSet 5 (mLc [10] (γN 10) (mRng1 (mCons (mPk 3) (mNil))) (mYes) (mD (mOp oAdd (mD (mC (.int 1))) (mD (mOp oMod (mD (mCl cInt (mCons (mD (mOp oIx (mD (mOp oIx (mPk 4) (mPk 10))) (mD (mC (.int 0))))) (mNil)))) (mD (mC (.int 5))))))))) t6_law
noncomputable def t4_law : M Fl :=
    mSeq (mSet 4 (mLc [10] (γN 10) (mRng1 (mCons (mPk 3) (mNil))) (mYes) (mD (mCall 2 f_u_law_draws (mCons (mD (mCall 2 f_u_law_cell (mCons (mD (mVar 0)) (mCons (mD (mOp oAdd (mD (mC (.int 1))) (mPk 10))) (mNil))))) (mCons (mD (mC (.int 3))) (mNil))))))) t5_law
noncomputable def t3_law : M Fl :=
    mSeq (mSet 3 (mCl cMin2 (mCons (mD (mC (.int 9))) (mCons (mD (mCl cMax2 (mCons (mD (mC (.int 1))) (mCons (mD (mOp oSub (mD (mCl cLen (mCons (mPk 0) (mNil)))) (mD (mC (.int 1))))) (mNil))))) (mNil))))) t4_law
noncomputable def t2_law : M Fl :=
    mSeq (mIfS (mNotB (mB (mCall 2 f_u_law_is_game (mCons (mD (mCall 1 f_steady (mCons (mD (mVar 2)) (mNil)))) (mCons (mD (mTup (mCons (mD (mTup (mCons (mD (mVar 2)) (mNil)))) (mCons (mD (mTup (mCons (mD (mTup (mCons (mD (mTup (mCons (mD (mC (.int 0))) (mCons (mD (mTup (mCons (mD (mC (.int 1))) (mCons (mD (mC (.int 1))) (mNil))))) (mNil))))) (mNil)))) (mNil)))) (mNil))))) (mNil)))))) (mRet (mD (mC (.bl false)))) (mNx)) t3_law
noncomputable def t1_law : M Fl :=
    mSeq (mSet 2 (mCall 2 f_u_law_low (mCons (mD (mVar 1)) (mCons (mD (mOp oAdd (mD (mC (.int 1))) (mD (mOp oMod (mD (mCl cInt (mCons (mD (mOp oDiv (mPk 1) (mD (mC (.int 9))))) (mNil)))) (mD (mC (.int 9))))))) (mNil))))) t2_law
noncomputable def t0_law : M Fl :=
    mSeq (mSet 1 (mCall 2 f_u_law_cell (mCons (mD (mVar 0)) (mCons (mD (mC (.int 0))) (mNil))))) t1_law
noncomputable def f_law : List D → FR := runF 12 t0_law
end Law

set_option Elab.async false
set_option linter.all false
set_option maxRecDepth 100000
set_option maxHeartbeats 4000000
namespace Law
open PySem PySem.Spec PyProof.Rows L2 Evl Iv
def topS (i : Nat) : Stmt := PySem.Challenge.pw_anycompany_k15_steady_throw_pay_row.main.body.getD i (.Pass ⟨0, 0, 0, 0⟩)
abbrev s_u_law_cell : Stmt := topS 24
abbrev N_u_law_cell : List Str := ["script", "k"]
theorem sc_u_law_cell : FnScope N_u_law_cell ["script", "k"] (defScope s_u_law_cell) := ⟨rfl, rfl, rfl, by decide +kernel, rfl, by decide +kernel, by decide +kernel⟩
abbrev s_u_law_gcd : Stmt := topS 26
abbrev N_u_law_gcd : List Str := ["a", "b", "rest"]
theorem sc_u_law_gcd : FnScope N_u_law_gcd ["a", "b"] (defScope s_u_law_gcd) := ⟨rfl, rfl, rfl, by decide +kernel, rfl, by decide +kernel, by decide +kernel⟩
abbrev s_u_law_low : Stmt := topS 27
abbrev N_u_law_low : List Str := ["n", "d", "divisor"]
theorem sc_u_law_low : FnScope N_u_law_low ["n", "d"] (defScope s_u_law_low) := ⟨rfl, rfl, rfl, by decide +kernel, rfl, by decide +kernel, by decide +kernel⟩
abbrev s_staying : Stmt := topS 17
abbrev N_staying : List Str := ["state"]
theorem sc_staying : FnScope N_staying ["state"] (defScope s_staying) := ⟨rfl, rfl, rfl, by decide +kernel, rfl, by decide +kernel, by decide +kernel⟩
abbrev s_steady : Stmt := topS 16
abbrev N_steady : List Str := ["reward"]
theorem sc_steady : FnScope N_steady ["reward"] (defScope s_steady) := ⟨rfl, rfl, rfl, by decide +kernel, rfl, by decide +kernel, by decide +kernel⟩
abbrev s_u_law_same : Stmt := topS 28
abbrev N_u_law_same : List Str := ["actual", "due", "k"]
theorem sc_u_law_same : FnScope N_u_law_same ["actual", "due"] (defScope s_u_law_same) := ⟨rfl, rfl, rfl, by decide +kernel, rfl, by decide +kernel, by decide +kernel⟩
abbrev s_compare : Stmt := topS 13
abbrev N_compare : List Str := ["a", "b", "left", "right"]
theorem sc_compare : FnScope N_compare ["a", "b"] (defScope s_compare) := ⟨rfl, rfl, rfl, by decide +kernel, rfl, by decide +kernel, by decide +kernel⟩
abbrev s_make_ratio : Stmt := topS 11
abbrev N_make_ratio : List Str := ["n", "d", "common"]
theorem sc_make_ratio : FnScope N_make_ratio ["n", "d"] (defScope s_make_ratio) := ⟨rfl, rfl, rfl, by decide +kernel, rfl, by decide +kernel, by decide +kernel⟩
abbrev s_add : Stmt := topS 12
abbrev N_add : List Str := ["a", "b"]
theorem sc_add : FnScope N_add ["a", "b"] (defScope s_add) := ⟨rfl, rfl, rfl, by decide +kernel, rfl, by decide +kernel, by decide +kernel⟩
abbrev s_total : Stmt := topS 14
abbrev N_total : List Str := ["values", "result", "value"]
theorem sc_total : FnScope N_total ["values"] (defScope s_total) := ⟨rfl, rfl, rfl, by decide +kernel, rfl, by decide +kernel, by decide +kernel⟩
abbrev s_made_row : Stmt := topS 22
abbrev N_made_row : List Str := ["pairs", "state", "size", "sums", "target", "probability"]
theorem sc_made_row : FnScope N_made_row ["pairs", "state", "size"] (defScope s_made_row) := ⟨rfl, rfl, rfl, by decide +kernel, rfl, by decide +kernel, by decide +kernel⟩
abbrev s_make_game : Stmt := topS 21
abbrev N_make_game : List Str := ["rewards", "moves", "size", "rows", "state"]
theorem sc_make_game : FnScope N_make_game ["rewards", "moves"] (defScope s_make_game) := ⟨rfl, rfl, rfl, by decide +kernel, rfl, by decide +kernel, by decide +kernel⟩
abbrev s_u_law_is_game : Stmt := topS 30
abbrev N_u_law_is_game : List Str := ["actual", "due"]
theorem sc_u_law_is_game : FnScope N_u_law_is_game ["actual", "due"] (defScope s_u_law_is_game) := ⟨rfl, rfl, rfl, by decide +kernel, rfl, by decide +kernel, by decide +kernel⟩
abbrev s_u_law_draws : Stmt := topS 25
abbrev N_u_law_draws : List Str := ["cell", "count", "rest", "digits", "seed", "draws", "k", "mixed"]
theorem sc_u_law_draws : FnScope N_u_law_draws ["cell", "count"] (defScope s_u_law_draws) := ⟨rfl, rfl, rfl, by decide +kernel, rfl, by decide +kernel, by decide +kernel⟩
abbrev s_u_law_fraction : Stmt := topS 29
abbrev N_u_law_fraction : List Str := ["draw"]
theorem sc_u_law_fraction : FnScope N_u_law_fraction ["draw"] (defScope s_u_law_fraction) := ⟨rfl, rfl, rfl, by decide +kernel, rfl, by decide +kernel, by decide +kernel⟩
abbrev s_throw : Stmt := topS 18
abbrev N_throw : List Str := ["reward", "outcomes", "rewards", "first", "rows", "probability", "outcome", "state"]
theorem sc_throw : FnScope N_throw ["reward", "outcomes"] (defScope s_throw) := ⟨rfl, rfl, rfl, by decide +kernel, rfl, by decide +kernel, by decide +kernel⟩
abbrev s_pay_row : Stmt := topS 19
abbrev N_pay_row : List Str := ["rewards", "back", "size", "targets", "k", "target"]
theorem sc_pay_row : FnScope N_pay_row ["rewards", "back"] (defScope s_pay_row) := ⟨rfl, rfl, rfl, by decide +kernel, rfl, by decide +kernel, by decide +kernel⟩
abbrev s_law : Stmt := topS 31
abbrev N_law : List Str := ["script", "first", "reward", "count", "draws", "weights", "whole", "rewards", "outcomes", "moves", "k", "back"]
theorem sc_law : FnScope N_law ["script"] (defScope s_law) := ⟨rfl, rfl, rfl, by decide +kernel, rfl, by decide +kernel, by decide +kernel⟩
section
variable {w : World} {K : PySem.W.Frag} {mg : Str → Option Value} {base : Heap} {S : Xs}
theorem d_u_law_cell (B : Bl mg) (df : Df K mg "_law_cell" s_u_law_cell ["script", "k"]) : Cl PySem.Challenge.pw_anycompany_k15_steady_throw_pay_row w K mg base S 41 "_law_cell" 2 f_u_law_cell := by
  refine cl_of (k := 40) df sc_u_law_cell fun f cdv A outer s H E F0 H0 hr tk po => ?_
  exact dss_cons (ds_if (cpB op_lt os_lt (pk 1) (pp_of (b_len B (pps_cons (pk 0) (pps_nil))))) (dss_one (ds_ret (pf_of (ix (pk 0) (pk 1))))) (dss_nil))
    (dss_one (ds_ret (pf_of (pd_op op_addA os_add (pp_of (pd_op op_mulA os_mul (pp_of (pd_int)) (pk 1))) (pp_of (pd_int))))))
theorem d_u_law_gcd (B : Bl mg) (df : Df K mg "_law_gcd" s_u_law_gcd ["a", "b"]) : Cl PySem.Challenge.pw_anycompany_k15_steady_throw_pay_row w K mg base S 41 "_law_gcd" 2 f_u_law_gcd := by
  refine cl_of (k := 40) df sc_u_law_gcd fun f cdv A outer s H E F0 H0 hr tk po => ?_
  exact dss_cons (st_set 0 sc_u_law_gcd.nd (b_abs B (pps_cons (pk 0) (pps_nil))))
    (dss_cons (st_set 1 sc_u_law_gcd.nd (b_abs B (pps_cons (pk 1) (pps_nil))))
    (dss_cons (ds_while po (cpB op_gt os_gt (pk 1) (pp_of (pd_int))) (dss_cons (st_set 2 sc_u_law_gcd.nd (pd_op op_modN os_mod (pp_of (b_int B (pps_cons (pk 0) (pps_nil)))) (pk 1)))
    (dss_cons (st_set 0 sc_u_law_gcd.nd (nm 1))
    (dss_one (st_set 1 sc_u_law_gcd.nd (nm 2))))))
    (dss_one (ds_ret (pf_of (nm 0))))))
theorem d_u_law_low (B : Bl mg) (seer : base.NoSeer) (df : Df K mg "_law_low" s_u_law_low ["n", "d"]) (c_u_law_gcd : Cl PySem.Challenge.pw_anycompany_k15_steady_throw_pay_row w K mg base S 41 "_law_gcd" 2 f_u_law_gcd) : Cl PySem.Challenge.pw_anycompany_k15_steady_throw_pay_row w K mg base S 42 "_law_low" 2 f_u_law_low := by
  refine cl_of (k := 41) df sc_u_law_low fun f cdv A outer s H E F0 H0 hr tk po => ?_
  have bg := big_of (CX := L2N.CX PySem.Challenge.pw_anycompany_k15_steady_throw_pay_row w) (P := PySem.Challenge.pw_anycompany_k15_steady_throw_pay_row) (w := w) (K := K) (mg := mg) (f := f) (cdv := cdv) (A := A) (outer := outer) (s := s) (H := H) (E := E) (qual := "_law_low") seer rfl sc_u_law_low
  exact dss_cons (st_set 2 sc_u_law_low.nd (cl c_u_law_gcd hr (by decide) tk (pfs_cons (pf_of (nm 0)) (pfs_cons (pf_of (nm 1)) (pfs_nil)))))
    (dss_cons (ds_if (cpB op_lt os_lt (pk 1) (pp_of (pd_int))) (dss_one (st_set 2 sc_u_law_low.nd (pd_op op_sub os_sub (pp_of (pd_int)) (pk 2)))) (dss_nil))
    (dss_one (ds_ret (pf_of (pd_tup (pfs_cons (pf_of (pd_op (op_divA bg (hr.mono (by decide))) os_div (pk 0) (pk 2))) (pfs_cons (pf_of (pd_op (op_divA bg (hr.mono (by decide))) os_div (pk 1) (pk 2))) (pfs_nil))))))))
theorem d_staying (B : Bl mg) (df : Df K mg "staying" s_staying ["state"]) : Cl PySem.Challenge.pw_anycompany_k15_steady_throw_pay_row w K mg base S 41 "staying" 1 f_staying := by
  refine cl_of (k := 40) df sc_staying fun f cdv A outer s H E F0 H0 hr tk po => ?_
  exact dss_one (ds_ret (pf_of (pd_tup (pfs_cons (pf_of (pd_tup (pfs_cons (pf_of (nm 0)) (pfs_cons (pf_of (pd_tup (pfs_cons (pf_of (pd_int)) (pfs_cons (pf_of (pd_int)) (pfs_nil))))) (pfs_nil))))) (pfs_nil)))))
theorem d_steady (B : Bl mg) (df : Df K mg "steady" s_steady ["reward"]) (c_staying : Cl PySem.Challenge.pw_anycompany_k15_steady_throw_pay_row w K mg base S 41 "staying" 1 f_staying) : Cl PySem.Challenge.pw_anycompany_k15_steady_throw_pay_row w K mg base S 42 "steady" 1 f_steady := by
  refine cl_of (k := 41) df sc_steady fun f cdv A outer s H E F0 H0 hr tk po => ?_
  exact dss_one (ds_ret (pf_of (pd_tup (pfs_cons (pf_of (pd_tup (pfs_cons (pf_of (nm 0)) (pfs_nil)))) (pfs_cons (pf_of (pd_tup (pfs_cons (pf_of (cl c_staying hr (by decide) tk (pfs_cons (pf_of (pd_int)) (pfs_nil)))) (pfs_nil)))) (pfs_nil))))))
theorem d_u_law_same (B : Bl mg) (df : Df K mg "_law_same" s_u_law_same ["actual", "due"]) {k : Nat} (hk : 40 ≤ k) {f_u_law_same : List D → FR} (c_u_law_same : Cl PySem.Challenge.pw_anycompany_k15_steady_throw_pay_row w K mg base S k "_law_same" 2 f_u_law_same) : Cl PySem.Challenge.pw_anycompany_k15_steady_throw_pay_row w K mg base S (k + 1) "_law_same" 2 (runF 3 (g_u_law_same f_u_law_same)) := by
  refine cl_of df sc_u_law_same fun f cdv A outer s H E F0 H0 hr tk po => ?_
  exact dss_cons (ds_if (cpB op_isN os_is (pk 1) (pp_of (pd_non))) (dss_one (ds_ret (pf_of (cp op_isN os_is (pk 0) (pp_of (pd_non)))))) (dss_nil))
    (dss_cons (ds_if (pb_of (b_isi B (pps_cons (pk 1) (pps_cons (pp_of (ty_bool B)) (pps_nil))))) (dss_one (ds_ret (pf_of (pd_and (b_isi B (pps_cons (pk 0) (pps_cons (pp_of (ty_bool B)) (pps_nil)))) (pd_one (cp op_eq os_eq (pk 0) (pk 1))))))) (dss_nil))
    (dss_cons (ds_if (pb_of (b_isi B (pps_cons (pk 1) (pps_cons (pp_of (ty_int B)) (pps_nil))))) (dss_one (ds_ret (pf_of (pd_and (b_isi B (pps_cons (pk 0) (pps_cons (pp_of (ty_int B)) (pps_nil)))) (pd_and (pd_not (b_isi B (pps_cons (pk 0) (pps_cons (pp_of (ty_bool B)) (pps_nil))))) (pd_one (cp op_eq os_eq (pk 0) (pk 1)))))))) (dss_nil))
    (dss_cons (ds_if (pb_of (b_isi B (pps_cons (pk 1) (pps_cons (pp_of (ty_str B)) (pps_nil))))) (dss_one (ds_ret (pf_of (pd_and (b_isi B (pps_cons (pk 0) (pps_cons (pp_of (ty_str B)) (pps_nil)))) (pd_one (cp op_eq os_eq (pk 0) (pk 1))))))) (dss_nil))
    (dss_cons (ds_if (pb_of (b_isi B (pps_cons (pk 1) (pps_cons (pp_of (ty_list B)) (pps_nil))))) (dss_one (ds_if (pb_pw (pwb_or (pb_not (pb_of (b_isi B (pps_cons (pk 0) (pps_cons (pp_of (ty_list B)) (pps_nil)))))) (pwb_or1 (cpB op_ne os_ne (pp_of (b_len B (pps_cons (pk 0) (pps_nil)))) (pp_of (b_len B (pps_cons (pk 1) (pps_nil)))))))) (dss_one (ds_ret (pf_of (pd_bl)))) (dss_nil))) (dss_one (ds_if (pb_pw (pwb_or (pb_not (pb_of (b_isi B (pps_cons (pk 0) (pps_cons (pp_of (ty_tuple B)) (pps_nil)))))) (pwb_or1 (cpB op_ne os_ne (pp_of (b_len B (pps_cons (pk 0) (pps_nil)))) (pp_of (b_len B (pps_cons (pk 1) (pps_nil)))))))) (dss_one (ds_ret (pf_of (pd_bl)))) (dss_nil))))
    (dss_one (ds_ret (pf_of (b_all B (pps_cons (pp_of (pd_lc (own := [("k", 2)]) (js := [2]) rfl sc_u_law_same.nd (y_rng1 B (pps_cons (pp_of (b_len B (pps_cons (pk 1) (pps_nil)))) (pps_nil))) (blkOk_by (N := N_u_law_same) (sc := defScope s_u_law_same) (by decide +kernel)) (by decide) (fun _ _ _ _ _ => tg 2 sc_u_law_same.nd) (fun _ _ _ _ _ => pts_yes) (fun _ _ _ _ _ => pf_of (cl c_u_law_same hr (Nat.le_refl _) tk0 (pfs_cons (pf_of (ix (pk 0) (pk 2))) (pfs_cons (pf_of (ix (pk 1) (pk 2))) (pfs_nil))))))) (pps_nil)) rfl))))))))
theorem d_compare (B : Bl mg) (df : Df K mg "compare" s_compare ["a", "b"]) : Cl PySem.Challenge.pw_anycompany_k15_steady_throw_pay_row w K mg base S 41 "compare" 2 f_compare := by
  refine cl_of (k := 40) df sc_compare fun f cdv A outer s H E F0 H0 hr tk po => ?_
  exact dss_cons (st_set 2 sc_compare.nd (pd_op op_mulA os_mul (pp_of (ix (pk 0) (pp_of (pd_int)))) (pp_of (ix (pk 1) (pp_of (pd_int))))))
    (dss_cons (st_set 3 sc_compare.nd (pd_op op_mulA os_mul (pp_of (ix (pk 1) (pp_of (pd_int)))) (pp_of (ix (pk 0) (pp_of (pd_int))))))
    (dss_cons (ds_if (cpB op_lt os_lt (pk 2) (pk 3)) (dss_one (ds_ret (pf_of (pd_un un_neg us_neg (pp_of (pd_int)))))) (dss_nil))
    (dss_cons (ds_if (cpB op_gt os_gt (pk 2) (pk 3)) (dss_one (ds_ret (pf_of (pd_int)))) (dss_nil))
    (dss_one (ds_ret (pf_of (pd_int)))))))
theorem d_make_ratio (B : Bl mg) (mgcd : mg "gcd" = some (.builtin "math.gcd")) (seer : base.NoSeer) (df : Df K mg "make_ratio" s_make_ratio ["n", "d"]) : Cl PySem.Challenge.pw_anycompany_k15_steady_throw_pay_row w K mg base S 41 "make_ratio" 2 f_make_ratio := by
  refine cl_of (k := 40) df sc_make_ratio fun f cdv A outer s H E F0 H0 hr tk po => ?_
  have bg := big_of (CX := L2N.CX PySem.Challenge.pw_anycompany_k15_steady_throw_pay_row w) (P := PySem.Challenge.pw_anycompany_k15_steady_throw_pay_row) (w := w) (K := K) (mg := mg) (f := f) (cdv := cdv) (A := A) (outer := outer) (s := s) (H := H) (E := E) (qual := "make_ratio") seer rfl sc_make_ratio
  exact dss_cons (ds_if (cpB op_eq os_eq (pk 1) (pp_of (pd_int))) (dss_one (ds_never)) (dss_nil))
    (dss_cons (st_set 2 sc_make_ratio.nd (b_gcd mgcd (pps_cons (pk 0) (pps_cons (pk 1) (pps_nil)))))
    (dss_cons (ds_if (cpB op_lt os_lt (pk 1) (pp_of (pd_int))) (dss_one (st_set 2 sc_make_ratio.nd (pd_un un_neg us_neg (pk 2)))) (dss_nil))
    (dss_one (ds_ret (pf_of (pd_tup (pfs_cons (pf_of (pd_op (op_divA bg (hr.mono (by decide))) os_div (pk 0) (pk 2))) (pfs_cons (pf_of (pd_op (op_divA bg (hr.mono (by decide))) os_div (pk 1) (pk 2))) (pfs_nil)))))))))
theorem d_add (B : Bl mg) (df : Df K mg "add" s_add ["a", "b"]) (c_make_ratio : Cl PySem.Challenge.pw_anycompany_k15_steady_throw_pay_row w K mg base S 41 "make_ratio" 2 f_make_ratio) : Cl PySem.Challenge.pw_anycompany_k15_steady_throw_pay_row w K mg base S 42 "add" 2 f_add := by
  refine cl_of (k := 41) df sc_add fun f cdv A outer s H E F0 H0 hr tk po => ?_
  exact dss_one (ds_ret (pf_of (cl c_make_ratio hr (by decide) tk (pfs_cons (pf_of (pd_op op_addA os_add (pp_of (pd_op op_mulA os_mul (pp_of (ix (pk 0) (pp_of (pd_int)))) (pp_of (ix (pk 1) (pp_of (pd_int)))))) (pp_of (pd_op op_mulA os_mul (pp_of (ix (pk 1) (pp_of (pd_int)))) (pp_of (ix (pk 0) (pp_of (pd_int)))))))) (pfs_cons (pf_of (pd_op op_mulA os_mul (pp_of (ix (pk 0) (pp_of (pd_int)))) (pp_of (ix (pk 1) (pp_of (pd_int)))))) (pfs_nil))))))
theorem d_total (B : Bl mg) (df : Df K mg "total" s_total ["values"]) (c_add : Cl PySem.Challenge.pw_anycompany_k15_steady_throw_pay_row w K mg base S 42 "add" 2 f_add) : Cl PySem.Challenge.pw_anycompany_k15_steady_throw_pay_row w K mg base S 43 "total" 1 f_total := by
  refine cl_of (k := 42) df sc_total fun f cdv A outer s H E F0 H0 hr tk po => ?_
  exact dss_cons (st_set 1 sc_total.nd (pd_tup (pfs_cons (pf_of (pd_int)) (pfs_cons (pf_of (pd_int)) (pfs_nil)))))
    (dss_cons (ds_for po rfl (py_seq (pf_of (nm 0))) (tg 2 sc_total.nd) (dss_one (st_set 1 sc_total.nd (cl c_add hr (by decide) tk (pfs_cons (pf_of (nm 1)) (pfs_cons (pf_of (nm 2)) (pfs_nil)))))))
    (dss_one (ds_ret (pf_of (nm 1)))))
theorem d_made_row (B : Bl mg) (df : Df K mg "made_row" s_made_row ["pairs", "state", "size"]) (c_compare : Cl PySem.Challenge.pw_anycompany_k15_steady_throw_pay_row w K mg base S 41 "compare" 2 f_compare) (c_add : Cl PySem.Challenge.pw_anycompany_k15_steady_throw_pay_row w K mg base S 42 "add" 2 f_add) (c_total : Cl PySem.Challenge.pw_anycompany_k15_steady_throw_pay_row w K mg base S 43 "total" 1 f_total) : Cl PySem.Challenge.pw_anycompany_k15_steady_throw_pay_row w K mg base S 44 "made_row" 3 f_made_row := by
  refine cl_of (k := 43) df sc_made_row fun f cdv A outer s H E F0 H0 hr tk po => ?_
  exact dss_cons (st_set 3 sc_made_row.nd (pd_dn))
    (dss_cons (ds_for po rfl (py_seq (pf_of (nm 0))) (pgd_tup rfl (pgds_cons (tg 4 sc_made_row.nd) (pgds_cons (tg 5 sc_made_row.nd) (pgds_nil)))) (dss_cons (ds_if (pb_pw (pwb_or (cpB op_lt os_lt (pk 4) (pp_of (pd_int))) (pwb_or1 (cpB op_ge os_ge (pk 4) (pk 2))))) (dss_one (ds_never)) (dss_nil))
    (dss_cons (ds_if (cpB op_lt os_lt (pp_of (cl c_compare hr (by decide) tk (pfs_cons (pf_of (nm 5)) (pfs_cons (pf_of (pd_tup (pfs_cons (pf_of (pd_int)) (pfs_cons (pf_of (pd_int)) (pfs_nil))))) (pfs_nil))))) (pp_of (pd_int))) (dss_one (ds_never)) (dss_nil))
    (dss_one (ds_putK (ps_dput (room_u hr) (pv 3) (pk 4) (pf_of (cl c_add hr (by decide) tk (pfs_cons (pf_of (pd_get hr (pk 3) (pk 4) (pf_of (pd_tup (pfs_cons (pf_of (pd_int)) (pfs_cons (pf_of (pd_int)) (pfs_nil))))))) (pfs_cons (pf_of (nm 5)) (pfs_nil))))) rfl))))))
    (dss_cons (ds_if (pb_neP hr (pp_of (cl c_total hr (by decide) tk (pfs_cons (pf_of (pd_vals B rfl (pk 3))) (pfs_nil)))) (pp_of (pd_tup (pfs_cons (pf_of (pd_int)) (pfs_cons (pf_of (pd_int)) (pfs_nil)))))) (dss_one (ds_never)) (dss_nil))
    (dss_one (ds_ret (pf_of (b_tuple B (pps_cons (pp_of (pd_lc (own := [("target", 4)]) (js := [4]) rfl sc_made_row.nd (py_seq (pf_of (b_sort B (pps_cons (pp_of (b_keys B (pps_cons (pk 3) (pps_nil)) rfl)) (pps_nil))))) (blkOk_by (N := N_made_row) (sc := defScope s_made_row) (by decide +kernel)) (by decide) (fun _ _ _ _ _ => tg 4 sc_made_row.nd) (fun _ _ _ _ _ => pts_if (pb_neP hr (pp_of (pd_getK hr (pk 3) (pk 4))) (pp_of (pd_tup (pfs_cons (pf_of (pd_int)) (pfs_cons (pf_of (pd_int)) (pfs_nil))))))) (fun _ _ _ _ _ => pf_of (pd_tup (pfs_cons (pf_of (nm 4)) (pfs_cons (pf_of (pd_getK hr (pk 3) (pk 4))) (pfs_nil))))))) (pps_nil))))))))
theorem d_make_game (B : Bl mg) (df : Df K mg "make_game" s_make_game ["rewards", "moves"]) (c_made_row : Cl PySem.Challenge.pw_anycompany_k15_steady_throw_pay_row w K mg base S 44 "made_row" 3 f_made_row) : Cl PySem.Challenge.pw_anycompany_k15_steady_throw_pay_row w K mg base S 45 "make_game" 2 f_make_game := by
  refine cl_of (k := 44) df sc_make_game fun f cdv A outer s H E F0 H0 hr tk po => ?_
  exact dss_cons (st_set 2 sc_make_game.nd (b_len B (pps_cons (pk 0) (pps_nil))))
    (dss_cons (ds_if (cpB op_eq os_eq (pk 2) (pp_of (pd_int))) (dss_one (ds_never)) (dss_nil))
    (dss_cons (ds_if (cpB op_ne os_ne (pp_of (b_len B (pps_cons (pk 1) (pps_nil)))) (pk 2)) (dss_one (ds_never)) (dss_nil))
    (dss_cons (ds_setLc (i := 3) (own := [("state", 4)]) (js := [4]) rfl sc_make_game.nd rfl rfl (sw_true rfl rfl rfl (by decide +kernel)) (y_rng1 B (pps_cons (pk 2) (pps_nil))) (blkOk_by (N := N_make_game) (sc := defScope s_make_game) (by decide +kernel)) (by decide) (fun _ _ _ _ _ => tg 4 sc_make_game.nd) (fun _ _ _ _ _ => pts_yes) (fun _ _ _ _ _ => pf_of (cl c_made_row hr (by decide) tk0 (pfs_cons (pf_of (ix (pk 1) (pk 4))) (pfs_cons (pf_of (nm 4)) (pfs_cons (pf_of (nm 2)) (pfs_nil)))))))
    (dss_one (ds_ret (pf_of (pd_tup (pfs_cons (pf_of (b_tuple B (pps_cons (pk 0) (pps_nil)))) (pfs_cons (pf_of (b_tuple B (pps_cons (pk 3) (pps_nil)))) (pfs_nil))))))))))
theorem d_u_law_is_game (B : Bl mg) (df : Df K mg "_law_is_game" s_u_law_is_game ["actual", "due"]) (c_u_law_same : Cl PySem.Challenge.pw_anycompany_k15_steady_throw_pay_row w K mg base S 48 "_law_same" 2 f_u_law_same) (c_make_game : Cl PySem.Challenge.pw_anycompany_k15_steady_throw_pay_row w K mg base S 45 "make_game" 2 f_make_game) : Cl PySem.Challenge.pw_anycompany_k15_steady_throw_pay_row w K mg base S 49 "_law_is_game" 2 f_u_law_is_game := by
  refine cl_of (k := 48) df sc_u_law_is_game fun f cdv A outer s H E F0 H0 hr tk po => ?_
  exact dss_one (ds_ret (pf_of (pd_and (cl c_u_law_same hr (by decide) tk (pfs_cons (pf_of (nm 0)) (pfs_cons (pf_of (nm 1)) (pfs_nil)))) (pd_one (cl c_u_law_same hr (by decide) tk (pfs_cons (pf_of (cl c_make_game hr (by decide) tk (pfs_cons (pf_of (ix (pk 0) (pp_of (pd_int)))) (pfs_cons (pf_of (ix (pk 0) (pp_of (pd_int)))) (pfs_nil))))) (pfs_cons (pf_of (nm 1)) (pfs_nil))))))))
theorem d_u_law_draws (B : Bl mg) (seer : base.NoSeer) (df : Df K mg "_law_draws" s_u_law_draws ["cell", "count"]) : Cl PySem.Challenge.pw_anycompany_k15_steady_throw_pay_row w K mg base S 41 "_law_draws" 2 f_u_law_draws := by
  refine cl_of (k := 40) df sc_u_law_draws fun f cdv A outer s H E F0 H0 hr tk po => ?_
  have bg := big_of (CX := L2N.CX PySem.Challenge.pw_anycompany_k15_steady_throw_pay_row w) (P := PySem.Challenge.pw_anycompany_k15_steady_throw_pay_row) (w := w) (K := K) (mg := mg) (f := f) (cdv := cdv) (A := A) (outer := outer) (s := s) (H := H) (E := E) (qual := "_law_draws") seer rfl sc_u_law_draws
  exact dss_cons (st_set 2 sc_u_law_draws.nd (b_abs B (pps_cons (pp_of (b_int B (pps_cons (pk 0) (pps_nil)))) (pps_nil))))
    (dss_cons (st_set 3 sc_u_law_draws.nd (cp op_ge os_ge (pk 2) (pp_of (pd_op op_pow os_pow (pp_of (pd_int)) (pp_of (pd_int))))))
    (dss_cons (st_set 4 sc_u_law_draws.nd (nm 2))
    (dss_cons (st_set 5 sc_u_law_draws.nd (pd_lst (pfs_nil)))
    (dss_cons (ds_for po rfl (y_rng1 B (pps_cons (pk 1) (pps_nil))) (tg 6 sc_u_law_draws.nd) (dss_one (ds_if (pb_pw (pwb_and (pb_of (nm 3)) (pwb_and1 (cpB op_gt os_gt (pk 2) (pp_of (pd_int)))))) (dss_cons (ds_app (ps_expr (pe_bm PySem.F.plainAttrs_list PySem.F.slot_list_append PySem.F.type_list_append mt_append (pv 5) (pa_cons (pf_of (pd_op op_modN os_mod (pp_of (b_int B (pps_cons (pk 2) (pps_nil)))) (pp_of (pd_int)))) pa_nil))))
    (dss_one (st_set 2 sc_u_law_draws.nd (pd_op (op_divA bg (hr.mono (by decide))) os_div (pk 2) (pp_of (pd_int)))))) (dss_cons (st_set 7 sc_u_law_draws.nd (pd_op op_modN os_mod (pp_of (b_int B (pps_cons (pp_of (pd_op op_addA os_add (pp_of (pd_op op_addA os_add (pp_of (pd_op op_mulA os_mul (pk 4) (pp_of (pd_int)))) (pp_of (pd_op op_mulA os_mul (pp_of (pd_op op_addA os_add (pk 6) (pp_of (pd_int)))) (pp_of (pd_int)))))) (pp_of (pd_int)))) (pps_nil)))) (pp_of (pd_int))))
    (dss_cons (st_set 7 sc_u_law_draws.nd (pd_op op_modN os_mod (pp_of (b_int B (pps_cons (pp_of (pd_op op_addA os_add (pp_of (pd_op op_mulA os_mul (pk 7) (pk 7))) (pp_of (pd_op op_mulA os_mul (pp_of (pd_int)) (pp_of (pd_op op_addA os_add (pk 6) (pp_of (pd_int)))))))) (pps_nil)))) (pp_of (pd_int))))
    (dss_one (ds_app (ps_expr (pe_bm PySem.F.plainAttrs_list PySem.F.slot_list_append PySem.F.type_list_append mt_append (pv 5) (pa_cons (pf_of (pd_op op_modN os_mod (pp_of (b_int B (pps_cons (pp_of (pd_op (op_divA bg (hr.mono (by decide))) os_div (pk 7) (pp_of (pd_int)))) (pps_nil)))) (pp_of (pd_int)))) pa_nil))))))))))
    (dss_one (ds_ret (pf_of (nm 5))))))))
theorem d_u_law_fraction (B : Bl mg) (seer : base.NoSeer) (df : Df K mg "_law_fraction" s_u_law_fraction ["draw"]) (c_u_law_low : Cl PySem.Challenge.pw_anycompany_k15_steady_throw_pay_row w K mg base S 42 "_law_low" 2 f_u_law_low) : Cl PySem.Challenge.pw_anycompany_k15_steady_throw_pay_row w K mg base S 43 "_law_fraction" 1 f_u_law_fraction := by
  refine cl_of (k := 42) df sc_u_law_fraction fun f cdv A outer s H E F0 H0 hr tk po => ?_
  have bg := big_of (CX := L2N.CX PySem.Challenge.pw_anycompany_k15_steady_throw_pay_row w) (P := PySem.Challenge.pw_anycompany_k15_steady_throw_pay_row) (w := w) (K := K) (mg := mg) (f := f) (cdv := cdv) (A := A) (outer := outer) (s := s) (H := H) (E := E) (qual := "_law_fraction") seer rfl sc_u_law_fraction
  exact dss_one (ds_ret (pf_of (cl c_u_law_low hr (by decide) tk (pfs_cons (pf_of (pd_op op_sub os_sub (pp_of (pd_op op_modN os_mod (pp_of (b_int B (pps_cons (pk 0) (pps_nil)))) (pp_of (pd_int)))) (pp_of (pd_int)))) (pfs_cons (pf_of (pd_op op_addA os_add (pp_of (pd_int)) (pp_of (pd_op op_modN os_mod (pp_of (pd_op (op_divA bg (hr.mono (by decide))) os_div (pp_of (b_int B (pps_cons (pk 0) (pps_nil)))) (pp_of (pd_int)))) (pp_of (pd_int)))))) (pfs_nil))))))
theorem d_throw (B : Bl mg) (df : Df K mg "throw" s_throw ["reward", "outcomes"]) (c_staying : Cl PySem.Challenge.pw_anycompany_k15_steady_throw_pay_row w K mg base S 41 "staying" 1 f_staying) : Cl PySem.Challenge.pw_anycompany_k15_steady_throw_pay_row w K mg base S 42 "throw" 2 f_throw := by
  refine cl_of (k := 41) df sc_throw fun f cdv A outer s H E F0 H0 hr tk po => ?_
  exact dss_cons (st_set 2 sc_throw.nd (pd_lst (pfs_cons (pf_of (nm 0)) (pfs_nil))))
    (dss_cons (st_set 3 sc_throw.nd (pd_lst (pfs_nil)))
    (dss_cons (st_set 4 sc_throw.nd (pd_lst (pfs_nil)))
    (dss_cons (ds_for po rfl (py_seq (pf_of (nm 1))) (pgd_tup rfl (pgds_cons (tg 5 sc_throw.nd) (pgds_cons (tg 6 sc_throw.nd) (pgds_nil)))) (dss_cons (st_set 7 sc_throw.nd (b_len B (pps_cons (pk 2) (pps_nil))))
    (dss_cons (ds_app (ps_expr (pe_bm PySem.F.plainAttrs_list PySem.F.slot_list_append PySem.F.type_list_append mt_append (pv 2) (pa_cons (pf_of (nm 6)) pa_nil))))
    (dss_cons (ds_app (ps_expr (pe_bm PySem.F.plainAttrs_list PySem.F.slot_list_append PySem.F.type_list_append mt_append (pv 3) (pa_cons (pf_of (pd_tup (pfs_cons (pf_of (nm 7)) (pfs_cons (pf_of (nm 5)) (pfs_nil))))) pa_nil))))
    (dss_one (ds_app (ps_expr (pe_bm PySem.F.plainAttrs_list PySem.F.slot_list_append PySem.F.type_list_append mt_append (pv 4) (pa_cons (pf_of (cl c_staying hr (by decide) tk (pfs_cons (pf_of (nm 7)) (pfs_nil)))) pa_nil)))))))))
    (dss_one (ds_ret (pf_of (pd_tup (pfs_cons (pf_of (b_tuple B (pps_cons (pk 2) (pps_nil)))) (pfs_cons (pf_of (b_tuple B (pps_cons (pp_of (pd_op op_addA os_add (pp_of (pd_lst (pfs_cons (pf_of (b_tuple B (pps_cons (pk 3) (pps_nil)))) (pfs_nil)))) (pk 4))) (pps_nil)))) (pfs_nil))))))))))
theorem d_pay_row (B : Bl mg) (df : Df K mg "pay_row" s_pay_row ["rewards", "back"]) : Cl PySem.Challenge.pw_anycompany_k15_steady_throw_pay_row w K mg base S 41 "pay_row" 2 f_pay_row := by
  refine cl_of (k := 40) df sc_pay_row fun f cdv A outer s H E F0 H0 hr tk po => ?_
  exact dss_cons (st_set 2 sc_pay_row.nd (b_len B (pps_cons (pk 0) (pps_nil))))
    (dss_cons (st_set 3 sc_pay_row.nd (pd_op op_addA os_add (pp_of (pd_lc (own := [("k", 4)]) (js := [4]) rfl sc_pay_row.nd (y_rng1 B (pps_cons (pp_of (pd_op op_sub os_sub (pk 2) (pp_of (pd_int)))) (pps_nil))) (blkOk_by (N := N_pay_row) (sc := defScope s_pay_row) (by decide +kernel)) (by decide) (fun _ _ _ _ _ => tg 4 sc_pay_row.nd) (fun _ _ _ _ _ => pts_yes) (fun _ _ _ _ _ => pf_of (pd_op op_addA os_add (pk 4) (pp_of (pd_int)))))) (pp_of (pd_lst (pfs_cons (pf_of (nm 1)) (pfs_nil))))))
    (dss_one (ds_ret (pf_of (pd_tup (pfs_cons (pf_of (b_tuple B (pps_cons (pk 0) (pps_nil)))) (pfs_cons (pf_of (b_tuple B (pps_cons (pp_of (pd_lc (own := [("target", 5)]) (js := [5]) rfl sc_pay_row.nd (py_seq (pf_of (nm 3))) (blkOk_by (N := N_pay_row) (sc := defScope s_pay_row) (by decide +kernel)) (by decide) (fun _ _ _ _ _ => tg 5 sc_pay_row.nd) (fun _ _ _ _ _ => pts_yes) (fun _ _ _ _ _ => pf_of (pd_tup (pfs_cons (pf_of (pd_tup (pfs_cons (pf_of (nm 5)) (pfs_cons (pf_of (pd_tup (pfs_cons (pf_of (pd_int)) (pfs_cons (pf_of (pd_int)) (pfs_nil))))) (pfs_nil))))) (pfs_nil)))))) (pps_nil)))) (pfs_nil))))))))
theorem d_law (B : Bl mg) (seer : base.NoSeer) {f : Addr} {fd : FuncData} (fn : Fun K "law" "law" s_law f fd) (c_u_law_cell : Cl PySem.Challenge.pw_anycompany_k15_steady_throw_pay_row w K mg base S 41 "_law_cell" 2 f_u_law_cell) (c_u_law_low : Cl PySem.Challenge.pw_anycompany_k15_steady_throw_pay_row w K mg base S 42 "_law_low" 2 f_u_law_low) (c_steady : Cl PySem.Challenge.pw_anycompany_k15_steady_throw_pay_row w K mg base S 42 "steady" 1 f_steady) (c_u_law_is_game : Cl PySem.Challenge.pw_anycompany_k15_steady_throw_pay_row w K mg base S 49 "_law_is_game" 2 f_u_law_is_game) (c_u_law_draws : Cl PySem.Challenge.pw_anycompany_k15_steady_throw_pay_row w K mg base S 41 "_law_draws" 2 f_u_law_draws) (c_u_law_fraction : Cl PySem.Challenge.pw_anycompany_k15_steady_throw_pay_row w K mg base S 43 "_law_fraction" 1 f_u_law_fraction) (c_throw : Cl PySem.Challenge.pw_anycompany_k15_steady_throw_pay_row w K mg base S 42 "throw" 2 f_throw) (c_pay_row : Cl PySem.Challenge.pw_anycompany_k15_steady_throw_pay_row w K mg base S 41 "pay_row" 2 f_pay_row) : FnOk PySem.Challenge.pw_anycompany_k15_steady_throw_pay_row w K mg base (L2N.CX PySem.Challenge.pw_anycompany_k15_steady_throw_pay_row w) 50 f fd ["script"] (spF K S 1 f_law) := by
  refine fn_body (k := 49) fn sc_law fun cdv A outer s H E F0 H0 hr tk po => ?_
  have bg := big_of (CX := L2N.CX PySem.Challenge.pw_anycompany_k15_steady_throw_pay_row w) (P := PySem.Challenge.pw_anycompany_k15_steady_throw_pay_row) (w := w) (K := K) (mg := mg) (f := f) (cdv := cdv) (A := A) (outer := outer) (s := s) (H := H) (E := E) (qual := "law") seer rfl sc_law
  exact dss_cons (st_set 1 sc_law.nd (cl c_u_law_cell hr (by decide) tk (pfs_cons (pf_of (nm 0)) (pfs_cons (pf_of (pd_int)) (pfs_nil)))))
    (dss_cons (st_set 2 sc_law.nd (cl c_u_law_low hr (by decide) tk (pfs_cons (pf_of (nm 1)) (pfs_cons (pf_of (pd_op op_addA os_add (pp_of (pd_int)) (pp_of (pd_op op_modN os_mod (pp_of (b_int B (pps_cons (pp_of (pd_op (op_divA bg (hr.mono (by decide))) os_div (pk 1) (pp_of (pd_int)))) (pps_nil)))) (pp_of (pd_int)))))) (pfs_nil)))))
    (dss_cons (ds_if (pb_not (pb_of (cl c_u_law_is_game hr (by decide) tk (pfs_cons (pf_of (cl c_steady hr (by decide) tk (pfs_cons (pf_of (nm 2)) (pfs_nil)))) (pfs_cons (pf_of (pd_tup (pfs_cons (pf_of (pd_tup (pfs_cons (pf_of (nm 2)) (pfs_nil)))) (pfs_cons (pf_of (pd_tup (pfs_cons (pf_of (pd_tup (pfs_cons (pf_of (pd_tup (pfs_cons (pf_of (pd_int)) (pfs_cons (pf_of (pd_tup (pfs_cons (pf_of (pd_int)) (pfs_cons (pf_of (pd_int)) (pfs_nil))))) (pfs_nil))))) (pfs_nil)))) (pfs_nil)))) (pfs_nil))))) (pfs_nil)))))) (dss_one (ds_ret (pf_of (pd_bl)))) (dss_nil))
    (dss_cons (st_set 3 sc_law.nd (b_min B (pps_cons (pp_of (pd_int)) (pps_cons (pp_of (b_max B (pps_cons (pp_of (pd_int)) (pps_cons (pp_of (pd_op op_sub os_sub (pp_of (b_len B (pps_cons (pk 0) (pps_nil)))) (pp_of (pd_int)))) (pps_nil))) rfl)) (pps_nil))) rfl))
    (dss_cons (st_set 4 sc_law.nd (pd_lc (own := [("k", 10)]) (js := [10]) rfl sc_law.nd (y_rng1 B (pps_cons (pk 3) (pps_nil))) (blkOk_by (N := N_law) (sc := defScope s_law) (by decide +kernel)) (by decide) (fun _ _ _ _ _ => tg 10 sc_law.nd) (fun _ _ _ _ _ => pts_yes) (fun _ _ _ _ _ => pf_of (cl c_u_law_draws hr (by decide) tk0 (pfs_cons (pf_of (cl c_u_law_cell hr (by decide) tk0 (pfs_cons (pf_of (nm 0)) (pfs_cons (pf_of (pd_op op_addA os_add (pp_of (pd_int)) (pk 10))) (pfs_nil))))) (pfs_cons (pf_of (pd_int)) (pfs_nil)))))))
    (dss_cons (st_set 5 sc_law.nd (pd_lc (own := [("k", 10)]) (js := [10]) rfl sc_law.nd (y_rng1 B (pps_cons (pk 3) (pps_nil))) (blkOk_by (N := N_law) (sc := defScope s_law) (by decide +kernel)) (by decide) (fun _ _ _ _ _ => tg 10 sc_law.nd) (fun _ _ _ _ _ => pts_yes) (fun _ _ _ _ _ => pf_of (pd_op op_addA os_add (pp_of (pd_int)) (pp_of (pd_op op_modN os_mod (pp_of (b_int B (pps_cons (pp_of (ix (pp_of (ix (pk 4) (pk 10))) (pp_of (pd_int)))) (pps_nil)))) (pp_of (pd_int))))))))
    (dss_cons (st_set 6 sc_law.nd (b_sum B (pps_cons (pk 5) (pps_nil)) rfl))
    (dss_cons (st_set 7 sc_law.nd (pd_lc (own := [("k", 10)]) (js := [10]) rfl sc_law.nd (y_rng1 B (pps_cons (pk 3) (pps_nil))) (blkOk_by (N := N_law) (sc := defScope s_law) (by decide +kernel)) (by decide) (fun _ _ _ _ _ => tg 10 sc_law.nd) (fun _ _ _ _ _ => pts_yes) (fun _ _ _ _ _ => pf_of (cl c_u_law_fraction hr (by decide) tk0 (pfs_cons (pf_of (ix (pp_of (ix (pk 4) (pk 10))) (pp_of (pd_int)))) (pfs_nil))))))
    (dss_cons (st_set 8 sc_law.nd (b_tuple B (pps_cons (pp_of (pd_lc (own := [("k", 10)]) (js := [10]) rfl sc_law.nd (y_rng1 B (pps_cons (pk 3) (pps_nil))) (blkOk_by (N := N_law) (sc := defScope s_law) (by decide +kernel)) (by decide) (fun _ _ _ _ _ => tg 10 sc_law.nd) (fun _ _ _ _ _ => pts_yes) (fun _ _ _ _ _ => pf_of (pd_tup (pfs_cons (pf_of (cl c_u_law_low hr (by decide) tk0 (pfs_cons (pf_of (ix (pk 5) (pk 10))) (pfs_cons (pf_of (nm 6)) (pfs_nil))))) (pfs_cons (pf_of (ix (pk 7) (pk 10))) (pfs_nil))))))) (pps_nil))))
    (dss_cons (st_set 9 sc_law.nd (pd_lst (pfs_cons (pf_of (b_tuple B (pps_cons (pp_of (pd_lc (own := [("k", 10)]) (js := [10]) rfl sc_law.nd (y_rng1 B (pps_cons (pk 3) (pps_nil))) (blkOk_by (N := N_law) (sc := defScope s_law) (by decide +kernel)) (by decide) (fun _ _ _ _ _ => tg 10 sc_law.nd) (fun _ _ _ _ _ => pts_yes) (fun _ _ _ _ _ => pf_of (pd_tup (pfs_cons (pf_of (pd_op op_addA os_add (pk 10) (pp_of (pd_int)))) (pfs_cons (pf_of (ix (pp_of (ix (pk 8) (pk 10))) (pp_of (pd_int)))) (pfs_nil))))))) (pps_nil)))) (pfs_nil))))
    (dss_cons (ds_for po rfl (y_rng1 B (pps_cons (pk 3) (pps_nil))) (tg 10 sc_law.nd) (dss_one (ds_app (ps_expr (pe_bm PySem.F.plainAttrs_list PySem.F.slot_list_append PySem.F.type_list_append mt_append (pv 9) (pa_cons (pf_of (pd_tup (pfs_cons (pf_of (pd_tup (pfs_cons (pf_of (pd_op op_addA os_add (pk 10) (pp_of (pd_int)))) (pfs_cons (pf_of (pd_tup (pfs_cons (pf_of (pd_int)) (pfs_cons (pf_of (pd_int)) (pfs_nil))))) (pfs_nil))))) (pfs_nil)))) pa_nil))))))
    (dss_cons (ds_if (pb_not (pb_of (cl c_u_law_is_game hr (by decide) tk (pfs_cons (pf_of (cl c_throw hr (by decide) tk (pfs_cons (pf_of (nm 2)) (pfs_cons (pf_of (nm 8)) (pfs_nil))))) (pfs_cons (pf_of (pd_tup (pfs_cons (pf_of (b_tuple B (pps_cons (pp_of (pd_op op_addA os_add (pp_of (pd_lst (pfs_cons (pf_of (nm 2)) (pfs_nil)))) (pk 7))) (pps_nil)))) (pfs_cons (pf_of (b_tuple B (pps_cons (pk 9) (pps_nil)))) (pfs_nil))))) (pfs_nil)))))) (dss_one (ds_ret (pf_of (pd_bl)))) (dss_nil))
    (dss_cons (st_set 11 sc_law.nd (pd_op op_modN os_mod (pp_of (b_int B (pps_cons (pp_of (ix (pp_of (ix (pk 4) (pp_of (pd_int)))) (pp_of (pd_int)))) (pps_nil)))) (pk 3)))
    (dss_cons (ds_setLc (i := 9) (own := [("k", 10)]) (js := [10]) rfl sc_law.nd rfl rfl (sw_true rfl rfl rfl (by decide +kernel)) (y_rng1 B (pps_cons (pp_of (pd_op op_sub os_sub (pk 3) (pp_of (pd_int)))) (pps_nil))) (blkOk_by (N := N_law) (sc := defScope s_law) (by decide +kernel)) (by decide) (fun _ _ _ _ _ => tg 10 sc_law.nd) (fun _ _ _ _ _ => pts_yes) (fun _ _ _ _ _ => pf_of (pd_tup (pfs_cons (pf_of (pd_tup (pfs_cons (pf_of (pd_op op_addA os_add (pk 10) (pp_of (pd_int)))) (pfs_cons (pf_of (pd_tup (pfs_cons (pf_of (pd_int)) (pfs_cons (pf_of (pd_int)) (pfs_nil))))) (pfs_nil))))) (pfs_nil)))))
    (dss_cons (ds_app (ps_expr (pe_bm PySem.F.plainAttrs_list PySem.F.slot_list_append PySem.F.type_list_append mt_append (pv 9) (pa_cons (pf_of (pd_tup (pfs_cons (pf_of (pd_tup (pfs_cons (pf_of (nm 11)) (pfs_cons (pf_of (pd_tup (pfs_cons (pf_of (pd_int)) (pfs_cons (pf_of (pd_int)) (pfs_nil))))) (pfs_nil))))) (pfs_nil)))) pa_nil))))
    (dss_one (ds_ret (pf_of (cl c_u_law_is_game hr (by decide) tk (pfs_cons (pf_of (cl c_pay_row hr (by decide) tk (pfs_cons (pf_of (b_tuple B (pps_cons (pk 7) (pps_nil)))) (pfs_cons (pf_of (nm 11)) (pfs_nil))))) (pfs_cons (pf_of (pd_tup (pfs_cons (pf_of (b_tuple B (pps_cons (pk 7) (pps_nil)))) (pfs_cons (pf_of (b_tuple B (pps_cons (pk 9) (pps_nil)))) (pfs_nil))))) (pfs_nil)))))))))))))))))))))
end
end Law

set_option Elab.async false
set_option linter.all false
set_option maxHeartbeats 4000000
set_option maxRecDepth 100000
namespace Law
open PySem PySem.Spec PyProof.Rows L2 Evl Iv
def xs : Xs := ⟨fun _ => .none, fun _ => ""⟩
theorem fraction_eq {x : Int} : ∃ q, Sz 4 q ∧ f_u_law_fraction [.int x] = .ok (enc q) := by
  have m13 : oMod (.int x) (.int 13) = _ := oMod_int (by decide)
  have d13 : oDiv (.int x) (.int 13) = _ := oDiv_int (by decide)
  have m4 : oMod (.int (x.fdiv 13)) (.int 4) = _ := oMod_int (by decide)
  have f13 := fm (i := x) (k := 13) (by decide)
  have f4 := fm (i := x.fdiv 13) (k := 4) (by decide)
  simp only [Int.cast_ofNat_Int] at f13 f4
  have b4 : 0 ≤ (x.fdiv 13).fmod 4 ∧ (x.fdiv 13).fmod 4 < 4 := by omega
  generalize (x.fdiv 13).fmod 4 = d at *
  have hd : (1 + d : Int) ≠ 0 := by omega
  have lo := low_eq (n := x.fmod 13 - 6) hd
  exact ⟨Rat.divInt (x.fmod 13 - 6) (1 + d), divInt_sz hd (by omega) (by omega), by simp [f_u_law_fraction, g_u_law_fraction, m13, d13, m4, lo]⟩
theorem row_one {B : Nat} {size t : Int} (hB : B ≤ 1000000) (h1 : 1 ≤ B) (h0 : 0 ≤ t) (h2 : t < size) : RowOk B size [(t, 1)] where
  tgt := fun p hp => by rw [List.mem_singleton.mp hp]; exact ⟨h0, h2⟩
  pos := fun p hp => by rw [List.mem_singleton.mp hp]; show (0 : Rat) < 1; decide
  sz := fun p hp => by rw [List.mem_singleton.mp hp]; exact sz_one.mono h1
  asc := List.pairwise_singleton ..
  sum := by show (0 : Rat) + 1 = 1; rw [Rat.zero_add]
  len := by simp
  big := by show (B + 1) * 2 ≤ _; omega
theorem is_game_eq {B : Nat} {rs : List Rat} {rows : List (List (Int × Rat))} (h : GameOk B rs rows) : f_u_law_is_game [gameD rs rows, gameD rs rows] = .ok (.bl true) := by
  have e := game_eq h
  have hl := h.len
  have hs := h.small
  have p := same_self (n := 8) (game_pl (n := 2) (rs := rs) (rows := rows) (by omega) (by omega) fun r hr => (h.row r hr).len)
  have p : f_u_law_same [gameD rs rows, gameD rs rows] = .ok (.bl true) := p
  have i0 : oIx (gameD rs rows) (.int 0) = some (.d (.tup (rs.map enc))) := rfl
  have i1 : oIx (gameD rs rows) (.int 1) = some (.d (.tup (rows.map fun r => .tup (r.map pE)))) := rfl
  generalize gameD rs rows = g at *
  generalize (D.tup (rows.map fun r => .tup (r.map pE))) = rr at *
  generalize D.tup (rs.map enc) = ee at *
  simp [f_u_law_is_game, g_u_law_is_game, i0, i1, e, p]
/-! ### weights -/
theorem sum_w {W : Int} (hW : W ≠ 0) : ∀ (ws : List Int) (a : Int), (ws.map fun w => Rat.divInt w W).foldl (· + ·) (Rat.divInt a W) = Rat.divInt (a + ws.sum) W
  | [], a => by simp
  | w :: ws, a => by
    rw [List.map_cons, List.foldl_cons, Rat.divInt_add_divInt _ _ hW hW]
    have e : Rat.divInt (a * W + w * W) (W * W) = Rat.divInt (a + w) W := by
      rw [← Int.add_mul, Rat.divInt_mul_right hW]
    rw [e, sum_w hW ws (a + w), List.sum_cons, Int.add_assoc]
theorem sum_one {ws : List Int} (hW : ws.sum ≠ 0) : sumQ (ws.map fun w => Rat.divInt w ws.sum) = 1 := by
  have := sum_w hW ws 0
  rw [Int.zero_add, Rat.divInt_self' hW] at this
  unfold sumQ
  rw [← this]
  congr 1
  rw [show Rat.divInt 0 ws.sum = 0 from Rat.zero_divInt _]
theorem staying_eq {s : Int} : f_staying [.int s] = .ok (.tup [pE (s, 1)]) := by
  simp [f_staying, g_staying, pE, enc_one]
theorem steady_eq {r : Rat} : f_steady [enc r] = .ok (gameD [r] [[(0, 1)]]) := by
  have s := staying_eq (s := 0)
  simp [f_steady, g_steady, s, gameD]
/-- the rows of a throw -/
def rowP (n : Nat) (P : Nat → Rat) : List (Int × Rat) := (List.range n).map fun k : Nat => ((k : Int) + 1, P k)
def rows1 (n : Nat) : List (List (Int × Rat)) := (List.range n).map fun k : Nat => [((k : Int) + 1, 1)]
theorem throw_eq {r : Rat} {n : Nat} {P R : Nat → Rat} (hn : n ≤ 1000) : f_throw [enc r, .tup ((List.range n).map fun k => .tup [enc (P k), enc (R k)])] = .ok (gameD (r :: (List.range n).map R) (rowP n P :: rows1 n)) := by
  have key := for_inv (γ := γT 2 (γCons (γN 5) (γCons (γN 6) (γNil)))) (g := (mSeq (mSet 7 (mCl cLen (mCons (mPk 2) (mNil))))
    (mSeq (mApp 2 (mD (mVar 6)))
    (mSeq (mApp 3 (mD (mTup (mCons (mD (mVar 7)) (mCons (mD (mVar 5)) (mNil))))))
    (mApp 4 (mD (mCall 1 f_staying (mCons (mD (mVar 7)) (mNil)))))))))
    (all := (List.range n).map fun k => D.tup [enc (P k), enc (R k)]) (env := [.fr (enc r), .fr (.tup ((List.range n).map fun k => .tup [enc (P k), enc (R k)])), .ow [enc r], .ow [], .ow [], .un, .un, .un])
    (fun i env => ∃ s5 s6 s7, env = [.fr (enc r), .fr (.tup ((List.range n).map fun k => .tup [enc (P k), enc (R k)])), .ow (enc r :: (List.range i).map fun k => enc (R k)), .ow ((List.range i).map fun k : Nat => pE ((k : Int) + 1, P k)), .ow ((List.range i).map fun k : Nat => .tup [pE ((k : Int) + 1, 1)]), s5, s6, s7]) ⟨.un, .un, .un, rfl⟩ (by
      rintro i x env hx ⟨s5, s6, s7, rfl⟩
      rw [List.getElem?_map] at hx
      obtain ⟨j, h1, rfl⟩ := Option.map_eq_some_iff.mp hx
      have hi : i < n := by
        have := (List.getElem?_eq_some_iff.mp h1).1
        rwa [List.length_range] at this
      rw [List.getElem?_range hi] at h1
      cases h1
      have st := staying_eq (s := (i : Int) + 1)
      have l1 : ((List.range i).map fun k => enc (R k)).length = i := by simp
      have l2 : ((List.range i).map fun k : Nat => pE ((k : Int) + 1, P k)).length = i := by simp
      have l3 : ((List.range i).map fun k : Nat => D.tup [pE ((k : Int) + 1, 1)]).length = i := by simp
      refine ⟨[.fr (enc r), .fr (.tup ((List.range n).map fun k => .tup [enc (P k), enc (R k)])), .ow (enc r :: (List.range i).map fun k => enc (R k)), .ow ((List.range i).map fun k : Nat => pE ((k : Int) + 1, P k)), .ow ((List.range i).map fun k : Nat => .tup [pE ((k : Int) + 1, 1)]), .fr (enc (P i)), .fr (enc (R i)), s7],
        [.fr (enc r), .fr (.tup ((List.range n).map fun k => .tup [enc (P k), enc (R k)])), .ow (enc r :: (List.range (i + 1)).map fun k => enc (R k)), .ow ((List.range (i + 1)).map fun k : Nat => pE ((k : Int) + 1, P k)), .ow ((List.range (i + 1)).map fun k : Nat => .tup [pE ((k : Int) + 1, 1)]), .fr (enc (P i)), .fr (enc (R i)), .fr (.int ((i : Int) + 1))], rfl, ?_, _, _, _, rfl⟩
      rw [List.range_succ, List.map_append, List.map_append, List.map_append]
      generalize (List.range i).map (fun k => enc (R k)) = a1 at *
      generalize (List.range i).map (fun k : Nat => pE ((k : Int) + 1, P k)) = a2 at *
      generalize (List.range i).map (fun k : Nat => D.tup [pE ((k : Int) + 1, 1)]) = a3 at *
      have q1 : i + 1 < 90000 := by omega
      have q2 : i < 90000 := by omega
      simp [l1, l2, l3, st, pE, q1, q2])
  obtain ⟨env', k1, s5, s6, s7, rfl⟩ := key
  rw [List.length_map, List.length_range] at k1
  have a1 : (List.range n).map (fun k => enc (R k)) = ((List.range n).map R).map enc := by rw [List.map_map]; rfl
  have ad : oAdd (.lst [.tup ((List.range n).map fun k : Nat => pE ((k : Int) + 1, P k))]) (.lst ((List.range n).map fun k : Nat => .tup [pE ((k : Int) + 1, 1)])) = some (.l (.tup ((rowP n P).map pE) :: (rows1 n).map fun r => .tup (r.map pE))) := by
    rw [oAdd_lst (by simp; omega)]
    unfold rowP rows1
    rw [List.map_map, List.map_map]
    rfl
  rw [a1] at k1
  have gd : gameD (r :: (List.range n).map R) (rowP n P :: rows1 n) = .tup [.tup (enc r :: ((List.range n).map R).map enc), .tup (.tup ((rowP n P).map pE) :: (rows1 n).map fun r => .tup (r.map pE))] := rfl
  rw [gd]
  generalize (List.range n).map (fun k => D.tup [enc (P k), enc (R k)]) = o at *
  generalize (List.range n).map (fun k : Nat => pE ((k : Int) + 1, P k)) = o2 at *
  generalize (List.range n).map (fun k : Nat => D.tup [pE ((k : Int) + 1, 1)]) = o3 at *
  generalize (rows1 n).map (fun r => D.tup (r.map pE)) = o4 at *
  generalize (rowP n P).map pE = o5 at *
  simp [f_throw, g_throw, k1, ad]
/-- the rows of a row of pays -/
def rowsB (n : Nat) (b : Int) : List (List (Int × Rat)) := (List.range n).map (fun k : Nat => [((k : Int) + 1, 1)]) ++ [[(b, 1)]]
theorem upn {n : Nat} : Iv.upTo 0 n = (List.range n).map fun k : Nat => D.int (k : Int) := by
  unfold Iv.upTo
  exact List.map_congr_left fun k _ => by rw [Int.zero_add]
theorem pay_eq {n : Nat} {R : List Rat} {b : Int} (hR : R.length = n + 1) (hn : n ≤ 1000) : f_pay_row [.tup (R.map enc), .int b] = .ok (gameD R (rowsB n b)) := by
  have c1 : compL [4] (γN 4) mYes (mD (mOp oAdd (mPk 4) (mD (mC (.int 1))))) (Iv.upTo 0 n) [] [.fr (.tup (R.map enc)), .fr (.int b), .fr (.int ((n : Int) + 1)), .un, .un, .un] = .ok ((List.range n).map fun k : Nat => D.int ((k : Int) + 1)) [.fr (.tup (R.map enc)), .fr (.int b), .fr (.int ((n : Int) + 1)), .un, .un, .un] := by
    rw [upn, compL_map (enc := fun k : Nat => D.int (k : Int)) (h := fun k : Nat => D.int ((k : Int) + 1))]
    · rfl
    · intro k _
      exact ⟨[.fr (.tup (R.map enc)), .fr (.int b), .fr (.int ((n : Int) + 1)), .un, .fr (.int (k : Int)), .un], _, [.fr (.tup (R.map enc)), .fr (.int b), .fr (.int ((n : Int) + 1)), .un, .fr (.int (k : Int)), .un], rfl, rfl, by simp, rfl⟩
  have ad : oAdd (.lst ((List.range n).map fun k : Nat => D.int ((k : Int) + 1))) (.lst [.int b]) = some (.l (((List.range n).map (fun k : Nat => (k : Int) + 1) ++ [b]).map D.int)) := by
    rw [oAdd_lst (by simp; omega), List.map_append, List.map_map]
    rfl
  have c2 : ∀ ts : List Int, compL [5] (γN 5) mYes (mD (mTup (mCons (mD (mTup (mCons (mD (mVar 5)) (mCons (mD (mTup (mCons (mD (mC (.int 1))) (mCons (mD (mC (.int 1))) (mNil))))) (mNil))))) (mNil)))) (ts.map D.int) [] [.fr (.tup (R.map enc)), .fr (.int b), .fr (.int ((n : Int) + 1)), .fr (.lst (ts.map D.int)), .un, .un] = .ok (ts.map fun t => D.tup [pE (t, 1)]) [.fr (.tup (R.map enc)), .fr (.int b), .fr (.int ((n : Int) + 1)), .fr (.lst (ts.map D.int)), .un, .un] := fun ts => by
    rw [compL_map (enc := D.int) (h := fun t => D.tup [pE (t, 1)])]
    · rfl
    · intro t _
      exact ⟨[.fr (.tup (R.map enc)), .fr (.int b), .fr (.int ((n : Int) + 1)), .fr (.lst (ts.map D.int)), .un, .fr (.int t)], _, [.fr (.tup (R.map enc)), .fr (.int b), .fr (.int ((n : Int) + 1)), .fr (.lst (ts.map D.int)), .un, .fr (.int t)], rfl, rfl, by simp [pE, enc_one], rfl⟩
  have c2 := c2 ((List.range n).map (fun k : Nat => (k : Int) + 1) ++ [b])
  have gr : (((List.range n).map (fun k : Nat => (k : Int) + 1) ++ [b]).map fun t => D.tup [pE (t, 1)]) = (rowsB n b).map fun r => .tup (r.map pE) := by
    unfold rowsB
    rw [List.map_append, List.map_append, List.map_map, List.map_map]
    rfl
  rw [gr] at c2
  have lt : (((List.range n).map (fun k : Nat => (k : Int) + 1) ++ [b]).map D.int).length ≤ 90000 := by simp; omega
  have hs : small (n : Int) = true := small_nat (by omega)
  have lu : (Iv.upTo 0 n).length ≤ 90000 := by rw [upTo_len]; omega
  have lr : ((R.map enc).length : Int) = (n : Int) + 1 := by rw [List.length_map, hR]; rfl
  have e1 : (n : Int) + 1 - 1 = n := by omega
  unfold gameD
  generalize R.map enc = ee at *
  generalize ((List.range n).map (fun k : Nat => (k : Int) + 1) ++ [b]).map D.int = tt at *
  generalize (List.range n).map (fun k : Nat => D.int ((k : Int) + 1)) = t2 at *
  generalize (rowsB n b).map (fun r => D.tup (r.map pE)) = rr at *
  simp [f_pay_row, g_pay_row, lr, e1, hs, lu, c1, ad, lt, c2]
end Law
namespace Law
open PySem PySem.Spec PyProof.Rows L2 Evl Iv
theorem ixl {f : Nat → D} {n k : Nat} (h : k < n) : oIx (.lst ((List.range n).map f)) (.int (k : Int)) = some (.d (f k)) := by
  show (atI _ _).map Sv.d = _
  rw [atI_nat', List.getElem?_map, List.getElem?_range h]
  rfl
theorem ixt {f : Nat → D} {n k : Nat} (h : k < n) : oIx (.tup ((List.range n).map f)) (.int (k : Int)) = some (.d (f k)) := by
  show (atI _ _).map Sv.d = _
  rw [atI_nat', List.getElem?_map, List.getElem?_range h]
  rfl
theorem comp_n {f : M D} {env : En} {n j : Nat} {h : Nat → D} (H : ∀ k, k < n → ∃ e2, f (env.set j (.fr (.int (k : Int)))) = .ok (h k) e2 ∧ e2.set j .un = env) : compL [j] (γN j) mYes f (Iv.upTo 0 n) [] env = .ok ((List.range n).map h) env := by
  rw [upn, compL_map (enc := fun k : Nat => D.int (k : Int)) (h := h)]
  · rfl
  · intro k hk
    obtain ⟨e2, h1, h2⟩ := H k (List.mem_range.mp hk)
    exact ⟨_, _, e2, rfl, rfl, h1, h2⟩
theorem row0_ok {B n : Nat} {w : Nat → Int} {W : Int} (hW : W = ((List.range n).map w).sum) (hw : ∀ k, k < n → 1 ≤ w k ∧ w k ≤ 5) (hn1 : 1 ≤ n) (hn : n ≤ 9) (h64 : 64 ≤ B) (hB : B ≤ 1100000) : 1 ≤ W ∧ W ≤ 45 ∧ RowOk B ((n : Int) + 1) (rowP n fun k => Rat.divInt (w k) W) := by
  have bound : ∀ l : List Int, (∀ x ∈ l, 1 ≤ x ∧ x ≤ 5) → (l.length : Int) ≤ l.sum ∧ l.sum ≤ 5 * (l.length : Int) := fun l => by
    induction l with
    | nil => intro _; simp
    | cons x l ih =>
      intro h
      have h1 := h x List.mem_cons_self
      have h2 := ih fun y hy => h y (List.mem_cons_of_mem _ hy)
      rw [List.sum_cons, List.length_cons]
      omega
  have hb := bound ((List.range n).map w) fun x hx => by
    obtain ⟨k, hk, rfl⟩ := List.mem_map.mp hx
    exact hw k (List.mem_range.mp hk)
  rw [List.length_map, List.length_range, ← hW] at hb
  have hW0 : W ≠ 0 := by omega
  have hBB : (2 : Nat) ^ 64 ≤ 2 ^ B := Nat.pow_le_pow_right (by decide) h64
  have e64 : (2 : Nat) ^ 64 = 18446744073709551616 := by decide
  rw [e64] at hBB
  have mem : ∀ p ∈ rowP n (fun k => Rat.divInt (w k) W), ∃ k, k < n ∧ p = ((k : Int) + 1, Rat.divInt (w k) W) := fun p hp => by
    obtain ⟨k, hk, rfl⟩ := List.mem_map.mp hp
    exact ⟨k, List.mem_range.mp hk, rfl⟩
  refine ⟨by omega, by omega, ⟨fun p hp => ?_, fun p hp => ?_, fun p hp => ?_, ?_, ?_, ?_, ?_⟩⟩
  · obtain ⟨k, hk, rfl⟩ := mem p hp
    exact ⟨by show (0 : Int) ≤ (k : Int) + 1; omega, by show (k : Int) + 1 < _; omega⟩
  · obtain ⟨k, hk, rfl⟩ := mem p hp
    have h1 := hw k hk
    show (0 : Rat) < Rat.divInt (w k) W
    have hp : (0 : Rat) < (W : Rat) := by rw [show (0 : Rat) = ((0 : Int) : Rat) from rfl, Rat.intCast_lt_intCast]; omega
    rw [Rat.divInt_eq_div, Rat.lt_div_iff hp, Rat.zero_mul, show (0 : Rat) = ((0 : Int) : Rat) from rfl, Rat.intCast_lt_intCast]
    omega
  · obtain ⟨k, hk, rfl⟩ := mem p hp
    have h1 := hw k hk
    exact divInt_sz hW0 (by omega) (by omega)
  · unfold rowP
    rw [List.pairwise_map]
    exact List.pairwise_lt_range.imp fun h => by show (_ : Int) + 1 < _ + 1; omega
  · have e : (rowP n fun k => Rat.divInt (w k) W).map (·.2) = ((List.range n).map w).map fun x => Rat.divInt x W := by
      unfold rowP
      rw [List.map_map, List.map_map]
      rfl
    rw [e, hW]
    exact sum_one (by rw [← hW]; exact hW0)
  · unfold rowP; simp; omega
  · unfold rowP
    rw [List.length_map, List.length_range]
    have : (B + 1) * (n + 1) ≤ (B + 1) * 10 := Nat.mul_le_mul_left _ (by omega)
    omega
theorem rows1_ok {B n : Nat} (h1 : 1 ≤ B) (hB : B ≤ 1000000) : ∀ r ∈ rows1 n, RowOk B ((n : Int) + 1) r := fun r hr => by
  obtain ⟨k, hk, rfl⟩ := List.mem_map.mp hr
  have hk := List.mem_range.mp hk
  exact row_one hB h1 (by omega) (by omega)
end Law
namespace Law
open PySem PySem.Spec PyProof.Rows L2 Evl Iv
theorem atR {f : Nat → D} {n k : Nat} (h : k < n) : atI ((List.range n).map f) (k : Int) = some (f k) := by
  rw [atI_nat', List.getElem?_map, List.getElem?_range h]
  rfl
theorem law_go {ns : List Int} {B : Nat} (h64 : 64 ≤ B) (hB : B ≤ 2000000) (hl : ns.length ≤ 1000) (cs : ∀ k, k < 1000000 → (cellAt ns k).natAbs < 2 ^ B) : f_law [.scr ns] = .ok (.bl true) := by
  -- the reward
  have c0 : f_u_law_cell [.scr ns, .int 0] = _ := cell_eq (ns := ns) (k := 0) (by decide)
  generalize hx0 : cellAt ns 0 = x0 at *
  have d9 : oDiv (.int x0) (.int 9) = _ := oDiv_int (by decide)
  have m9 : oMod (.int (x0.fdiv 9)) (.int 9) = _ := oMod_int (by decide)
  have f9 := fm (i := x0.fdiv 9) (k := 9) (by decide)
  simp only [Int.cast_ofNat_Int] at f9
  have b9 : 0 ≤ (x0.fdiv 9).fmod 9 ∧ (x0.fdiv 9).fmod 9 < 9 := by omega
  generalize (x0.fdiv 9).fmod 9 = y9 at *
  have lo := low_eq (n := x0) (d := 1 + y9) (by omega)
  generalize Rat.divInt x0 (1 + y9) = r at *
  -- the steady game
  have sg : GameOk 64 [r] [[(0, 1)]] := ⟨by simp, rfl, by simp, fun q hq => by rw [List.mem_singleton.mp hq]; exact row_one (by decide) (by decide) (by decide) (by show (0 : Int) < 1; decide)⟩
  have st := steady_eq (r := r)
  have s2 : f_u_law_is_game [gameD [r] [[(0, 1)]], .tup [.tup [enc r], .tup [.tup [.tup [.int 0, .tup [.int 1, .int 1]]]]]] = .ok (.bl true) := is_game_eq sg
  -- how many
  obtain ⟨m, hm, hm8⟩ : ∃ m : Nat, (if (if (ns.length : Int) - 1 > 1 then (ns.length : Int) - 1 else 1) < 9 then (if (ns.length : Int) - 1 > 1 then (ns.length : Int) - 1 else 1) else 9) = ((m + 1 : Nat) : Int) ∧ m ≤ 8 := by
    by_cases h1 : (ns.length : Int) - 1 > 1
    · rw [if_pos h1]
      by_cases h2 : (ns.length : Int) - 1 < 9
      · rw [if_pos h2]; exact ⟨ns.length - 2, by omega, by omega⟩
      · rw [if_neg h2]; exact ⟨8, rfl, by decide⟩
    · rw [if_neg h1, if_pos (by decide)]; exact ⟨0, rfl, by decide⟩
  obtain ⟨n, hn⟩ : ∃ n, n = m + 1 := ⟨_, rfl⟩
  rw [← hn] at hm
  have hn9 : n ≤ 9 := by omega
  have hs : small (n : Int) = true := small_nat (by omega)
  have lu : (Iv.upTo 0 n).length ≤ 90000 := by rw [upTo_len]; omega
  -- the draws
  obtain ⟨A, hA⟩ : ∃ A : Nat → Int × Int × Int, ∀ k, k < 1000 → f_u_law_draws [.int (cellAt ns (1 + k)), .int 3] = .ok (.lst [.int (A k).1, .int (A k).2.1, .int (A k).2.2]) := by
    have H : ∀ k : Nat, ∃ t : Int × Int × Int, k < 1000 → f_u_law_draws [.int (cellAt ns (1 + k)), .int 3] = .ok (.lst [.int t.1, .int t.2.1, .int t.2.2]) := fun k => by
      by_cases h : k < 1000
      · obtain ⟨ds, hd, e⟩ := draws_eq (n := 3) (cs (1 + k) (by omega)) (by omega) (by decide)
        match ds, hd.1 with
        | [a, b, c], _ => exact ⟨(a, b, c), fun _ => e⟩
      · exact ⟨(0, 0, 0), fun z => absurd z h⟩
    exact ⟨fun k => Classical.choose (H k), fun k => Classical.choose_spec (H k)⟩
  obtain ⟨Q, hQ⟩ : ∃ Q : Int → Rat, ∀ x, f_u_law_fraction [.int x] = .ok (enc (Q x)) := ⟨fun x => Classical.choose (fraction_eq (x := x)), fun x => (Classical.choose_spec (fraction_eq (x := x))).2⟩
  obtain ⟨w, hw⟩ : ∃ w : Nat → Int, w = fun k => 1 + (A k).1.fmod 5 := ⟨_, rfl⟩
  have w5 : ∀ k, k < n → 1 ≤ w k ∧ w k ≤ 5 := fun k _ => by
    have := fm (i := (A k).1) (k := 5) (by decide)
    simp only [Int.cast_ofNat_Int] at this
    rw [hw]
    dsimp only
    omega
  obtain ⟨W, hW⟩ : ∃ W, W = ((List.range n).map w).sum := ⟨_, rfl⟩
  obtain ⟨W1, W2, ro⟩ := row0_ok (B := 64) hW w5 (by omega) hn9 (by decide) (by decide)
  obtain ⟨P, hP⟩ : ∃ P : Nat → Rat, P = fun k => Rat.divInt (w k) W := ⟨_, rfl⟩
  rw [← hP] at ro
  obtain ⟨R, hR⟩ : ∃ R : Nat → Rat, R = fun k => Q (A k).2.1 := ⟨_, rfl⟩
  obtain ⟨dl, hdl⟩ : ∃ dl, dl = (List.range n).map fun k => D.lst [.int (A k).1, .int (A k).2.1, .int (A k).2.2] := ⟨_, rfl⟩
  obtain ⟨wl, hwl⟩ : ∃ wl, wl = (List.range n).map fun k => D.int (w k) := ⟨_, rfl⟩
  obtain ⟨rl, hrl⟩ : ∃ rl, rl = (List.range n).map fun k => enc (R k) := ⟨_, rfl⟩
  obtain ⟨ol, hol⟩ : ∃ ol, ol = (List.range n).map fun k => D.tup [enc (P k), enc (R k)] := ⟨_, rfl⟩
  have k4 := comp_n (f := mD (mCall 2 f_u_law_draws (mCons (mD (mCall 2 f_u_law_cell (mCons (mD (mVar 0)) (mCons (mD (mOp oAdd (mD (mC (.int 1))) (mPk 10))) (mNil))))) (mCons (mD (mC (.int 3))) (mNil))))) (n := n) (j := 10) (env := [.fr (.scr ns), .fr (.int x0), .fr (enc r), .fr (.int (n : Int)), .un, .un, .un, .un, .un, .un, .un, .un]) (h := fun k => D.lst [.int (A k).1, .int (A k).2.1, .int (A k).2.2]) (fun k hk => by
    have c : f_u_law_cell [.scr ns, .int (1 + (k : Int))] = .ok (.int (cellAt ns (1 + k))) := by
      have := cell_eq (ns := ns) (k := 1 + k) (by omega)
      rw [Int.natCast_add] at this
      exact this
    have a := hA k (by omega)
    exact ⟨[.fr (.scr ns), .fr (.int x0), .fr (enc r), .fr (.int (n : Int)), .un, .un, .un, .un, .un, .un, .fr (.int (k : Int)), .un], by simp [c, a], rfl⟩)
  rw [← hdl] at k4
  have ixd : ∀ k, k < n → atI dl (k : Int) = some (.lst [.int (A k).1, .int (A k).2.1, .int (A k).2.2]) := fun k hk => by rw [hdl]; exact atR hk
  have k5 := comp_n (f := mD (mOp oAdd (mD (mC (.int 1))) (mD (mOp oMod (mD (mCl cInt (mCons (mD (mOp oIx (mD (mOp oIx (mPk 4) (mPk 10))) (mD (mC (.int 0))))) (mNil)))) (mD (mC (.int 5))))))) (n := n) (j := 10) (env := [.fr (.scr ns), .fr (.int x0), .fr (enc r), .fr (.int (n : Int)), .ow dl, .un, .un, .un, .un, .un, .un, .un]) (h := fun k => D.int (w k)) (fun k hk => by
    have m5 : oMod (.int (A k).1) (.int 5) = _ := oMod_int (by decide)
    have i0 : ∀ a b c : D, atI [a, b, c] 0 = some a := fun _ _ _ => rfl
    exact ⟨[.fr (.scr ns), .fr (.int x0), .fr (enc r), .fr (.int (n : Int)), .ow dl, .un, .un, .un, .un, .un, .fr (.int (k : Int)), .un], by simp [ixd k hk, m5, i0, hw], rfl⟩)
  rw [← hwl] at k5
  have sm : cSum [.lst wl] = some (.d (.int W)) := by
    have e : wl = ((List.range n).map w).map D.int := by rw [hwl, List.map_map]; rfl
    show (intsOf wl).map _ = _
    rw [e, intsOf_map, hW]
    rfl
  have i1 : ∀ a b c : D, atI [a, b, c] 1 = some b := fun _ _ _ => rfl
  have i2 : ∀ a b c : D, atI [a, b, c] 2 = some c := fun _ _ _ => rfl
  have i0 : ∀ a b c : D, atI [a, b, c] 0 = some a := fun _ _ _ => rfl
  have k7 := comp_n (f := mD (mCall 1 f_u_law_fraction (mCons (mD (mOp oIx (mD (mOp oIx (mPk 4) (mPk 10))) (mD (mC (.int 1))))) (mNil)))) (n := n) (j := 10) (env := [.fr (.scr ns), .fr (.int x0), .fr (enc r), .fr (.int (n : Int)), .ow dl, .ow wl, .fr (.int W), .un, .un, .un, .un, .un]) (h := fun k => enc (R k)) (fun k hk => by
    have q := hQ (A k).2.1
    exact ⟨[.fr (.scr ns), .fr (.int x0), .fr (enc r), .fr (.int (n : Int)), .ow dl, .ow wl, .fr (.int W), .un, .un, .un, .fr (.int (k : Int)), .un], by simp [ixd k hk, i1, q, hR], rfl⟩)
  rw [← hrl] at k7
  have ixw : ∀ k, k < n → atI wl (k : Int) = some (.int (w k)) := fun k hk => by rw [hwl]; exact atR hk
  have ixr : ∀ k, k < n → atI rl (k : Int) = some (enc (R k)) := fun k hk => by rw [hrl]; exact atR hk
  have k8 := comp_n (f := mD (mTup (mCons (mD (mCall 2 f_u_law_low (mCons (mD (mOp oIx (mPk 5) (mPk 10))) (mCons (mD (mVar 6)) (mNil))))) (mCons (mD (mOp oIx (mPk 7) (mPk 10))) (mNil))))) (n := n) (j := 10) (env := [.fr (.scr ns), .fr (.int x0), .fr (enc r), .fr (.int (n : Int)), .ow dl, .ow wl, .fr (.int W), .ow rl, .un, .un, .un, .un]) (h := fun k => D.tup [enc (P k), enc (R k)]) (fun k hk => by
    have q := low_eq (n := w k) (d := W) (by omega)
    have e1 := ixw k hk
    have e2 := ixr k hk
    exact ⟨[.fr (.scr ns), .fr (.int x0), .fr (enc r), .fr (.int (n : Int)), .ow dl, .ow wl, .fr (.int W), .ow rl, .un, .un, .fr (.int (k : Int)), .un], by simp [e1, e2, q, hP], rfl⟩)
  rw [← hol] at k8
  have ixo : ∀ k, k < n → atI ol (k : Int) = some (.tup [enc (P k), enc (R k)]) := fun k hk => by rw [hol]; exact atR hk
  have k9 := comp_n (f := mD (mTup (mCons (mD (mOp oAdd (mPk 10) (mD (mC (.int 1))))) (mCons (mD (mOp oIx (mD (mOp oIx (mPk 8) (mPk 10))) (mD (mC (.int 0))))) (mNil))))) (n := n) (j := 10) (env := [.fr (.scr ns), .fr (.int x0), .fr (enc r), .fr (.int (n : Int)), .ow dl, .ow wl, .fr (.int W), .ow rl, .fr (.tup ol), .un, .un, .un]) (h := fun k => pE ((k : Int) + 1, P k)) (fun k hk => by
    have e1 := ixo k hk
    exact ⟨[.fr (.scr ns), .fr (.int x0), .fr (enc r), .fr (.int (n : Int)), .ow dl, .ow wl, .fr (.int W), .ow rl, .fr (.tup ol), .un, .fr (.int (k : Int)), .un], by simp [e1, pE], rfl⟩)
  have ep : ((List.range n).map fun k : Nat => pE ((k : Int) + 1, P k)) = (rowP n P).map pE := by
    unfold rowP
    rw [List.map_map]
    rfl
  rw [ep] at k9
  have key := for_inv (γ := γN 10) (g := mApp 9 (mD (mTup (mCons (mD (mTup (mCons (mD (mOp oAdd (mPk 10) (mD (mC (.int 1))))) (mCons (mD (mTup (mCons (mD (mC (.int 1))) (mCons (mD (mC (.int 1))) (mNil))))) (mNil))))) (mNil)))))
    (all := Iv.upTo 0 n) (env := [.fr (.scr ns), .fr (.int x0), .fr (enc r), .fr (.int (n : Int)), .ow dl, .ow wl, .fr (.int W), .ow rl, .fr (.tup ol), .ow [.tup ((rowP n P).map pE)], .un, .un])
    (fun i env => ∃ s10, env = [.fr (.scr ns), .fr (.int x0), .fr (enc r), .fr (.int (n : Int)), .ow dl, .ow wl, .fr (.int W), .ow rl, .fr (.tup ol), .ow (.tup ((rowP n P).map pE) :: (List.range i).map fun k : Nat => .tup [pE ((k : Int) + 1, 1)]), s10, .un]) ⟨.un, rfl⟩ (by
      rintro i x env hx ⟨s10, rfl⟩
      have hi : i < n := by
        have := (List.getElem?_eq_some_iff.mp hx).1
        rwa [upTo_len] at this
      rw [upn, List.getElem?_map, List.getElem?_range hi] at hx
      cases hx
      have lr : ((List.range i).map fun k : Nat => D.tup [pE ((k : Int) + 1, 1)]).length = i := by simp
      refine ⟨_, [.fr (.scr ns), .fr (.int x0), .fr (enc r), .fr (.int (n : Int)), .ow dl, .ow wl, .fr (.int W), .ow rl, .fr (.tup ol), .ow (.tup ((rowP n P).map pE) :: (List.range (i + 1)).map fun k : Nat => .tup [pE ((k : Int) + 1, 1)]), .fr (.int (i : Int)), .un], rfl, ?_, _, rfl⟩
      rw [List.range_succ, List.map_append]
      generalize ((List.range i).map fun k : Nat => D.tup [pE ((k : Int) + 1, 1)]) = l1 at *
      have q1 : i + 1 < 90000 := by omega
      simp [lr, q1, pE, enc_one])
  obtain ⟨env', k10, s10, rfl⟩ := key
  rw [upTo_len] at k10
  have er : ((List.range n).map fun k : Nat => D.tup [pE ((k : Int) + 1, 1)]) = (rows1 n).map fun r => .tup (r.map pE) := by
    unfold rows1
    rw [List.map_map]
    rfl
  rw [er] at k10
  have th := throw_eq (r := r) (n := n) (P := P) (R := R) (by omega)
  rw [← hol] at th
  have erl : rl = ((List.range n).map R).map enc := by rw [hrl, List.map_map]; rfl
  have gt : GameOk 64 (r :: (List.range n).map R) (rowP n P :: rows1 n) := ⟨by simp, by simp [rows1], by simp; omega, fun q hq => by
    have e : (((r :: (List.range n).map R).length : Nat) : Int) = (n : Int) + 1 := by simp
    rw [e]
    rcases List.mem_cons.mp hq with z | z
    · rw [z]; exact ro
    · exact rows1_ok (by decide) (by decide) q z⟩
  have ig := is_game_eq gt
  have gd : gameD (r :: (List.range n).map R) (rowP n P :: rows1 n) = .tup [.tup (enc r :: rl), .tup (.tup ((rowP n P).map pE) :: (rows1 n).map fun r => .tup (r.map pE))] := by rw [erl]; rfl
  rw [gd] at th ig
  have adr : oAdd (.lst [enc r]) (.lst rl) = some (.l (enc r :: rl)) := oAdd_lst (by rw [erl]; simp; omega)
  -- the way through
  have S1 : t4_law [.fr (.scr ns), .fr (.int x0), .fr (enc r), .fr (.int (n : Int)), .un, .un, .un, .un, .un, .un, .un, .un] = t10_law [.fr (.scr ns), .fr (.int x0), .fr (enc r), .fr (.int (n : Int)), .ow dl, .ow wl, .fr (.int W), .ow rl, .fr (.tup ol), .ow [.tup ((rowP n P).map pE)], .un, .un] := by
    generalize (rowP n P).map pE = rp at *
    simp [t4_law, t5_law, t6_law, t7_law, t8_law, t9_law, hs, lu, k4, k5, sm, k7, k8, k9]
  obtain ⟨l1, hl1⟩ : ∃ l1, l1 = (D.tup ((rowP n P).map pE) :: (rows1 n).map fun r => .tup (r.map pE)) := ⟨_, rfl⟩
  rw [← hl1] at k10 gd th ig
  have S2 : t10_law [.fr (.scr ns), .fr (.int x0), .fr (enc r), .fr (.int (n : Int)), .ow dl, .ow wl, .fr (.int W), .ow rl, .fr (.tup ol), .ow [.tup ((rowP n P).map pE)], .un, .un] = t12_law [.fr (.scr ns), .fr (.int x0), .fr (enc r), .fr (.int (n : Int)), .ow dl, .ow wl, .fr (.int W), .ow rl, .fr (.tup ol), .ow l1, s10, .un] := by
    generalize (rowP n P).map pE = rp at *
    simp [t10_law, t11_law, hs, k10, th, adr, ig]
  -- the row of pays
  have mn : oMod (.int (A 0).2.2) (.int (n : Int)) = _ := oMod_int (by omega)
  have fn := fm (i := (A 0).2.2) (k := n) (by omega)
  have b1 := Int.emod_nonneg (A 0).2.2 (by omega : (n : Int) ≠ 0)
  have b2 := Int.emod_lt_of_pos (A 0).2.2 (by omega : 0 < (n : Int))
  rw [← fn] at b1 b2
  generalize (A 0).2.2.fmod (n : Int) = b at *
  have hs2 : small (m : Int) = true := small_nat (by omega)
  have lu2 : (Iv.upTo 0 m).length ≤ 90000 := by rw [upTo_len]; omega
  have nm1 : (n : Int) - 1 = (m : Int) := by omega
  have k13 := comp_n (f := mD (mTup (mCons (mD (mTup (mCons (mD (mOp oAdd (mPk 10) (mD (mC (.int 1))))) (mCons (mD (mTup (mCons (mD (mC (.int 1))) (mCons (mD (mC (.int 1))) (mNil))))) (mNil))))) (mNil)))) (n := m) (j := 10) (env := [.fr (.scr ns), .fr (.int x0), .fr (enc r), .fr (.int (n : Int)), .ow dl, .ow wl, .fr (.int W), .ow rl, .fr (.tup ol), .ow l1, .un, .fr (.int b)]) (h := fun k => D.tup [pE ((k : Int) + 1, 1)]) (fun k hk =>
    ⟨[.fr (.scr ns), .fr (.int x0), .fr (enc r), .fr (.int (n : Int)), .ow dl, .ow wl, .fr (.int W), .ow rl, .fr (.tup ol), .ow l1, .fr (.int (k : Int)), .fr (.int b)], by simp [pE, enc_one], rfl⟩)
  have pay := pay_eq (n := m) (R := (List.range n).map R) (b := b) (by simp; omega) (by omega)
  rw [← erl] at pay
  have gb : GameOk 64 ((List.range n).map R) (rowsB m b) := ⟨by simp; omega, by simp [rowsB]; omega, by simp; omega, fun q hq => by
    have e : ((((List.range n).map R).length : Nat) : Int) = (n : Int) := by simp
    rw [e]
    rcases List.mem_append.mp hq with z | z
    · have := rows1_ok (n := m) (B := 64) (by decide) (by decide) q z
      have e2 : (m : Int) + 1 = n := by omega
      rwa [e2] at this
    · rw [List.mem_singleton.mp z]
      exact row_one (by decide) (by decide) b1 b2⟩
  have ib := is_game_eq gb
  obtain ⟨l2, hl2⟩ : ∃ l2, l2 = (List.range m).map fun k : Nat => D.tup [pE ((k : Int) + 1, 1)] := ⟨_, rfl⟩
  have gdb : gameD ((List.range n).map R) (rowsB m b) = .tup [.tup rl, .tup (l2 ++ [.tup [pE (b, 1)]])] := by
    have e : (rowsB m b).map (fun r => D.tup (r.map pE)) = l2 ++ [.tup [pE (b, 1)]] := by
      unfold rowsB
      rw [List.map_append, List.map_map, hl2]
      rfl
    unfold gameD
    rw [e, erl]
  rw [gdb] at pay ib
  rw [← hl2] at k13
  have ll2 : l2.length < 90000 := by rw [hl2]; simp; omega
  have id0 := ixd 0 (by omega)
  have id0 : atI dl 0 = _ := id0
  have S3 : ∃ E, t12_law [.fr (.scr ns), .fr (.int x0), .fr (enc r), .fr (.int (n : Int)), .ow dl, .ow wl, .fr (.int W), .ow rl, .fr (.tup ol), .ow l1, s10, .un] = .ok (.rt (.bl true)) E := by
    have pb : pE (b, 1) = .tup [.int b, enc 1] := rfl
    rw [pb] at pay ib
    refine ⟨[.fr (.scr ns), .fr (.int x0), .fr (enc r), .fr (.int (n : Int)), .ow dl, .ow wl, .fr (.int W), .ow rl, .fr (.tup ol), .ow (l2 ++ [.tup [.tup [.int b, enc 1]]]), .un, .fr (.int b)], ?_⟩
    simp [t12_law, t13_law, t14_law, t15_law, id0, i2, mn, nm1, hs2, lu2, k13, ll2, enc_one, pay, ib]
  obtain ⟨E, S3⟩ := S3
  have go : t3_law [.fr (.scr ns), .fr (.int x0), .fr (enc r), .un, .un, .un, .un, .un, .un, .un, .un, .un] = .ok (.rt (.bl true)) E := by
    rw [← S3, ← S2, ← S1]
    simp [t3_law, hm]
  simp [f_law, t0_law, t1_law, t2_law, c0, d9, m9, lo, st, enc_zero, s2, go]
theorem law_true (ns : List Int) (h : ns.length ≤ 63) (hb : ∀ i ∈ ns, Builtin.Int.intBits i ≤ 1048576) : f_law [.scr ns] = .ok (.bl true) := by
  obtain ⟨B, hB⟩ : ∃ B, B = 1048576 := ⟨_, rfl⟩
  rw [← hB] at hb
  exact law_go (B := B) (by omega) (by omega) (by omega) fun k hk => cell_sz hb (by omega) hk
end Law

set_option Elab.async false
set_option linter.all false
set_option maxRecDepth 100000
set_option maxHeartbeats 4000000
namespace Law
open PySem PySem.Spec PyProof.Rows L2 Evl Iv
theorem r_u_law_same {w : World} {K : PySem.W.Frag} {mg : Str → Option Value} {base : Heap} {S : Xs} (B : Bl mg) (df : Df K mg "_law_same" s_u_law_same ["actual", "due"]) : ∀ n, Cl PySem.Challenge.pw_anycompany_k15_steady_throw_pay_row w K mg base S (40 + n) "_law_same" 2 (sameF n)
  | 0 => cl_bad df
  | n + 1 => d_u_law_same B df (Nat.le_add_right _ _) (r_u_law_same B df n)
theorem all_mk {w : World} {K : PySem.W.Frag} {h : Heap} {mg : Str → Option Value} {S : Xs} {fa f0 f1 f2 f3 f4 f5 f6 f7 f8 f9 f10 f11 f12 f13 f14 f15 f16 f17 : Addr} (X : K.In h) (G : h.Ns mainGlobals mg) (hfa : mg "law" = some (.ref fa))
    {od0 an0 od1 an1 od2 an2 od3 an3 od4 an4 od5 an5 od6 an6 od7 an7 od8 an8 od9 an9 od10 an10 od11 an11 od12 an12 od13 an13 od14 an14 od15 an15 od16 an16 od17 an17 : Option Addr} {sl0 sl1 sl2 sl3 sl4 sl5 sl6 sl7 sl8 sl9 sl10 sl11 sl12 sl13 sl14 sl15 sl16 sl17 : Array (Option Value)} {oc0 kV0 dc0 pm0 cd0 ct0 oc1 kV1 dc1 pm1 cd1 ct1 oc2 kV2 dc2 pm2 cd2 ct2 oc3 kV3 dc3 pm3 cd3 ct3 oc4 kV4 dc4 pm4 cd4 ct4 oc5 kV5 dc5 pm5 cd5 ct5 oc6 kV6 dc6 pm6 cd6 ct6 oc7 kV7 dc7 pm7 cd7 ct7 oc8 kV8 dc8 pm8 cd8 ct8 oc9 kV9 dc9 pm9 cd9 ct9 oc10 kV10 dc10 pm10 cd10 ct10 oc11 kV11 dc11 pm11 cd11 ct11 oc12 kV12 dc12 pm12 cd12 ct12 oc13 kV13 dc13 pm13 cd13 ct13 oc14 kV14 dc14 pm14 cd14 ct14 oc15 kV15 dc15 pm15 cd15 ct15 oc16 kV16 dc16 pm16 cd16 ct16 oc17 kV17 dc17 pm17 cd17 ct17 : Value}
    (a0 : PySem.W.nsIn K mainGlobals "_law_cell" = some (some (.ref f0))) (l0 : K.lookup f0 = some ⟨oc0, od0, .func (PySem.W.fnOf "_law_cell" "_law_cell" (defArgs s_u_law_cell) (defBody s_u_law_cell) (defScope s_u_law_cell) .none kV0 dc0 pm0 an0 cd0 ct0), sl0⟩) (c0 : PySem.W.codeIn K cd0 "_law_cell" = true) (k0 : PySem.W.keepIn K (.ref f0) = true)
    (a1 : PySem.W.nsIn K mainGlobals "_law_gcd" = some (some (.ref f1))) (l1 : K.lookup f1 = some ⟨oc1, od1, .func (PySem.W.fnOf "_law_gcd" "_law_gcd" (defArgs s_u_law_gcd) (defBody s_u_law_gcd) (defScope s_u_law_gcd) .none kV1 dc1 pm1 an1 cd1 ct1), sl1⟩) (c1 : PySem.W.codeIn K cd1 "_law_gcd" = true) (k1 : PySem.W.keepIn K (.ref f1) = true)
    (a2 : PySem.W.nsIn K mainGlobals "_law_low" = some (some (.ref f2))) (l2 : K.lookup f2 = some ⟨oc2, od2, .func (PySem.W.fnOf "_law_low" "_law_low" (defArgs s_u_law_low) (defBody s_u_law_low) (defScope s_u_law_low) .none kV2 dc2 pm2 an2 cd2 ct2), sl2⟩) (c2 : PySem.W.codeIn K cd2 "_law_low" = true) (k2 : PySem.W.keepIn K (.ref f2) = true)
    (a3 : PySem.W.nsIn K mainGlobals "staying" = some (some (.ref f3))) (l3 : K.lookup f3 = some ⟨oc3, od3, .func (PySem.W.fnOf "staying" "staying" (defArgs s_staying) (defBody s_staying) (defScope s_staying) .none kV3 dc3 pm3 an3 cd3 ct3), sl3⟩) (c3 : PySem.W.codeIn K cd3 "staying" = true) (k3 : PySem.W.keepIn K (.ref f3) = true)
    (a4 : PySem.W.nsIn K mainGlobals "steady" = some (some (.ref f4))) (l4 : K.lookup f4 = some ⟨oc4, od4, .func (PySem.W.fnOf "steady" "steady" (defArgs s_steady) (defBody s_steady) (defScope s_steady) .none kV4 dc4 pm4 an4 cd4 ct4), sl4⟩) (c4 : PySem.W.codeIn K cd4 "steady" = true) (k4 : PySem.W.keepIn K (.ref f4) = true)
    (a5 : PySem.W.nsIn K mainGlobals "_law_same" = some (some (.ref f5))) (l5 : K.lookup f5 = some ⟨oc5, od5, .func (PySem.W.fnOf "_law_same" "_law_same" (defArgs s_u_law_same) (defBody s_u_law_same) (defScope s_u_law_same) .none kV5 dc5 pm5 an5 cd5 ct5), sl5⟩) (c5 : PySem.W.codeIn K cd5 "_law_same" = true) (k5 : PySem.W.keepIn K (.ref f5) = true)
    (a6 : PySem.W.nsIn K mainGlobals "compare" = some (some (.ref f6))) (l6 : K.lookup f6 = some ⟨oc6, od6, .func (PySem.W.fnOf "compare" "compare" (defArgs s_compare) (defBody s_compare) (defScope s_compare) .none kV6 dc6 pm6 an6 cd6 ct6), sl6⟩) (c6 : PySem.W.codeIn K cd6 "compare" = true) (k6 : PySem.W.keepIn K (.ref f6) = true)
    (a7 : PySem.W.nsIn K mainGlobals "make_ratio" = some (some (.ref f7))) (l7 : K.lookup f7 = some ⟨oc7, od7, .func (PySem.W.fnOf "make_ratio" "make_ratio" (defArgs s_make_ratio) (defBody s_make_ratio) (defScope s_make_ratio) .none kV7 dc7 pm7 an7 cd7 ct7), sl7⟩) (c7 : PySem.W.codeIn K cd7 "make_ratio" = true) (k7 : PySem.W.keepIn K (.ref f7) = true)
    (a8 : PySem.W.nsIn K mainGlobals "add" = some (some (.ref f8))) (l8 : K.lookup f8 = some ⟨oc8, od8, .func (PySem.W.fnOf "add" "add" (defArgs s_add) (defBody s_add) (defScope s_add) .none kV8 dc8 pm8 an8 cd8 ct8), sl8⟩) (c8 : PySem.W.codeIn K cd8 "add" = true) (k8 : PySem.W.keepIn K (.ref f8) = true)
    (a9 : PySem.W.nsIn K mainGlobals "total" = some (some (.ref f9))) (l9 : K.lookup f9 = some ⟨oc9, od9, .func (PySem.W.fnOf "total" "total" (defArgs s_total) (defBody s_total) (defScope s_total) .none kV9 dc9 pm9 an9 cd9 ct9), sl9⟩) (c9 : PySem.W.codeIn K cd9 "total" = true) (k9 : PySem.W.keepIn K (.ref f9) = true)
    (a10 : PySem.W.nsIn K mainGlobals "made_row" = some (some (.ref f10))) (l10 : K.lookup f10 = some ⟨oc10, od10, .func (PySem.W.fnOf "made_row" "made_row" (defArgs s_made_row) (defBody s_made_row) (defScope s_made_row) .none kV10 dc10 pm10 an10 cd10 ct10), sl10⟩) (c10 : PySem.W.codeIn K cd10 "made_row" = true) (k10 : PySem.W.keepIn K (.ref f10) = true)
    (a11 : PySem.W.nsIn K mainGlobals "make_game" = some (some (.ref f11))) (l11 : K.lookup f11 = some ⟨oc11, od11, .func (PySem.W.fnOf "make_game" "make_game" (defArgs s_make_game) (defBody s_make_game) (defScope s_make_game) .none kV11 dc11 pm11 an11 cd11 ct11), sl11⟩) (c11 : PySem.W.codeIn K cd11 "make_game" = true) (k11 : PySem.W.keepIn K (.ref f11) = true)
    (a12 : PySem.W.nsIn K mainGlobals "_law_is_game" = some (some (.ref f12))) (l12 : K.lookup f12 = some ⟨oc12, od12, .func (PySem.W.fnOf "_law_is_game" "_law_is_game" (defArgs s_u_law_is_game) (defBody s_u_law_is_game) (defScope s_u_law_is_game) .none kV12 dc12 pm12 an12 cd12 ct12), sl12⟩) (c12 : PySem.W.codeIn K cd12 "_law_is_game" = true) (k12 : PySem.W.keepIn K (.ref f12) = true)
    (a13 : PySem.W.nsIn K mainGlobals "_law_draws" = some (some (.ref f13))) (l13 : K.lookup f13 = some ⟨oc13, od13, .func (PySem.W.fnOf "_law_draws" "_law_draws" (defArgs s_u_law_draws) (defBody s_u_law_draws) (defScope s_u_law_draws) .none kV13 dc13 pm13 an13 cd13 ct13), sl13⟩) (c13 : PySem.W.codeIn K cd13 "_law_draws" = true) (k13 : PySem.W.keepIn K (.ref f13) = true)
    (a14 : PySem.W.nsIn K mainGlobals "_law_fraction" = some (some (.ref f14))) (l14 : K.lookup f14 = some ⟨oc14, od14, .func (PySem.W.fnOf "_law_fraction" "_law_fraction" (defArgs s_u_law_fraction) (defBody s_u_law_fraction) (defScope s_u_law_fraction) .none kV14 dc14 pm14 an14 cd14 ct14), sl14⟩) (c14 : PySem.W.codeIn K cd14 "_law_fraction" = true) (k14 : PySem.W.keepIn K (.ref f14) = true)
    (a15 : PySem.W.nsIn K mainGlobals "throw" = some (some (.ref f15))) (l15 : K.lookup f15 = some ⟨oc15, od15, .func (PySem.W.fnOf "throw" "throw" (defArgs s_throw) (defBody s_throw) (defScope s_throw) .none kV15 dc15 pm15 an15 cd15 ct15), sl15⟩) (c15 : PySem.W.codeIn K cd15 "throw" = true) (k15 : PySem.W.keepIn K (.ref f15) = true)
    (a16 : PySem.W.nsIn K mainGlobals "pay_row" = some (some (.ref f16))) (l16 : K.lookup f16 = some ⟨oc16, od16, .func (PySem.W.fnOf "pay_row" "pay_row" (defArgs s_pay_row) (defBody s_pay_row) (defScope s_pay_row) .none kV16 dc16 pm16 an16 cd16 ct16), sl16⟩) (c16 : PySem.W.codeIn K cd16 "pay_row" = true) (k16 : PySem.W.keepIn K (.ref f16) = true)
    (a17 : PySem.W.nsIn K mainGlobals "law" = some (some (.ref f17))) (l17 : K.lookup f17 = some ⟨oc17, od17, .func (PySem.W.fnOf "law" "law" (defArgs s_law) (defBody s_law) (defScope s_law) .none kV17 dc17 pm17 an17 cd17 ct17), sl17⟩) (c17 : PySem.W.codeIn K cd17 "law" = true) (k17 : PySem.W.keepIn K (.ref f17) = true)
    (z_len : PySem.W.nsIn K mainGlobals "len" = some none) (z_abs : PySem.W.nsIn K mainGlobals "abs" = some none) (z_int : PySem.W.nsIn K mainGlobals "int" = some none) (z_isinstance : PySem.W.nsIn K mainGlobals "isinstance" = some none) (z_max : PySem.W.nsIn K mainGlobals "max" = some none) (z_min : PySem.W.nsIn K mainGlobals "min" = some none) (z_list : PySem.W.nsIn K mainGlobals "list" = some none) (z_tuple : PySem.W.nsIn K mainGlobals "tuple" = some none) (z_sum : PySem.W.nsIn K mainGlobals "sum" = some none) (z_any : PySem.W.nsIn K mainGlobals "any" = some none) (z_all : PySem.W.nsIn K mainGlobals "all" = some none) (z_range : PySem.W.nsIn K mainGlobals "range" = some none) (z_sorted : PySem.W.nsIn K mainGlobals "sorted" = some none) (z_bool : PySem.W.nsIn K mainGlobals "bool" = some none) (z_str : PySem.W.nsIn K mainGlobals "str" = some none) (z_dict : PySem.W.nsIn K mainGlobals "dict" = some none)
    (zg : PySem.W.nsIn K mainGlobals "gcd" = some (some (.builtin "math.gcd")))
    : ∃ fd : FuncData, (∀ (s : Shared) (u : Value), BindsTo s fd ⟨[u], []⟩ [("script", u)]) ∧ LawOk PySem.Challenge.pw_anycompany_k15_steady_throw_pay_row w K mg S 50 fa fd "script" f_law := by
  have e := hfa.symm.trans (PySem.W.mg_of X G a17)
  cases e
  have B : Bl mg := ⟨PySem.W.mg_none_of X G z_len, PySem.W.mg_none_of X G z_abs, PySem.W.mg_none_of X G z_int, PySem.W.mg_none_of X G z_isinstance, PySem.W.mg_none_of X G z_max, PySem.W.mg_none_of X G z_min, PySem.W.mg_none_of X G z_list, PySem.W.mg_none_of X G z_tuple, PySem.W.mg_none_of X G z_sum, PySem.W.mg_none_of X G z_any, PySem.W.mg_none_of X G z_all, PySem.W.mg_none_of X G z_range, PySem.W.mg_none_of X G z_sorted, PySem.W.mg_none_of X G z_bool, PySem.W.mg_none_of X G z_str, PySem.W.mg_none_of X G z_dict⟩
  have mgcd := PySem.W.mg_of X G zg
  have df_u_law_cell : Df K mg "_law_cell" s_u_law_cell ["script", "k"] := df_mk X G a0 l0 c0 k0 fun _ _ _ _ _ _ us hl => match us, hl with | [_, _], _ => rfl
  have df_u_law_gcd : Df K mg "_law_gcd" s_u_law_gcd ["a", "b"] := df_mk X G a1 l1 c1 k1 fun _ _ _ _ _ _ us hl => match us, hl with | [_, _], _ => rfl
  have df_u_law_low : Df K mg "_law_low" s_u_law_low ["n", "d"] := df_mk X G a2 l2 c2 k2 fun _ _ _ _ _ _ us hl => match us, hl with | [_, _], _ => rfl
  have df_staying : Df K mg "staying" s_staying ["state"] := df_mk X G a3 l3 c3 k3 fun _ _ _ _ _ _ us hl => match us, hl with | [_], _ => rfl
  have df_steady : Df K mg "steady" s_steady ["reward"] := df_mk X G a4 l4 c4 k4 fun _ _ _ _ _ _ us hl => match us, hl with | [_], _ => rfl
  have df_u_law_same : Df K mg "_law_same" s_u_law_same ["actual", "due"] := df_mk X G a5 l5 c5 k5 fun _ _ _ _ _ _ us hl => match us, hl with | [_, _], _ => rfl
  have df_compare : Df K mg "compare" s_compare ["a", "b"] := df_mk X G a6 l6 c6 k6 fun _ _ _ _ _ _ us hl => match us, hl with | [_, _], _ => rfl
  have df_make_ratio : Df K mg "make_ratio" s_make_ratio ["n", "d"] := df_mk X G a7 l7 c7 k7 fun _ _ _ _ _ _ us hl => match us, hl with | [_, _], _ => rfl
  have df_add : Df K mg "add" s_add ["a", "b"] := df_mk X G a8 l8 c8 k8 fun _ _ _ _ _ _ us hl => match us, hl with | [_, _], _ => rfl
  have df_total : Df K mg "total" s_total ["values"] := df_mk X G a9 l9 c9 k9 fun _ _ _ _ _ _ us hl => match us, hl with | [_], _ => rfl
  have df_made_row : Df K mg "made_row" s_made_row ["pairs", "state", "size"] := df_mk X G a10 l10 c10 k10 fun _ _ _ _ _ _ us hl => match us, hl with | [_, _, _], _ => rfl
  have df_make_game : Df K mg "make_game" s_make_game ["rewards", "moves"] := df_mk X G a11 l11 c11 k11 fun _ _ _ _ _ _ us hl => match us, hl with | [_, _], _ => rfl
  have df_u_law_is_game : Df K mg "_law_is_game" s_u_law_is_game ["actual", "due"] := df_mk X G a12 l12 c12 k12 fun _ _ _ _ _ _ us hl => match us, hl with | [_, _], _ => rfl
  have df_u_law_draws : Df K mg "_law_draws" s_u_law_draws ["cell", "count"] := df_mk X G a13 l13 c13 k13 fun _ _ _ _ _ _ us hl => match us, hl with | [_, _], _ => rfl
  have df_u_law_fraction : Df K mg "_law_fraction" s_u_law_fraction ["draw"] := df_mk X G a14 l14 c14 k14 fun _ _ _ _ _ _ us hl => match us, hl with | [_], _ => rfl
  have df_throw : Df K mg "throw" s_throw ["reward", "outcomes"] := df_mk X G a15 l15 c15 k15 fun _ _ _ _ _ _ us hl => match us, hl with | [_, _], _ => rfl
  have df_pay_row : Df K mg "pay_row" s_pay_row ["rewards", "back"] := df_mk X G a16 l16 c16 k16 fun _ _ _ _ _ _ us hl => match us, hl with | [_, _], _ => rfl
  refine ⟨PySem.W.fnOf "law" "law" (defArgs s_law) (defBody s_law) (defScope s_law) .none kV17 dc17 pm17 an17 cd17 ct17, fun s u => .of_eq rfl, fun base _ _ seer => ?_⟩
  have c_u_law_cell := d_u_law_cell (w := w) (K := K) (mg := mg) (base := base) (S := S) B df_u_law_cell
  have c_u_law_gcd := d_u_law_gcd (w := w) (K := K) (mg := mg) (base := base) (S := S) B df_u_law_gcd
  have c_u_law_low := d_u_law_low (w := w) (K := K) (mg := mg) (base := base) (S := S) B seer df_u_law_low c_u_law_gcd
  have c_staying := d_staying (w := w) (K := K) (mg := mg) (base := base) (S := S) B df_staying
  have c_steady := d_steady (w := w) (K := K) (mg := mg) (base := base) (S := S) B df_steady c_staying
  have c_u_law_same : Cl PySem.Challenge.pw_anycompany_k15_steady_throw_pay_row w K mg base S 48 "_law_same" 2 f_u_law_same := r_u_law_same B df_u_law_same 8
  have c_compare := d_compare (w := w) (K := K) (mg := mg) (base := base) (S := S) B df_compare
  have c_make_ratio := d_make_ratio (w := w) (K := K) (mg := mg) (base := base) (S := S) B mgcd seer df_make_ratio
  have c_add := d_add (w := w) (K := K) (mg := mg) (base := base) (S := S) B df_add c_make_ratio
  have c_total := d_total (w := w) (K := K) (mg := mg) (base := base) (S := S) B df_total c_add
  have c_made_row := d_made_row (w := w) (K := K) (mg := mg) (base := base) (S := S) B df_made_row c_compare c_add c_total
  have c_make_game := d_make_game (w := w) (K := K) (mg := mg) (base := base) (S := S) B df_make_game c_made_row
  have c_u_law_is_game := d_u_law_is_game (w := w) (K := K) (mg := mg) (base := base) (S := S) B df_u_law_is_game c_u_law_same c_make_game
  have c_u_law_draws := d_u_law_draws (w := w) (K := K) (mg := mg) (base := base) (S := S) B seer df_u_law_draws
  have c_u_law_fraction := d_u_law_fraction (w := w) (K := K) (mg := mg) (base := base) (S := S) B seer df_u_law_fraction c_u_law_low
  have c_throw := d_throw (w := w) (K := K) (mg := mg) (base := base) (S := S) B df_throw c_staying
  have c_pay_row := d_pay_row (w := w) (K := K) (mg := mg) (base := base) (S := S) B df_pay_row
  exact d_law B seer (fun_mk l17 c17 k17) c_u_law_cell c_u_law_low c_steady c_u_law_is_game c_u_law_draws c_u_law_fraction c_throw c_pay_row
end Law
open PySem PySem.W PyProof.Rows in
set_option maxRecDepth 100000 in
set_option maxHeartbeats 0 in
theorem PySem.Challenge.cw_anycompany_k15_steady_throw_pay_row_holds : PySem.Challenge.rw_anycompany_k15_steady_throw_pay_row.Holds := by
  w_on; o_law; k_head; (case hw => w_witness2)
  k_fill
  refine Iv.end_of (l := PySem.Challenge.rw_anycompany_k15_steady_throw_pay_row) (n := 63) (k := 50) (x := "script") (S := fun _ _ => Law.xs) (fn := Law.f_law) rfl (by decide) rfl ⟨rfl, by decide, by decide⟩ (by decide +kernel) (fun w h Y => PySem.W.kIn_of Y) ?F Law.law_true
  case F =>
    intro w mg fa h KX G hmg
    refine' Law.all_mk KX G hmg ?a0 ?l0 ?c0 ?k0 ?a1 ?l1 ?c1 ?k1 ?a2 ?l2 ?c2 ?k2 ?a3 ?l3 ?c3 ?k3 ?a4 ?l4 ?c4 ?k4 ?a5 ?l5 ?c5 ?k5 ?a6 ?l6 ?c6 ?k6 ?a7 ?l7 ?c7 ?k7 ?a8 ?l8 ?c8 ?k8 ?a9 ?l9 ?c9 ?k9 ?a10 ?l10 ?c10 ?k10 ?a11 ?l11 ?c11 ?k11 ?a12 ?l12 ?c12 ?k12 ?a13 ?l13 ?c13 ?k13 ?a14 ?l14 ?c14 ?k14 ?a15 ?l15 ?c15 ?k15 ?a16 ?l16 ?c16 ?k16 ?a17 ?l17 ?c17 ?k17 ?z_len ?z_abs ?z_int ?z_isinstance ?z_max ?z_min ?z_list ?z_tuple ?z_sum ?z_any ?z_all ?z_range ?z_sorted ?z_bool ?z_str ?z_dict ?zg
    (case a0 => k_is)
    (case l0 => k_is)
    (case c0 => k_is)
    (case k0 => k_is)
    (case a1 => k_is)
    (case l1 => k_is)
    (case c1 => k_is)
    (case k1 => k_is)
    (case a2 => k_is)
    (case l2 => k_is)
    (case c2 => k_is)
    (case k2 => k_is)
    (case a3 => k_is)
    (case l3 => k_is)
    (case c3 => k_is)
    (case k3 => k_is)
    (case a4 => k_is)
    (case l4 => k_is)
    (case c4 => k_is)
    (case k4 => k_is)
    (case a5 => k_is)
    (case l5 => k_is)
    (case c5 => k_is)
    (case k5 => k_is)
    (case a6 => k_is)
    (case l6 => k_is)
    (case c6 => k_is)
    (case k6 => k_is)
    (case a7 => k_is)
    (case l7 => k_is)
    (case c7 => k_is)
    (case k7 => k_is)
    (case a8 => k_is)
    (case l8 => k_is)
    (case c8 => k_is)
    (case k8 => k_is)
    (case a9 => k_is)
    (case l9 => k_is)
    (case c9 => k_is)
    (case k9 => k_is)
    (case a10 => k_is)
    (case l10 => k_is)
    (case c10 => k_is)
    (case k10 => k_is)
    (case a11 => k_is)
    (case l11 => k_is)
    (case c11 => k_is)
    (case k11 => k_is)
    (case a12 => k_is)
    (case l12 => k_is)
    (case c12 => k_is)
    (case k12 => k_is)
    (case a13 => k_is)
    (case l13 => k_is)
    (case c13 => k_is)
    (case k13 => k_is)
    (case a14 => k_is)
    (case l14 => k_is)
    (case c14 => k_is)
    (case k14 => k_is)
    (case a15 => k_is)
    (case l15 => k_is)
    (case c15 => k_is)
    (case k15 => k_is)
    (case a16 => k_is)
    (case l16 => k_is)
    (case c16 => k_is)
    (case k16 => k_is)
    (case a17 => k_is)
    (case l17 => k_is)
    (case c17 => k_is)
    (case k17 => k_is)
    (case z_len => k_is)
    (case z_abs => k_is)
    (case z_int => k_is)
    (case z_isinstance => k_is)
    (case z_max => k_is)
    (case z_min => k_is)
    (case z_list => k_is)
    (case z_tuple => k_is)
    (case z_sum => k_is)
    (case z_any => k_is)
    (case z_all => k_is)
    (case z_range => k_is)
    (case z_sorted => k_is)
    (case z_bool => k_is)
    (case z_str => k_is)
    (case z_dict => k_is)
    (case zg => k_is)

