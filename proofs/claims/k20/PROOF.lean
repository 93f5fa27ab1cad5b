import PyProof.Rows.All
import Wide.All
import OpenK.AllK
import Wide.FinOn
import PyProof.EqAt
import PyProof.EqKinds
import PyProof.TupleCall
import HandS.ForMost
import HandS.Wide
import HandS.Gcd
import HandS.More
import HandS.Style
import HandS.Comp
import HandS.Zip
import HandS.TupLe
import HandS.Flow
import HandS.IsInst
import HandS.TupAny
import HandS.TupMul
import HandS.WideBits
import KE.GoesEnumKw
import KE.GoesMore
import PySem.Challenge.RW_sawrounds_k20_whole_both_ends
set_option Elab.async false
set_option linter.all false
set_option maxRecDepth 100000
set_option maxHeartbeats 2000000
/-! Sx1: data instead of heaps. A layer of our own over the hand layer: what a piece of syntax asks is said over plain data (PyData), no address in sight. -/
namespace Sx
open PySem L2

/-! ### data in a heap -/
mutual
inductive Dm (M : Addr → Prop) (H : Hp) : V → PyData → Prop
  | non : Dm M H .non .none
  | bl (b : Bool) : Dm M H (.bl b) (.bool b)
  | int (i : Int) : Dm M H (.int i) (.int i)
  | str (x : Str) : Dm M H (.str x) (.str x)
  | lst {a : Addr} {xs : List V} {ds : List PyData} (hm : ¬ M a) (ha : H a = some (.lst xs)) (hd : DmA M H xs ds) : Dm M H (.ref a) (.list ds)
  | tup {a : Addr} {xs : List V} {ds : List PyData} (hm : ¬ M a) (ha : H a = some (.tup xs)) (hd : DmA M H xs ds) : Dm M H (.ref a) (.tuple ds)
inductive DmA (M : Addr → Prop) (H : Hp) : List V → List PyData → Prop
  | nil : DmA M H [] []
  | cons {v : V} {vs : List V} {d : PyData} {ds : List PyData} (h : Dm M H v d) (t : DmA M H vs ds) : DmA M H (v :: vs) (d :: ds)
end

/-- all that is tracked and not in N stays -/
def Ext (N : Addr → Prop) (H H' : Hp) : Prop := ∀ a o, H a = some o → ¬ N a → H' a = some o
theorem Ext.rfl' {N : Addr → Prop} (H : Hp) : Ext N H H := fun _ _ h _ => h
theorem Ext.trans {N : Addr → Prop} {A B C : Hp} (x : Ext N A B) (y : Ext N B C) : Ext N A C := fun a o h n => y a o (x a o h n) n
theorem Ext.weak {N N' : Addr → Prop} {A B : Hp} (x : Ext N A B) (h : ∀ a, N a → N' a) : Ext N' A B := fun a o e n => x a o e fun z => n (h a z)
theorem Ext.new {N : Addr → Prop} {H : Hp} {p : Addr} {o : HO} (hp : H p = none) : Ext N H (upd H p o) := fun a u e _ => by
  rw [upd_ne (ne_of_none e hp)]; exact e

section
variable {M M' : Addr → Prop} {H H' : Hp}
mutual
theorem Dm.mono (e : Ext M H H') : ∀ {v : V} {d : PyData}, Dm M H v d → Dm M H' v d
  | _, _, .non => .non
  | _, _, .bl b => .bl b
  | _, _, .int i => .int i
  | _, _, .str x => .str x
  | _, _, .lst hm ha hd => .lst hm (e _ _ ha hm) (DmA.mono e hd)
  | _, _, .tup hm ha hd => .tup hm (e _ _ ha hm) (DmA.mono e hd)
theorem DmA.mono (e : Ext M H H') : ∀ {vs : List V} {ds : List PyData}, DmA M H vs ds → DmA M H' vs ds
  | _, _, .nil => .nil
  | _, _, .cons h t => .cons (Dm.mono e h) (DmA.mono e t)
end
mutual
theorem Dm.weak (w : ∀ a, M' a → M a) : ∀ {v : V} {d : PyData}, Dm M H v d → Dm M' H v d
  | _, _, .non => .non
  | _, _, .bl b => .bl b
  | _, _, .int i => .int i
  | _, _, .str x => .str x
  | _, _, .lst hm ha hd => .lst (fun z => hm (w _ z)) ha (DmA.weak w hd)
  | _, _, .tup hm ha hd => .tup (fun z => hm (w _ z)) ha (DmA.weak w hd)
theorem DmA.weak (w : ∀ a, M' a → M a) : ∀ {vs : List V} {ds : List PyData}, DmA M H vs ds → DmA M' H vs ds
  | _, _, .nil => .nil
  | _, _, .cons h t => .cons (Dm.weak w h) (DmA.weak w t)
end
mutual
/-- one more address is kept out: a new one -/
theorem Dm.more {p : Addr} (hp : H p = none) : ∀ {v : V} {d : PyData}, Dm M H v d → Dm (fun a => M a ∨ a = p) H v d
  | _, _, .non => .non
  | _, _, .bl b => .bl b
  | _, _, .int i => .int i
  | _, _, .str x => .str x
  | _, _, .lst hm ha hd => .lst (fun z => z.elim hm fun q => ne_of_none ha hp q) ha (DmA.more hp hd)
  | _, _, .tup hm ha hd => .tup (fun z => z.elim hm fun q => ne_of_none ha hp q) ha (DmA.more hp hd)
theorem DmA.more {p : Addr} (hp : H p = none) : ∀ {vs : List V} {ds : List PyData}, DmA M H vs ds → DmA (fun a => M a ∨ a = p) H vs ds
  | _, _, .nil => .nil
  | _, _, .cons h t => .cons (Dm.more hp h) (DmA.more hp t)
end
mutual
theorem Dm.dp (K : PySem.W.Frag) : ∀ {v : V} {d : PyData}, Dm M H v d → Dp K H v d
  | _, _, .non => .non
  | _, _, .bl b => .bl b
  | _, _, .int i => .int i
  | _, _, .str x => .str x
  | _, _, .lst _ ha hd => .lst (SqL.of ha) (DmA.dp K hd)
  | _, _, .tup _ ha hd => .tup (SqT.of ha) (DmA.dp K hd)
theorem DmA.dp (K : PySem.W.Frag) : ∀ {vs : List V} {ds : List PyData}, DmA M H vs ds → DpAll K H vs ds
  | _, _, .nil => .nil
  | _, _, .cons h t => .cons (Dm.dp K h) (DmA.dp K t)
end
theorem DmA.length : ∀ {vs : List V} {ds : List PyData}, DmA M H vs ds → vs.length = ds.length
  | _, _, .nil => rfl
  | _, _, .cons _ t => congrArg (· + 1) (DmA.length t)
theorem DmA.get : ∀ {vs : List V} {ds : List PyData} {i : Nat} {d : PyData}, DmA M H vs ds → ds[i]? = some d → ∃ v, vs[i]? = some v ∧ Dm M H v d
  | _, _, _, _, .nil, e => by simp at e
  | _, _, 0, _, .cons h _, e => by simp at e; subst e; exact ⟨_, rfl, h⟩
  | _, _, i + 1, d, .cons _ t, e => by
    obtain ⟨u, h1, h2⟩ := DmA.get (i := i) (d := d) t (by simpa using e)
    exact ⟨u, by simpa using h1, h2⟩
theorem DmA.getV : ∀ {vs : List V} {ds : List PyData} {i : Nat} {v : V}, DmA M H vs ds → vs[i]? = some v → ∃ d, ds[i]? = some d ∧ Dm M H v d
  | _, _, _, _, .nil, e => by simp at e
  | _, _, 0, _, .cons h _, e => by simp at e; subst e; exact ⟨_, rfl, h⟩
  | _, _, i + 1, d, .cons _ t, e => by
    obtain ⟨u, h1, h2⟩ := DmA.getV (i := i) (v := d) t (by simpa using e)
    exact ⟨u, by simpa using h1, h2⟩
theorem DmA.append : ∀ {vs ws : List V} {ds es : List PyData}, DmA M H vs ds → DmA M H ws es → DmA M H (vs ++ ws) (ds ++ es)
  | _, _, _, _, .nil, h => h
  | _, _, _, _, .cons h t, q => .cons h (DmA.append t q)
theorem DmA.take (n : Nat) : ∀ {vs : List V} {ds : List PyData}, DmA M H vs ds → DmA M H (vs.take n) (ds.take n) := by
  induction n with
  | zero => intro vs ds _; exact .nil
  | succ n ih =>
    intro vs ds h
    cases h with
    | nil => exact .nil
    | cons h t => exact .cons h (ih t)
theorem DmA.drop (n : Nat) : ∀ {vs : List V} {ds : List PyData}, DmA M H vs ds → DmA M H (vs.drop n) (ds.drop n) := by
  induction n with
  | zero => intro vs ds h; exact h
  | succ n ih =>
    intro vs ds h
    cases h with
    | nil => exact .nil
    | cons h t => exact ih t
theorem DmA.rep (k : Nat) {vs : List V} {ds : List PyData} (h : DmA M H vs ds) : DmA M H (List.replicate k vs).flatten (List.replicate k ds).flatten := by
  induction k with
  | zero => exact .nil
  | succ k ih =>
    rw [List.replicate_succ, List.replicate_succ, List.flatten_cons, List.flatten_cons]
    exact h.append ih
end

/-! ### the drawn numbers' object -/
abbrev DrA := Option (Addr × Addr × Addr)
def dr : DrA → Addr → Prop
  | none, _ => False
  | some (d, l, c), a => a = d ∨ a = l ∨ a = c
/-- cells, lefts, at; n: at is at most this -/
def Draws (H : Hp) (d l c : Addr) (n : Nat) : Prop := ∃ (cs ls : List Int) (at_ : Int),
  H d = some (.dK [(Sum.inr "cells", .ref c), (Sum.inr "lefts", .ref l), (Sum.inr "at", .int at_)]) ∧ H l = some (.lst (ls.map V.int)) ∧ H c = some (.lst (cs.map V.int)) ∧ l ≠ c ∧
  ls.length = cs.length ∧ 0 < cs.length ∧ 0 ≤ at_ ∧ at_ ≤ (n : Int)
def WR (ω : DrA) (n : Nat) (H : Hp) : Prop := match ω with
  | none => True
  | some (d, l, c) => Draws H d l c n
theorem Draws.weak {H : Hp} {d l c : Addr} {n m : Nat} (h : Draws H d l c n) (k : n ≤ m) : Draws H d l c m := by
  obtain ⟨cs, ls, t, h1, h2, h3, h4, h5, h6, h7, h8⟩ := h
  exact ⟨cs, ls, t, h1, h2, h3, h4, h5, h6, h7, by omega⟩
theorem WR.weak {ω : DrA} {H : Hp} {n m : Nat} (h : WR ω n H) (k : n ≤ m) : WR ω m H := by
  cases ω with
  | none => trivial
  | some x => obtain ⟨d, l, c⟩ := x; exact Draws.weak h k
theorem WR.dom {ω : DrA} {H : Hp} {n : Nat} (h : WR ω n H) {a : Addr} (ha : dr ω a) : H a ≠ none := by
  cases ω with
  | none => exact ha.elim
  | some x =>
    obtain ⟨d, l, c⟩ := x
    obtain ⟨cs, ls, t, h1, h2, h3, _⟩ := h
    rcases ha with rfl | rfl | rfl
    · rw [h1]; simp
    · rw [h2]; simp
    · rw [h3]; simp
/-- a new object leaves the draws as they are -/
theorem WR.new {ω : DrA} {H : Hp} {n : Nat} {p : Addr} {o : HO} (h : WR ω n H) (hp : H p = none) : WR ω n (upd H p o) := by
  cases ω with
  | none => trivial
  | some x =>
    obtain ⟨d, l, c⟩ := x
    obtain ⟨cs, ls, t, h1, h2, h3, r⟩ := h
    exact ⟨cs, ls, t, by rw [upd_ne (ne_of_none h1 hp)]; exact h1, by rw [upd_ne (ne_of_none h2 hp)]; exact h2, by rw [upd_ne (ne_of_none h3 hp)]; exact h3, r⟩
/-- a write elsewhere as well -/
theorem WR.wr {ω : DrA} {H : Hp} {n : Nat} {p : Addr} {o : HO} (h : WR ω n H) (hp : ¬ dr ω p) : WR ω n (upd H p o) := by
  cases ω with
  | none => trivial
  | some x =>
    obtain ⟨d, l, c⟩ := x
    obtain ⟨cs, ls, t, h1, h2, h3, r⟩ := h
    refine ⟨cs, ls, t, ?_, ?_, ?_, r⟩
    · rw [upd_ne fun e => hp (.inl e.symm)]; exact h1
    · rw [upd_ne fun e => hp (.inr (.inl e.symm))]; exact h2
    · rw [upd_ne fun e => hp (.inr (.inr e.symm))]; exact h3

/-! ### values and slots -/
inductive DV where
  | dat (d : PyData)
  | draws
  | own (ds : List PyData)
abbrev IV (i : Int) : DV := .dat (.int i)
abbrev BV (b : Bool) : DV := .dat (.bool b)
abbrev TV (ds : List PyData) : DV := .dat (.tuple ds)
abbrev LV (ds : List PyData) : DV := .dat (.list ds)
def VRep (ω : DrA) (M : Addr → Prop) (H : Hp) (v : V) : DV → Prop
  | .dat d => Dm M H v d
  | .draws => ∃ d l c, ω = some (d, l, c) ∧ v = .ref d
  | .own _ => False
theorem VRep.mono {ω : DrA} {M : Addr → Prop} {H H' : Hp} {v : V} {x : DV} (e : Ext M H H') (h : VRep ω M H v x) : VRep ω M H' v x := by
  cases x with
  | dat d => exact Dm.mono e h
  | draws => exact h
  | own ds => exact h
theorem VRep.weak {ω : DrA} {M M' : Addr → Prop} {H : Hp} {v : V} {x : DV} (w : ∀ a, M' a → M a) (h : VRep ω M H v x) : VRep ω M' H v x := by
  cases x with
  | dat d => exact Dm.weak w h
  | draws => exact h
  | own ds => exact h
abbrev VReps (ω : DrA) (M : Addr → Prop) (H : Hp) : List V → List DV → Prop := Paired (VRep ω M H)
theorem VReps.mono {ω : DrA} {M : Addr → Prop} {H H' : Hp} (e : Ext M H H') : ∀ {vs : List V} {xs : List DV}, VReps ω M H vs xs → VReps ω M H' vs xs
  | _, _, .nil => .nil
  | _, _, .cons h t => .cons (h.mono e) (VReps.mono e t)
/-- data one by one -/
theorem VReps.dat {ω : DrA} {M : Addr → Prop} {H : Hp} : ∀ {vs : List V} {ds : List PyData}, VReps ω M H vs (ds.map .dat) → DmA M H vs ds
  | _, [], .nil => .nil
  | _, _ :: _, .cons h t => .cons h (VReps.dat t)
theorem VReps.of {ω : DrA} {M : Addr → Prop} {H : Hp} : ∀ {vs : List V} {ds : List PyData}, DmA M H vs ds → VReps ω M H vs (ds.map .dat)
  | _, [], .nil => .nil
  | _, _ :: _, .cons h t => .cons h (VReps.of t)

abbrev En := List (Option DV)
/-- a def's run: the draws' addresses, the heap at its entry, what the caller keeps to itself, data that a loop holds on to -/
structure Cw where
  ω : DrA
  H0 : Hp
  M0 : Addr → Prop
  gh : List (V × PyData)
  gr : List (Addr × HO)
def SlotV (c : Cw) (M : Addr → Prop) (H : Hp) (v : V) : DV → Prop
  | .own ds => ∃ a xs, v = .ref a ∧ M a ∧ ¬ c.M0 a ∧ c.H0 a = none ∧ H a = some (.lst xs) ∧ DmA M H xs ds
  | x => VRep c.ω M H v x
structure Sta (c : Cw) (M : Addr → Prop) (σ : St) (H : Hp) (env : En) (n : Nat) : Prop where
  m0 : ∀ a, c.M0 a → M a
  d0 : ∀ a, dr c.ω a → c.M0 a
  dom : ∀ a, M a → H a ≠ none
  wr : WR c.ω n H
  keep : Ext (dr c.ω) c.H0 H
  len : σ.length = env.length
  gh : ∀ p ∈ c.gh, Dm M H p.1 p.2
  gr : ∀ p ∈ c.gr, ¬ M p.1 ∧ H p.1 = some p.2
  slot : ∀ (i : Nat) (x : DV), env[i]? = some (some x) → ∃ v, σ[i]? = some (some v) ∧ SlotV c M H v x
  own : ∀ (i j : Nat) (xs ys : List PyData) (v : V), env[i]? = some (some (.own xs)) → env[j]? = some (some (.own ys)) → σ[i]? = some (some v) → σ[j]? = some (some v) → i = j
theorem SlotV.step {c : Cw} {M : Addr → Prop} {H H' : Hp} {v : V} {x : DV} (d : ∀ a, dr c.ω a → M a) (d0 : ∀ a, dr c.ω a → c.M0 a) (e : Ext (dr c.ω) H H') (h : SlotV c M H v x) : SlotV c M H' v x := by
  cases x with
  | dat q => exact Dm.mono (e.weak d) h
  | draws => exact h
  | own ds =>
    obtain ⟨a, xs, h1, h2, h3, h4, h5, h6⟩ := h
    exact ⟨a, xs, h1, h2, h3, h4, e _ _ h5 fun z => h3 (d0 _ z), h6.mono (e.weak d)⟩
theorem Sta.dM {c : Cw} {M : Addr → Prop} {σ : St} {H : Hp} {env : En} {n : Nat} (S : Sta c M σ H env n) : ∀ a, dr c.ω a → M a := fun a h => S.m0 a (S.d0 a h)
/-- an expression was walked -/
theorem Sta.step {c : Cw} {M : Addr → Prop} {σ : St} {H H' : Hp} {env : En} {n n' : Nat} (S : Sta c M σ H env n) (e : Ext (dr c.ω) H H') (w : WR c.ω n' H') : Sta c M σ H' env n' where
  m0 := S.m0
  d0 := S.d0
  dom := fun a ha => by
    by_cases q : dr c.ω a
    · exact w.dom q
    · cases z : H a with
      | none => exact absurd z (S.dom a ha)
      | some o => rw [e a o z q]; simp
  wr := w
  keep := S.keep.trans e
  len := S.len
  gh := fun p hp => (S.gh p hp).mono (e.weak fun a h => S.m0 a (S.d0 a h))
  gr := fun p hp => ⟨(S.gr p hp).1, e _ _ (S.gr p hp).2 fun z => (S.gr p hp).1 (S.m0 _ (S.d0 _ z))⟩
  slot := fun i x h => let ⟨v, h1, h2⟩ := S.slot i x h; ⟨v, h1, h2.step S.dM S.d0 e⟩
  own := S.own

/-! ### readings over data -/
abbrev DT := En → Nat → (DV → Nat → Prop) → Prop
abbrev DTB := En → Nat → (Bool → Nat → Prop) → Prop
abbrev DTA := En → Nat → (List DV → Nat → Prop) → Prop
structure DEnds where
  nx : En → Nat → Prop
  rt : DV → Nat → Prop
  bk : En → Nat → Prop := fun _ _ => False
  ct : En → Nat → Prop := fun _ _ => False
abbrev DTS := DEnds → En → Nat → Prop
def cE (t : DT) : TE := fun σ H Q => ∃ c M env n R, Sta c M σ H env n ∧ t env n R ∧ ∀ v H' d n', Ext (dr c.ω) H H' → WR c.ω n' H' → VRep c.ω M H' v d → R d n' → Q v H'
def cT (t : DTB) : TT := fun σ H Q => ∃ c M env n R, Sta c M σ H env n ∧ t env n R ∧ ∀ b H' n', Ext (dr c.ω) H H' → WR c.ω n' H' → R b n' → Q b H'
def cA (t : DTA) : TA := fun σ H Q => ∃ c M env n R, Sta c M σ H env n ∧ t env n R ∧ ∀ vs H' ds n', Ext (dr c.ω) H H' → WR c.ω n' H' → VReps c.ω M H' vs ds → R ds n' → Q vs H'
structure Leads (c : Cw) (F : DEnds) (E : Ends) : Prop where
  nx : ∀ M σ H env n, Sta c M σ H env n → F.nx env n → E.nx σ H
  bk : ∀ M σ H env n, Sta c M σ H env n → F.bk env n → E.bk σ H
  ct : ∀ M σ H env n, Sta c M σ H env n → F.ct env n → E.ct σ H
  rt : ∀ v H d n, Ext (dr c.ω) c.H0 H → WR c.ω n H → VRep c.ω c.M0 H v d → F.rt d n → E.rt v H
def cS (t : DTS) : TS := fun E σ H => ∃ c M env n F, Sta c M σ H env n ∧ t F env n ∧ Leads c F E
abbrev FE (X : Cx) (e : Expr) (t : DT) : Prop := PE X e (cE t)
abbrev FT (X : Cx) (e : Expr) (t : DTB) : Prop := PT X e (cT t)
abbrev FW (X : Cx) (e : Expr) (t : DTB) : Prop := PW X e (cT t)
abbrev FA (X : Cx) (es : List Expr) (t : DTA) : Prop := PA X es (cA t)
abbrev FS (X : Cx) (s : Stmt) (t : DTS) : Prop := PS X s (cS t)
abbrev FSs (X : Cx) (ss : List Stmt) (t : DTS) : Prop := PSs X ss (cS t)

section
variable {X : Cx}
def OutE (c : Cw) (M : Addr → Prop) (H : Hp) (R : DV → Nat → Prop) : VK := fun v H' => ∃ d n', Ext (dr c.ω) H H' ∧ WR c.ω n' H' ∧ VRep c.ω M H' v d ∧ R d n'
def OutT (c : Cw) (H : Hp) (R : Bool → Nat → Prop) : Bool → Hp → Prop := fun b H' => ∃ n', Ext (dr c.ω) H H' ∧ WR c.ω n' H' ∧ R b n'
def OutA (c : Cw) (M : Addr → Prop) (H : Hp) (R : List DV → Nat → Prop) : List V → Hp → Prop := fun v H' => ∃ d n', Ext (dr c.ω) H H' ∧ WR c.ω n' H' ∧ VReps c.ω M H' v d ∧ R d n'
theorem FE.of {e : Expr} {te : TE} {t : DT} (h : PE X e te) (q : ∀ c M σ H env n R, Sta c M σ H env n → t env n R → te σ H (OutE c M H R)) : FE X e t :=
  ⟨fun pins s σ H Q I ⟨c, M, env, n, R, S, ht, k⟩ => thn (h.run pins s σ H _ I (q c M σ H env n R S ht)) fun _ _ ⟨v, H', I', r, d, n', e, w, m, z⟩ => ⟨v, H', I', r, k v H' d n' e w m z⟩⟩
theorem FT.of {e : Expr} {te : TT} {t : DTB} (h : PT X e te) (q : ∀ c M σ H env n R, Sta c M σ H env n → t env n R → te σ H (OutT c H R)) : FT X e t :=
  ⟨fun pins s σ H Q I ⟨c, M, env, n, R, S, ht, k⟩ => thn (h.run pins s σ H _ I (q c M σ H env n R S ht)) fun b _ ⟨H', I', n', e, w, z⟩ => ⟨H', I', k b H' n' e w z⟩⟩
theorem FW.of {e : Expr} {te : TT} {t : DTB} (h : PW X e te) (q : ∀ c M σ H env n R, Sta c M σ H env n → t env n R → te σ H (OutT c H R)) : FW X e t :=
  ⟨fun wh pins s σ H Q I ⟨c, M, env, n, R, S, ht, k⟩ => thn (h.run wh pins s σ H _ I (q c M σ H env n R S ht)) fun b _ ⟨H', I', n', e, w, z⟩ => ⟨H', I', k b H' n' e w z⟩⟩
theorem FA.of {es : List Expr} {ta : TA} {t : DTA} (h : PA X es ta) (q : ∀ c M σ H env n R, Sta c M σ H env n → t env n R → ta σ H (OutA c M H R)) : FA X es t :=
  ⟨fun pos pins s σ H Q I ⟨c, M, env, n, R, S, ht, k⟩ => thn (h.run pos pins s σ H _ I (q c M σ H env n R S ht)) fun _ _ ⟨vs, H', I', r, d, n', e, w, m, z⟩ => ⟨vs, H', I', r, k vs H' d n' e w m z⟩⟩
theorem goE {t : DT} {c : Cw} {M : Addr → Prop} {σ : St} {H : Hp} {env : En} {n : Nat} {R : DV → Nat → Prop} {Q : VK} (S : Sta c M σ H env n) (h : t env n R)
    (k : ∀ v H' d n', Ext (dr c.ω) H H' → WR c.ω n' H' → VRep c.ω M H' v d → R d n' → Q v H') : cE t σ H Q := ⟨c, M, env, n, R, S, h, k⟩
theorem goT {t : DTB} {c : Cw} {M : Addr → Prop} {σ : St} {H : Hp} {env : En} {n : Nat} {R : Bool → Nat → Prop} {Q : Bool → Hp → Prop} (S : Sta c M σ H env n) (h : t env n R)
    (k : ∀ b H' n', Ext (dr c.ω) H H' → WR c.ω n' H' → R b n' → Q b H') : cT t σ H Q := ⟨c, M, env, n, R, S, h, k⟩
theorem goA {t : DTA} {c : Cw} {M : Addr → Prop} {σ : St} {H : Hp} {env : En} {n : Nat} {R : List DV → Nat → Prop} {Q : List V → Hp → Prop} (S : Sta c M σ H env n) (h : t env n R)
    (k : ∀ v H' d n', Ext (dr c.ω) H H' → WR c.ω n' H' → VReps c.ω M H' v d → R d n' → Q v H') : cA t σ H Q := ⟨c, M, env, n, R, S, h, k⟩
end
end Sx

set_option Elab.async false
set_option linter.all false
set_option maxRecDepth 100000
set_option maxHeartbeats 2000000
namespace Sx
open PySem L2
section
variable {X : Cx} {e a b : Expr} {es : List Expr} {pos : Pos} {ta tb tc : DT} {t u : DTB} {tl : DTA}

/-! ### names, constants -/
def dVar (i : Nat) : DT := fun env n R => match env[i]? with
  | some (some (.dat d)) => R (.dat d) n
  | some (some .draws) => R .draws n
  | _ => False
theorem fe_var {i : Nat} {x : Str} (h : PE X (.Name x pos) (tVar i)) : FE X (.Name x pos) (dVar i) := FE.of h fun c M σ H env n R S q => by
  have q' : dVar i env n R := q
  unfold dVar at q'
  cases z : env[i]? with
  | none => rw [z] at q'; exact q'.elim
  | some w =>
    cases w with
    | none => rw [z] at q'; exact q'.elim
    | some y =>
      rw [z] at q'
      obtain ⟨v, hv, rv⟩ := S.slot i y z
      cases y with
      | dat d => exact ⟨v, hv, .dat d, n, Ext.rfl' H, S.wr, rv, q'⟩
      | draws => exact ⟨v, hv, .draws, n, Ext.rfl' H, S.wr, rv, q'⟩
      | own ds => exact q'.elim
def dC (d : PyData) : DT := fun _ n R => R (.dat d) n
theorem fe_con {v : V} {d : PyData} (h : PE X e (tC v)) (r : ∀ M H, Dm M H v d) : FE X e (dC d) := FE.of h fun c M σ H env n R S q => ⟨.dat d, n, Ext.rfl' H, S.wr, r M H, q⟩
theorem fe_int {i j} : FE X (.Constant (.int i) j pos) (dC (.int i)) := fe_con pe_int fun _ _ => .int i
theorem fe_bl {i j} : FE X (.Constant (.bool i) j pos) (dC (.bool i)) := fe_con pe_bl fun _ _ => .bl i
theorem fe_non {j} : FE X (.Constant .none j pos) (dC .none) := fe_con pe_non fun _ _ => .non
theorem fe_str {i j} : FE X (.Constant (.str i) j pos) (dC (.str i)) := fe_con pe_str fun _ _ => .str i

/-! ### operations on two values, on one -/
abbrev DO2 := DV → DV → (DV → Prop) → Prop
abbrev DO1 := DV → (DV → Prop) → Prop
def OkO (r : R2) (o : DO2) : Prop := ∀ (c : Cw) (M : Addr → Prop) (H : Hp) (x y : V) (d f : DV) (n : Nat) (R : DV → Prop) (Q : VK), (∀ a, M a → H a ≠ none) → (∀ a, dr c.ω a → M a) → WR c.ω n H → VRep c.ω M H x d → VRep c.ω M H y f → o d f R →
  (∀ v H' z, Ext (dr c.ω) H H' → WR c.ω n H' → VRep c.ω M H' v z → R z → Q v H') → r x y H Q
def OkU (r : V → Hp → VK → Prop) (o : DO1) : Prop := ∀ (c : Cw) (M : Addr → Prop) (H : Hp) (x : V) (d : DV) (n : Nat) (R : DV → Prop) (Q : VK), (∀ a, M a → H a ≠ none) → (∀ a, dr c.ω a → M a) → WR c.ω n H → VRep c.ω M H x d → o d R →
  (∀ v H' z, Ext (dr c.ω) H H' → WR c.ω n H' → VRep c.ω M H' v z → R z → Q v H') → r x H Q
def dOp (o : DO2) (ta tb : DT) : DT := fun env n R => ta env n fun x n1 => tb env n1 fun y n2 => o x y fun z => R z n2
def dUn (o : DO1) (ta : DT) : DT := fun env n R => ta env n fun x n1 => o x fun z => R z n1
/-- two values in a row -/
theorem two {te : TE} {r : R2} {o : DO2} (k : OkO r o) (c : Cw) (M : Addr → Prop) (σ : St) (H : Hp) (env : En) (n : Nat) (R : DV → Nat → Prop) (S : Sta c M σ H env n) (h : dOp o ta tb env n R) : tOp r (cE ta) (cE tb) σ H (OutE c M H R) :=
  goE S h fun x H1 d1 n1 e1 w1 m1 q1 => goE (S.step e1 w1) q1 fun y H2 d2 n2 e2 w2 m2 q2 =>
    k c M H2 x y d1 d2 n2 (fun z => R z n2) (OutE c M H R) (S.step (e1.trans e2) w2).dom S.dM w2 (m1.mono (e2.weak S.dM)) m2 q2 fun v H' z e3 w3 m3 q3 => ⟨z, n2, (e1.trans e2).trans e3, w3, m3, q3⟩
theorem fe_op {op : Operator} {r : R2} {o : DO2} (ho : OpR X (binaryOp op) r) (k : OkO r o) (ha : FE X a ta) (hb : FE X b tb) : FE X (.BinOp a op b pos) (dOp o ta tb) := FE.of (pe_op ho ha hb) fun c M σ H env n R S h => two (te := cE ta) k c M σ H env n R S h
theorem fe_cmp {op : CmpOp} {r : R2} {o : DO2} (ho : OpR X (compareOp op) r) (k : OkO r o) (ha : FE X a ta) (hb : FE X b tb) (hm : behindInMarks op b = false) : FE X (.Compare a [op] [b] pos) (dOp o ta tb) := FE.of (pe_cmpR ho ha hb hm) fun c M σ H env n R S h => two (te := cE ta) k c M σ H env n R S h
def dTest (t : DT) : DTB := fun env n R => t env n fun z n' => match z with
  | .dat (.bool k) => R k n'
  | _ => False
theorem ft_cmp {op : CmpOp} {r : R2} {o : DO2} (ho : OpR X (compareOp op) r) (k : OkO r o) (ha : FE X a ta) (hb : FE X b tb) (hm : behindInMarks op b = false) : FT X (.Compare a [op] [b] pos) (dTest (dOp o ta tb)) := FT.of (pt_cmpR ho ha hb hm) fun c M σ H env n R S h =>
  goE S h fun x H1 d1 n1 e1 w1 m1 q1 => goE (S.step e1 w1) q1 fun y H2 d2 n2 e2 w2 m2 q2 =>
    k c M H2 x y d1 d2 n2 _ _ (S.step (e1.trans e2) w2).dom S.dM w2 (m1.mono (e2.weak S.dM)) m2 q2 fun v H' z e3 w3 m3 q3 => by
      cases z with
      | draws => exact q3.elim
      | own ds => exact q3.elim
      | dat d =>
        cases d with
        | bool k =>
          cases m3
          exact ⟨k, rfl, n2, (e1.trans e2).trans e3, w3, q3⟩
        | _ => exact q3.elim
theorem fe_un {op : UnaryOp} {r : V → Hp → VK → Prop} {o : DO1} (ho : UnR X (unaryOp op) r) (k : OkU r o) (ha : FE X a ta) : FE X (.UnaryOp op a pos) (dUn o ta) := FE.of (pe_un ho ha) fun c M σ H env n R S h =>
  goE S h fun x H1 d1 n1 e1 w1 m1 q1 => k c M H1 x d1 n1 (fun z => R z n1) _ (S.step e1 w1).dom S.dM w1 m1 q1 fun v H' z e3 w3 m3 q3 => ⟨z, n1, e1.trans e3, w3, m3, q3⟩

/-- ints in, under C -/
def oI (C : Int → Int → Prop) (g : Int → Int → PyData) : DO2 := fun x y R => match x, y with
  | .dat (.int i), .dat (.int j) => C i j ∧ R (.dat (g i j))
  | _, _ => False
def oI0 (g : Int → Int → PyData) : DO2 := fun x y R => match x, y with
  | .dat (.int i), .dat (.int j) => R (.dat (g i j))
  | _, _ => False
theorem oI_inv {C : Int → Int → Prop} {g : Int → Int → PyData} {x y : DV} {R : DV → Prop} (h : oI C g x y R) : ∃ i j, x = IV i ∧ y = IV j ∧ C i j ∧ R (.dat (g i j)) := by
  unfold oI at h
  split at h
  · exact ⟨_, _, rfl, rfl, h.1, h.2⟩
  · exact h.elim
theorem oI0_inv {g : Int → Int → PyData} {x y : DV} {R : DV → Prop} (h : oI0 g x y R) : ∃ i j, x = IV i ∧ y = IV j ∧ R (.dat (g i j)) := by
  unfold oI0 at h
  split at h
  · exact ⟨_, _, rfl, rfl, h⟩
  · exact h.elim
theorem ok_I {C : Int → Int → Prop} {gv : Int → Int → V} {g : Int → Int → PyData} (r : ∀ M H i j, Dm M H (gv i j) (g i j)) : OkO (rI C gv) (oI C g) := fun c M H x y d f n R Q hd hr w hx hy h k => by
  obtain ⟨i, j, rfl, rfl, hc, q⟩ := oI_inv h
  cases hx
  cases hy
  exact ⟨i, j, rfl, rfl, hc, k _ H (.dat (g i j)) (Ext.rfl' H) w (r M H i j) q⟩
theorem ok_I0 {gv : Int → Int → V} {g : Int → Int → PyData} (r : ∀ M H i j, Dm M H (gv i j) (g i j)) : OkO (rI0 gv) (oI0 g) := fun c M H x y d f n R Q hd hr w hx hy h k => by
  obtain ⟨i, j, rfl, rfl, q⟩ := oI0_inv h
  cases hx
  cases hy
  exact ⟨i, j, rfl, rfl, k _ H (.dat (g i j)) (Ext.rfl' H) w (r M H i j) q⟩
abbrev oAdd : DO2 := oI0 fun i j => .int (i + j)
abbrev oSub : DO2 := oI0 fun i j => .int (i - j)
abbrev oMul : DO2 := oI CMulW fun i j => .int (i * j)
abbrev oDiv : DO2 := oI CDivW fun i j => .int (i / j)
abbrev oMod : DO2 := oI (fun _ j => 0 < j) fun i j => .int (i % j)
abbrev oPow : DO2 := oI CPow fun i j => .int (i ^ j.toNat)
abbrev oLt : DO2 := oI0 fun i j => .bool (decide (i < j))
abbrev oLe : DO2 := oI0 fun i j => .bool (decide (i ≤ j))
abbrev oGt : DO2 := oI0 fun i j => .bool (decide (j < i))
abbrev oGe : DO2 := oI0 fun i j => .bool (decide (j ≤ i))
theorem fe_add (ha : FE X a ta) (hb : FE X b tb) : FE X (.BinOp a .Add b pos) (dOp oAdd ta tb) := fe_op op_add (ok_I0 fun _ _ _ _ => .int _) ha hb
theorem fe_sub (ha : FE X a ta) (hb : FE X b tb) : FE X (.BinOp a .Sub b pos) (dOp oSub ta tb) := fe_op op_sub (ok_I0 fun _ _ _ _ => .int _) ha hb
theorem fe_mul (ha : FE X a ta) (hb : FE X b tb) : FE X (.BinOp a .Mult b pos) (dOp oMul ta tb) := fe_op op_mulW (ok_I fun _ _ _ _ => .int _) ha hb
theorem fe_fdiv (ha : FE X a ta) (hb : FE X b tb) : FE X (.BinOp a .FloorDiv b pos) (dOp oDiv ta tb) := fe_op op_fdivW (ok_I fun _ _ _ _ => .int _) ha hb
theorem fe_mod (ha : FE X a ta) (hb : FE X b tb) : FE X (.BinOp a .Mod b pos) (dOp oMod ta tb) := fe_op op_mod (ok_I fun _ _ _ _ => .int _) ha hb
theorem fe_pow (ha : FE X a ta) (hb : FE X b tb) : FE X (.BinOp a .Pow b pos) (dOp oPow ta tb) := fe_op op_pow (ok_I fun _ _ _ _ => .int _) ha hb
theorem ok_lt : OkO (rI0 fun i j => .bl (decide (i < j))) oLt := ok_I0 fun _ _ _ _ => .bl _
theorem ok_le : OkO (rI0 fun i j => .bl (decide (i ≤ j))) oLe := ok_I0 fun _ _ _ _ => .bl _
theorem ok_gt : OkO (rI0 fun i j => .bl (decide (j < i))) oGt := ok_I0 fun _ _ _ _ => .bl _
theorem ok_ge : OkO (rI0 fun i j => .bl (decide (j ≤ i))) oGe := ok_I0 fun _ _ _ _ => .bl _
/-- == and != of data -/
def oEq : DO2 := fun x y R => match x, y with
  | .dat d, .dat f => SeqAt.shaped d = true ∧ SeqAt.shaped f = true ∧ R (BV (PyData.eqv d f))
  | _, _ => False
def oNe : DO2 := fun x y R => match x, y with
  | .dat d, .dat f => SeqAt.shaped d = true ∧ SeqAt.shaped f = true ∧ R (BV (!PyData.eqv d f))
  | _, _ => False
theorem ok_eq (K : PySem.W.Frag) : OkO (rEqD K) oEq := fun c M H x y d f n R Q hd hr w hx hy h k => by
  cases d with
  | dat d =>
    cases f with
    | dat f =>
      obtain ⟨h1, h2, h3⟩ := h
      exact ⟨d, f, Dm.dp K hx, Dm.dp K hy, h1, h2, k _ H (BV _) (Ext.rfl' H) w (Dm.bl _) h3⟩
    | _ => exact h.elim
  | _ => exact h.elim
theorem ok_ne (K : PySem.W.Frag) : OkO (rNeD K) oNe := fun c M H x y d f n R Q hd hr w hx hy h k => by
  cases d with
  | dat d =>
    cases f with
    | dat f =>
      obtain ⟨h1, h2, h3⟩ := h
      exact ⟨d, f, Dm.dp K hx, Dm.dp K hy, h1, h2, k _ H (BV _) (Ext.rfl' H) w (Dm.bl _) h3⟩
    | _ => exact h.elim
  | _ => exact h.elim
def oNeg : DO1 := fun x R => match x with
  | .dat (.int i) => R (IV (-i))
  | _ => False
theorem fe_neg (ha : FE X a ta) : FE X (.UnaryOp .USub a pos) (dUn oNeg ta) := fe_un un_neg (fun c M H x d n R Q hd hr w hx h k => by
  cases d with
  | dat d =>
    cases d with
    | int i =>
      cases hx
      exact ⟨i, rfl, k _ H (IV _) (Ext.rfl' H) w (Dm.int _) h⟩
    | _ => exact h.elim
  | _ => exact h.elim) ha

/-! ### chains of two comparisons -/
def dChain (o o' : DO2) (ta tb tc : DT) : DT := fun env n R => ta env n fun x n1 => tb env n1 fun y n2 => o x y fun z => match z with
  | .dat (.bool k) => if k = true then tc env n2 fun w n3 => o' y w fun q => R q n3 else R (BV false) n2
  | _ => False
theorem chain2 {r r' : R2} {o o' : DO2} (k : OkO r o) (k' : OkO r' o') (c : Cw) (M : Addr → Prop) (σ : St) (H : Hp) (env : En) (n : Nat) (R : DV → Nat → Prop) (S : Sta c M σ H env n) (h : dChain o o' ta tb tc env n R) :
    tChain r r' (cE ta) (cE tb) (cE tc) σ H (OutE c M H R) :=
  goE S h fun x H1 d1 n1 e1 w1 m1 q1 => goE (S.step e1 w1) q1 fun y H2 d2 n2 e2 w2 m2 q2 =>
    k c M H2 x y d1 d2 n2 _ _ (S.step (e1.trans e2) w2).dom S.dM w2 (m1.mono (e2.weak S.dM)) m2 q2 fun v H' z e3 w3 m3 q3 => by
      cases z with
      | draws => exact q3.elim
      | own ds => exact q3.elim
      | dat d =>
        cases d with
        | bool k =>
          cases m3
          refine ⟨k, rfl, ?_⟩
          cases k with
          | false =>
            rw [if_neg Bool.false_ne_true]
            exact ⟨BV false, n2, (e1.trans e2).trans e3, w3, Dm.bl _, q3⟩
          | true =>
            rw [if_pos rfl]
            exact goE (S.step ((e1.trans e2).trans e3) w3) q3 fun w4 H4 d4 n4 e4 w4' m4 q4 =>
              k' c M H4 y w4 d2 d4 n4 (fun q => R q n4) (OutE c M H R) (S.step (((e1.trans e2).trans e3).trans e4) w4').dom S.dM w4' (m2.mono ((e3.trans e4).weak S.dM)) m4 q4 fun v5 H5 z5 e5 w5 m5 q5 =>
                ⟨z5, n4, (((e1.trans e2).trans e3).trans e4).trans e5, w5, m5, q5⟩
        | _ => exact q3.elim
variable {x c' : Expr}
theorem fe_chain {op op' : CmpOp} {r r' : R2} {o o' : DO2} (ho : OpR X (compareOp op) r) (ho' : OpR X (compareOp op') r') (k : OkO r o) (k' : OkO r' o') (ha : FE X a ta) (hb : FE X b tb) (hc : FE X c' tc)
    (hm : lastMarks [op, op'] [b, c'] = false := by with_unfolding_all rfl) : FE X (.Compare a [op, op'] [b, c'] pos) (dChain o o' ta tb tc) := FE.of (pe_chain ho ho' ha hb hc hm) fun c M σ H env n R S h => chain2 k k' c M σ H env n R S h
/-- a value that is a bool, as a test -/
theorem ft_val {t : DT} (h : FE X e t) (he : ∀ whole, isTrue e X.env whole = (do let v ← whole; standAt e.pos; holding [v] (truthy v)) := by intro _; rfl) : FT X e (dTest t) := FT.of (pt_val h he) fun c M σ H env n R S q =>
  goE S q fun x H1 d1 n1 e1 w1 m1 q1 => by
    cases d1 with
    | draws => exact q1.elim
    | own ds => exact q1.elim
    | dat d =>
      cases d with
      | bool k =>
        cases m1
        exact ⟨k, rfl, n1, e1, w1, q1⟩
      | _ => exact q1.elim
theorem ft_chain {op op' : CmpOp} {r r' : R2} {o o' : DO2} (ho : OpR X (compareOp op) r) (ho' : OpR X (compareOp op') r') (k : OkO r o) (k' : OkO r' o') (ha : FE X a ta) (hb : FE X b tb) (hc : FE X c' tc)
    (hm : lastMarks [op, op'] [b, c'] = false := by with_unfolding_all rfl) : FT X (.Compare a [op, op'] [b, c'] pos) (dTest (dChain o o' ta tb tc)) := FT.of (pt_chain ho ho' ha hb hc hm) fun c M σ H env n R S h =>
  goE S h fun x H1 d1 n1 e1 w1 m1 q1 => goE (S.step e1 w1) q1 fun y H2 d2 n2 e2 w2 m2 q2 =>
    k c M H2 x y d1 d2 n2 _ _ (S.step (e1.trans e2) w2).dom S.dM w2 (m1.mono (e2.weak S.dM)) m2 q2 fun v H' z e3 w3 m3 q3 => by
      cases z with
      | draws => exact q3.elim
      | own ds => exact q3.elim
      | dat d =>
        cases d with
        | bool k =>
          cases m3
          refine ⟨k, rfl, ?_⟩
          cases k with
          | false =>
            rw [if_neg Bool.false_ne_true]
            exact ⟨false, rfl, n2, (e1.trans e2).trans e3, w3, q3⟩
          | true =>
            rw [if_pos rfl]
            exact goE (S.step ((e1.trans e2).trans e3) w3) q3 fun w4 H4 d4 n4 e4 w4' m4 q4 =>
              k' c M H4 y w4 d2 d4 n4 _ _ (S.step (((e1.trans e2).trans e3).trans e4) w4').dom S.dM w4' (m2.mono ((e3.trans e4).weak S.dM)) m4 q4 fun v5 H5 z5 e5 w5 m5 q5 => by
                cases z5 with
                | draws => exact q5.elim
                | own ds => exact q5.elim
                | dat d =>
                  cases d with
                  | bool k =>
                    cases m5
                    exact ⟨k, rfl, n4, (((e1.trans e2).trans e3).trans e4).trans e5, w5, q5⟩
                  | _ => exact q5.elim
        | _ => exact q3.elim

/-! ### and, or, not, if -/
def dAnd (t u : DTB) : DTB := fun env n R => t env n fun k n1 => if k = true then u env n1 R else R false n1
def dOr (t u : DTB) : DTB := fun env n R => t env n fun k n1 => if k = true then R true n1 else u env n1 R
def dNot (t : DTB) : DTB := fun env n R => t env n fun k n1 => R (!k) n1
variable {rest : List Expr}
theorem fw_and1 (ha : FT X a t) : FW X (.BoolOp .And [a] pos) t := pw_and1 ha
theorem fw_or1 (ha : FT X a t) : FW X (.BoolOp .Or [a] pos) t := pw_or1 ha
theorem fw_and (ha : FT X a t) (hb : FW X (.BoolOp .And (b :: rest) pos) u) : FW X (.BoolOp .And (a :: b :: rest) pos) (dAnd t u) := FW.of (pw_and ha hb) fun c M σ H env n R S h =>
  goT S h fun k H1 n1 e1 w1 q1 => by
    cases k with
    | false =>
      rw [if_neg Bool.false_ne_true] at q1 ⊢
      exact ⟨n1, e1, w1, q1⟩
    | true =>
      rw [if_pos rfl] at q1 ⊢
      exact goT (S.step e1 w1) q1 fun k2 H2 n2 e2 w2 q2 => ⟨n2, e1.trans e2, w2, q2⟩
theorem fw_or (ha : FT X a t) (hb : FW X (.BoolOp .Or (b :: rest) pos) u) : FW X (.BoolOp .Or (a :: b :: rest) pos) (dOr t u) := FW.of (pw_or ha hb) fun c M σ H env n R S h =>
  goT S h fun k H1 n1 e1 w1 q1 => by
    cases k with
    | true =>
      rw [if_pos rfl] at q1 ⊢
      exact ⟨n1, e1, w1, q1⟩
    | false =>
      rw [if_neg Bool.false_ne_true] at q1 ⊢
      exact goT (S.step e1 w1) q1 fun k2 H2 n2 e2 w2 q2 => ⟨n2, e1.trans e2, w2, q2⟩
theorem ft_not (ha : FT X a t) : FT X (.UnaryOp .Not a pos) (dNot t) := FT.of (pt_not ha) fun c M σ H env n R S h => goT S h fun k H1 n1 e1 w1 q1 => ⟨n1, e1, w1, q1⟩
def dIf (t : DTB) (ta tb : DT) : DT := fun env n R => t env n fun k n1 => if k = true then ta env n1 R else tb env n1 R
theorem fe_if {q : Expr} (hc : FT X q t) (ha : FE X a ta) (hb : FE X b tb) : FE X (.IfExp q a b pos) (dIf t ta tb) := FE.of (pe_ifExp hc ha hb) fun c M σ H env n R S h =>
  goT S h fun k H1 n1 e1 w1 q1 => by
    cases k with
    | true =>
      rw [if_pos rfl] at q1 ⊢
      exact goE (S.step e1 w1) q1 fun v2 H2 d2 n2 e2 w2 m2 q2 => ⟨d2, n2, e1.trans e2, w2, m2, q2⟩
    | false =>
      rw [if_neg Bool.false_ne_true] at q1 ⊢
      exact goE (S.step e1 w1) q1 fun v2 H2 d2 n2 e2 w2 m2 q2 => ⟨d2, n2, e1.trans e2, w2, m2, q2⟩
/-- as values, bools -/
def dAndV (ta tb : DT) : DT := fun env n R => ta env n fun x n1 => match x with
  | .dat (.bool k) => if k = true then tb env n1 R else R (BV false) n1
  | _ => False
def dOrV (ta tb : DT) : DT := fun env n R => ta env n fun x n1 => match x with
  | .dat (.bool k) => if k = true then R (BV true) n1 else tb env n1 R
  | _ => False
def dNotV (ta : DT) : DT := fun env n R => ta env n fun x n1 => match x with
  | .dat (.bool k) => R (BV (!k)) n1
  | _ => False
theorem fe_one {op} (h : FE X a ta) : FE X (.BoolOp op [a] pos) ta := pe_one h
theorem fe_and (ha : FE X a ta) (hb : FE X (.BoolOp .And (b :: rest) pos) tb) : FE X (.BoolOp .And (a :: b :: rest) pos) (dAndV ta tb) := FE.of (pe_and ha hb) fun c M σ H env n R S h =>
  goE S h fun x H1 d1 n1 e1 w1 m1 q1 => by
    cases d1 with
    | draws => exact q1.elim
    | own ds => exact q1.elim
    | dat d =>
      cases d with
      | bool k =>
        cases m1
        refine ⟨k, rfl, ?_⟩
        cases k with
        | false =>
          rw [if_neg Bool.false_ne_true]
          exact ⟨BV false, n1, e1, w1, Dm.bl _, q1⟩
        | true =>
          rw [if_pos rfl]
          exact goE (S.step e1 w1) q1 fun v2 H2 d2 n2 e2 w2 m2 q2 => ⟨d2, n2, e1.trans e2, w2, m2, q2⟩
      | _ => exact q1.elim
theorem fe_or (ha : FE X a ta) (hb : FE X (.BoolOp .Or (b :: rest) pos) tb) : FE X (.BoolOp .Or (a :: b :: rest) pos) (dOrV ta tb) := FE.of (pe_or ha hb) fun c M σ H env n R S h =>
  goE S h fun x H1 d1 n1 e1 w1 m1 q1 => by
    cases d1 with
    | draws => exact q1.elim
    | own ds => exact q1.elim
    | dat d =>
      cases d with
      | bool k =>
        cases m1
        refine ⟨k, rfl, ?_⟩
        cases k with
        | true =>
          rw [if_pos rfl]
          exact ⟨BV true, n1, e1, w1, Dm.bl _, q1⟩
        | false =>
          rw [if_neg Bool.false_ne_true]
          exact goE (S.step e1 w1) q1 fun v2 H2 d2 n2 e2 w2 m2 q2 => ⟨d2, n2, e1.trans e2, w2, m2, q2⟩
      | _ => exact q1.elim
theorem fe_not (ha : FE X a ta) : FE X (.UnaryOp .Not a pos) (dNotV ta) := FE.of (pe_not ha) fun c M σ H env n R S h =>
  goE S h fun x H1 d1 n1 e1 w1 m1 q1 => by
    cases d1 with
    | draws => exact q1.elim
    | own ds => exact q1.elim
    | dat d =>
      cases d with
      | bool k =>
        cases m1
        exact ⟨k, rfl, BV (!k), n1, e1, w1, Dm.bl _, q1⟩
      | _ => exact q1.elim

/-! ### argument lists, displays -/
def dNil : DTA := fun _ n R => R [] n
def dCons (ta : DT) (tl : DTA) : DTA := fun env n R => ta env n fun x n1 => tl env n1 fun xs n2 => R (x :: xs) n2
theorem fa_nil : FA X [] dNil := FA.of pa_nil fun c M σ H env n R S h => ⟨[], n, Ext.rfl' H, S.wr, .nil, h⟩
theorem fa_cons (ha : FE X e ta) (hr : FA X es tl) (hs : starEach (e :: es) X.env = (false, eval e X.env) :: starEach es X.env := by rfl) : FA X (e :: es) (dCons ta tl) := FA.of (pa_cons ha hr hs) fun c M σ H env n R S h =>
  goE S h fun x H1 d1 n1 e1 w1 m1 q1 => goA (S.step e1 w1) q1 fun xs H2 d2 n2 e2 w2 m2 q2 => ⟨d1 :: d2, n2, e1.trans e2, w2, .cons (m1.mono (e2.weak S.dM)) m2, q2⟩
/-- data alone -/
def allD : List DV → Option (List PyData)
  | [] => some []
  | .dat d :: r => match allD r with
    | some ds => some (d :: ds)
    | none => none
  | _ :: _ => none
theorem allD_reps {ω : DrA} {M : Addr → Prop} {H : Hp} : ∀ {vs : List V} {xs : List DV} {ds : List PyData}, VReps ω M H vs xs → allD xs = some ds → DmA M H vs ds
  | _, [], _, .nil, h => by cases h; exact .nil
  | _, .dat d :: r, ds, .cons h t, e => by
    unfold allD at e
    cases z : allD r with
    | none => rw [z] at e; cases e
    | some q =>
      rw [z] at e
      cases e
      exact .cons h (allD_reps t z)
  | _, .draws :: _, _, .cons _ _, e => by cases e
  | _, .own _ :: _, _, .cons _ _, e => by cases e
def dTup (tl : DTA) : DT := fun env n R => tl env n fun xs n1 => match allD xs with
  | some ds => ds.length ≤ 1000 ∧ R (TV ds) n1
  | none => False
def dLst (tl : DTA) : DT := fun env n R => tl env n fun xs n1 => match allD xs with
  | some ds => ds.length ≤ 1000 ∧ R (LV ds) n1
  | none => False
theorem sz1000 {k : Nat} (h : k ≤ 1000) : k ≤ sizeLine := Nat.le_trans h (by decide)
theorem fe_tup {x1} (h : FA X es tl) : FE X (.Tuple es x1 pos) (dTup tl) := FE.of (pe_tup h) fun c M σ H env n R S h =>
  goA S h fun vs H1 d1 n1 e1 w1 m1 q1 => by
    cases z : allD d1 with
    | none => rw [z] at q1; exact q1.elim
    | some ds =>
      rw [z] at q1
      have m2 := allD_reps m1 z
      have S1 := S.step e1 w1
      refine ⟨by rw [m2.length]; exact sz1000 q1.1, fun p hp => ⟨TV ds, n1, e1.trans (Ext.new hp), w1.new hp, ?_, q1.2⟩⟩
      exact Dm.tup (fun hm => S1.dom p hm hp) upd_same (m2.mono (Ext.new hp))
theorem fe_lst (h : FA X es tl) : FE X (.List es pos) (dLst tl) := FE.of (pe_lst h) fun c M σ H env n R S h =>
  goA S h fun vs H1 d1 n1 e1 w1 m1 q1 => by
    cases z : allD d1 with
    | none => rw [z] at q1; exact q1.elim
    | some ds =>
      rw [z] at q1
      have m2 := allD_reps m1 z
      have S1 := S.step e1 w1
      refine ⟨by rw [m2.length]; exact sz1000 q1.1, fun p hp => ⟨LV ds, n1, e1.trans (Ext.new hp), w1.new hp, ?_, q1.2⟩⟩
      exact Dm.lst (fun hm => S1.dom p hm hp) upd_same (m2.mono (Ext.new hp))

/-! ### items -/
def oIxT : DO2 := fun x y R => match x, y with
  | .dat (.tuple ds), .dat (.int i) => match atI ds i with
    | some d => R (.dat d)
    | none => False
  | _, _ => False
def oIxL : DO2 := fun x y R => match x, y with
  | .dat (.list ds), .dat (.int i) => match atI ds i with
    | some d => R (.dat d)
    | none => False
  | _, _ => False
theorem DmA.atI {M : Addr → Prop} {H : Hp} {vs : List V} {ds : List PyData} {i : Int} {d : PyData} (h : DmA M H vs ds) (e : L2.atI ds i = some d) : ∃ v, L2.atI vs i = some v ∧ Dm M H v d := by
  unfold L2.atI at e ⊢
  rw [h.length]
  cases z : ixN ds.length i with
  | none => rw [z] at e; cases e
  | some j =>
    rw [z] at e
    exact h.get e
theorem ok_ixT (K : PySem.W.Frag) : OkO (rIxT K) oIxT := fun c M H x y d f n R Q hd hr w hx hy h k => by
  unfold oIxT at h
  split at h
  · rename_i ds i
    split at h
    · rename_i q e
      cases hx with
      | tup hm ha hds =>
        cases hy
        obtain ⟨v, h1, h2⟩ := hds.atI e
        exact ⟨_, _, i, v, rfl, rfl, SqT.of ha, h1, k v H (.dat q) (Ext.rfl' H) w h2 h⟩
    · exact h.elim
  · exact h.elim
theorem ok_ixL (K : PySem.W.Frag) : OkO (rIxL K) oIxL := fun c M H x y d f n R Q hd hr w hx hy h k => by
  unfold oIxL at h
  split at h
  · rename_i ds i
    split at h
    · rename_i q e
      cases hx with
      | lst hm ha hds =>
        cases hy
        obtain ⟨v, h1, h2⟩ := hds.atI e
        exact ⟨_, _, i, v, rfl, rfl, SqL.of ha, h1, k v H (.dat q) (Ext.rfl' H) w h2 h⟩
    · exact h.elim
  · exact h.elim
theorem fe_ixT (ha : FE X a ta) (hb : FE X b tb) (hs : PlainIx b) : FE X (.Subscript a b pos) (dOp oIxT ta tb) := FE.of (pe_ix ix_tup ha hb hs) fun c M σ H env n R S h => two (te := cE ta) (ok_ixT X.K) c M σ H env n R S h
theorem fe_ixL (ha : FE X a ta) (hb : FE X b tb) (hs : PlainIx b) : FE X (.Subscript a b pos) (dOp oIxL ta tb) := FE.of (pe_ix ix_list ha hb hs) fun c M σ H env n R S h => two (te := cE ta) (ok_ixL X.K) c M σ H env n R S h
end
end Sx

set_option Elab.async false
set_option linter.all false
set_option maxRecDepth 100000
set_option maxHeartbeats 2000000
namespace Sx
open PySem L2
theorem get_set {α : Type} {l : List α} {i j : Nat} {x y : α} (h : (l.set i x)[j]? = some y) : (j = i ∧ y = x ∧ i < l.length) ∨ (j ≠ i ∧ l[j]? = some y) := by
  by_cases e : j = i
  · subst e
    left
    rw [List.getElem?_set] at h
    simp only [if_true] at h
    split at h
    · exact ⟨rfl, (Option.some.inj h).symm, by assumption⟩
    · cases h
  · exact .inr ⟨e, by rwa [List.getElem?_set_ne (Ne.symm e)] at h⟩
/-- a slot is set to a value -/
theorem Sta.set {c : Cw} {M : Addr → Prop} {σ : St} {H : Hp} {env : En} {n : Nat} (S : Sta c M σ H env n) (i : Nat) {v : V} {d : DV} (h : VRep c.ω M H v d) : Sta c M (σ.set i (some v)) H (env.set i (some d)) n where
  m0 := S.m0
  d0 := S.d0
  dom := S.dom
  wr := S.wr
  keep := S.keep
  len := by rw [List.length_set, List.length_set]; exact S.len
  gh := S.gh
  gr := S.gr
  slot := fun j x e => by
    rcases get_set e with ⟨rfl, q, hl⟩ | ⟨ne, q⟩
    · cases q
      refine ⟨v, by rw [List.getElem?_set_self (by rw [S.len]; exact hl)], ?_⟩
      cases d with
      | own ds => exact h.elim
      | _ => exact h
    · obtain ⟨u, h1, h2⟩ := S.slot j x q
      exact ⟨u, by rw [List.getElem?_set_ne (Ne.symm ne)]; exact h1, h2⟩
  own := fun j k xs ys u e1 e2 e3 e4 => by
    have nown : ∀ {j : Nat} {xs : List PyData}, (env.set i (some d))[j]? = some (some (.own xs)) → j ≠ i ∧ env[j]? = some (some (.own xs)) := fun {j xs} e => by
      rcases get_set e with ⟨rfl, q, hl⟩ | q
      · cases q
        exact h.elim
      · exact q
    obtain ⟨n1, q1⟩ := nown e1
    obtain ⟨n2, q2⟩ := nown e2
    rw [List.getElem?_set_ne (Ne.symm n1)] at e3
    rw [List.getElem?_set_ne (Ne.symm n2)] at e4
    exact S.own j k xs ys u q1 q2 e3 e4

def SlotV.growM {c : Cw} {M : Addr → Prop} {H : Hp} {v : V} {x : DV} {p : Addr} (hp : H p = none) (h : SlotV c M H v x) : SlotV c (fun a => M a ∨ a = p) H v x := by
  cases x with
  | dat d => exact Dm.more hp h
  | draws => exact h
  | own ds =>
    obtain ⟨a, xs, h1, h2, h3, h4, h5, h6⟩ := h
    exact ⟨a, xs, h1, .inl h2, h3, h4, h5, h6.more hp⟩

section
variable {X : Cx} {e a b : Expr} {es : List Expr} {pos : Pos} {ta tb : DT} {t u : DTB} {tl : DTA} {st : Stmt} {rest ss ss' : List Stmt} {ts us : DTS}

theorem FS.of {te : TS} (h : PS X st te) (q : ∀ c M σ H env n F E, Sta c M σ H env n → ts F env n → Leads c F E → te E σ H) : FS X st ts :=
  ⟨fun pins s σ H D I ⟨c, M, env, n, F, S, ht, k⟩ => h.run pins s σ H D I (q c M σ H env n F D S ht k)⟩
theorem FSs.of {te : TS} (h : PSs X ss te) (q : ∀ c M σ H env n F E, Sta c M σ H env n → ts F env n → Leads c F E → te E σ H) : FSs X ss ts :=
  ⟨fun pins s σ H D I ⟨c, M, env, n, F, S, ht, k⟩ => h.run pins s σ H D I (q c M σ H env n F D S ht k)⟩
theorem goS {c : Cw} {M : Addr → Prop} {σ : St} {H : Hp} {env : En} {n : Nat} {F : DEnds} {E : Ends} (S : Sta c M σ H env n) (h : ts F env n) (k : Leads c F E) : cS ts E σ H := ⟨c, M, env, n, F, S, h, k⟩

/-! ### blocks -/
def dNext : DTS := fun F env n => F.nx env n
def dSeq (t u : DTS) : DTS := fun F env n => t { F with nx := u F } env n
theorem fss_nil : FSs X [] dNext := FSs.of pss_nil fun c M σ H env n F E S h k => k.nx M σ H env n S h
theorem fss_cons (h1 : FS X st ts) (h2 : FSs X rest us) : FSs X (st :: rest) (dSeq ts us) := FSs.of (pss_cons h1 h2) fun c M σ H env n F E S h k =>
  goS (E := { E with nx := cS us E }) (F := { F with nx := us F }) S h ⟨fun M' σ' H' env' n' S' h' => goS S' h' k, k.bk, k.ct, k.rt⟩
theorem fss_one (h1 : FS X st ts) : FSs X [st] ts := pss_one h1
theorem fs_pass : FS X (.Pass pos) dNext := FS.of ps_pass fun c M σ H env n F E S h k => k.nx M σ H env n S h
theorem fs_doc {x j pos'} : FS X (.Expr (.Constant (.str x) j pos) pos') dNext := FS.of ps_doc fun c M σ H env n F E S h k => k.nx M σ H env n S h
def dBreak : DTS := fun F env n => F.bk env n
def dCont : DTS := fun F env n => F.ct env n
theorem fs_break : FS X (.Break pos) dBreak := FS.of ps_break fun c M σ H env n F E S h k => k.bk M σ H env n S h
theorem fs_continue : FS X (.Continue pos) dCont := FS.of ps_continue fun c M σ H env n F E S h k => k.ct M σ H env n S h
def dNever : DTS := fun _ _ _ => False
theorem fs_never : FS X st dNever := FS.of ps_never fun c M σ H env n F E S h k => h
def dRet (t : DT) : DTS := fun F env n => t env n F.rt
theorem fs_ret (he : FE X e ta) : FS X (.Return (some e) pos) (dRet ta) := FS.of (ps_ret he) fun c M σ H env n F E S h k =>
  goE S h fun v H' d n' e1 w1 m1 q1 => k.rt v H' d n' (S.keep.trans e1) w1 (m1.weak S.m0) q1
def dRetN : DTS := fun F _ n => F.rt (.dat .none) n
theorem fs_retN : FS X (.Return none pos) dRetN := FS.of ps_retN fun c M σ H env n F E S h k => k.rt .non H (.dat .none) n S.keep S.wr Dm.non h
def dIfS (c : DTB) (t u : DTS) : DTS := fun F env n => c env n fun k n1 => if k = true then t F env n1 else u F env n1
theorem fs_if {q : Expr} (hc : FT X q t) (ha : FSs X ss ts) (hb : FSs X ss' us) : FS X (.If q ss ss' pos) (dIfS t ts us) := FS.of (ps_if hc ha hb) fun c M σ H env n F E S h k =>
  goT S h fun b H1 n1 e1 w1 q1 => by
    cases b with
    | true =>
      rw [if_pos rfl] at q1 ⊢
      exact goS (S.step e1 w1) q1 k
    | false =>
      rw [if_neg Bool.false_ne_true] at q1 ⊢
      exact goS (S.step e1 w1) q1 k
def dDrop (t : DT) : DTS := fun F env n => t env n fun _ n1 => F.nx env n1
theorem fs_expr (he : FE X e ta) (hs : swapsWith e none pos.line X.env = pure false := by rfl) : FS X (.Expr e pos) (dDrop ta) := FS.of (ps_expr he hs) fun c M σ H env n F E S h k =>
  goE S h fun v H1 d n1 e1 w1 m1 q1 => k.nx M σ H1 env n1 (S.step e1 w1) q1
/-! ### stores -/
def dAsg (i : Nat) (t : DT) : DTS := fun F env n => t env n fun d n1 => F.nx (env.set i (some d)) n1
theorem fs_set {i : Nat} {st : Stmt} (h : PS X st (tAsg (cE ta) (gName i))) : FS X st (dAsg i ta) := FS.of h fun c M σ H env n F E S h k =>
  goE S h fun v H1 d n1 e1 w1 m1 q1 => k.nx M _ H1 _ n1 ((S.step e1 w1).set i m1) q1
/-- a list of its own: x = [..], to be appended to -/
def dAsgOwn (i : Nat) (tl : DTA) : DTS := fun F env n => tl env n fun xs n1 => match allD xs with
  | some ds => ds.length ≤ 1000 ∧ F.nx (env.set i (some (.own ds))) n1
  | none => False
theorem fs_setOwn {i : Nat} {st : Stmt} (h : PS X st (tAsg (tLst (cA tl)) (gName i))) : FS X st (dAsgOwn i tl) := FS.of h fun c M σ H env n F E S h k =>
  goA S h fun vs H1 xs n1 e1 w1 m1 q1 => by
    cases z : allD xs with
    | none => rw [z] at q1; exact q1.elim
    | some ds =>
      rw [z] at q1
      have m2 := allD_reps m1 z
      have S1 := S.step e1 w1
      refine ⟨by rw [m2.length]; exact sz1000 q1.1, fun p hp => ?_⟩
      have ep : Ext (dr c.ω) H1 (upd H1 p (.lst vs)) := Ext.new hp
      have epM : Ext M H1 (upd H1 p (.lst vs)) := Ext.new hp
      have h0 : c.H0 p = none := by
        cases y : c.H0 p with
        | none => rfl
        | some o =>
          by_cases yd : dr c.ω p
          · exact absurd hp (w1.dom yd)
          · rw [S1.keep p o y yd] at hp; cases hp
      refine k.nx (fun a => M a ∨ a = p) _ _ _ n1 ⟨fun a ha => .inl (S.m0 a ha), S.d0, fun a ha => ?_, w1.new hp, S1.keep.trans ep, ?_, fun q hq => ?_, fun q hq => ⟨fun z => z.elim (S1.gr q hq).1 fun y => ne_of_none (S1.gr q hq).2 hp y, by rw [upd_ne (ne_of_none (S1.gr q hq).2 hp)]; exact (S1.gr q hq).2⟩, fun j x ej => ?_, fun j l xs ys u f1 f2 f3 f4 => ?_⟩ q1.2
      · rcases ha with ha | rfl
        · intro y
          by_cases ea : a = p
          · subst ea; exact S1.dom _ ha hp
          · rw [upd_ne ea] at y; exact S1.dom a ha y
        · rw [upd_same]; simp
      · rw [List.length_set, List.length_set]; exact S.len
      · have z1 : Dm (fun a => M a ∨ a = p) H1 q.1 q.2 := (S1.gh q hq).more hp
        exact z1.mono (Ext.new hp)
      · rcases get_set ej with ⟨rfl, y, hl⟩ | ⟨ne, y⟩
        · cases y
          refine ⟨.ref p, by rw [List.getElem?_set_self (by rw [S.len]; exact hl)], p, vs, rfl, .inr rfl, fun z0 => S1.dom p (S.m0 p z0) hp, h0, upd_same, ?_⟩
          have z1 : DmA (fun a => M a ∨ a = p) H1 vs ds := m2.more hp
          exact z1.mono (Ext.new hp)
        · obtain ⟨u, h1, h2⟩ := S1.slot j x y
          refine ⟨u, by rw [List.getElem?_set_ne (Ne.symm ne)]; exact h1, ?_⟩
          exact SlotV.step (fun a z1 => .inl (S.dM a z1)) S.d0 ep (h2.growM hp)
      · -- two own lists stand apart
        have oldne : ∀ (j : Nat) (xs : List PyData), j ≠ i → env[j]? = some (some (.own xs)) → σ[j]? ≠ some (some (.ref p)) := fun j xs nj y q => by
          obtain ⟨u', y1, a', xs', y2, _, _, _, y3, _⟩ := S1.slot j _ y
          rw [q] at y1
          cases y1
          cases y2
          rw [y3] at hp; cases hp
        rcases get_set f1 with ⟨rfl, y1, hl⟩ | ⟨nj, y1⟩
        · rcases get_set f2 with ⟨rfl, y2, _⟩ | ⟨nl, y2⟩
          · rfl
          · rw [List.getElem?_set_self (by rw [S.len]; exact hl)] at f3
            cases f3
            rw [List.getElem?_set_ne (Ne.symm nl)] at f4
            exact absurd f4 (oldne l ys nl y2)
        · rw [List.getElem?_set_ne (Ne.symm nj)] at f3
          rcases get_set f2 with ⟨rfl, y2, hl⟩ | ⟨nl, y2⟩
          · rw [List.getElem?_set_self (by rw [S.len]; exact hl)] at f4
            cases f4
            exact absurd f3 (oldne j xs nj y1)
          · rw [List.getElem?_set_ne (Ne.symm nl)] at f4
            exact S.own j l xs ys u y1 y2 f3 f4
/-- from now on read, no longer written -/
def dFreeze (i : Nat) (ts : DTS) : DTS := fun F env n => match env[i]? with
  | some (some (.own ds)) => ts F (env.set i (some (LV ds))) n
  | _ => False
theorem fss_freeze (i : Nat) (h : FSs X ss ts) : FSs X ss (dFreeze i ts) := FSs.of h fun c M σ H env n F E S q k => by
  unfold dFreeze at q
  split at q
  · rename_i ds e
    obtain ⟨v, hv, a, xs, rfl, hm, h0, hH, ha, hd⟩ := S.slot i _ e
    have S2 : Sta c (fun z => M z ∧ z ≠ a) σ H (env.set i (some (LV ds))) n := by
      refine ⟨fun z hz => ⟨S.m0 z hz, fun y => h0 (y ▸ hz)⟩, S.d0, fun z hz => S.dom z hz.1, S.wr, S.keep, by rw [List.length_set]; exact S.len, fun p hp => (S.gh p hp).weak fun _ z => z.1, fun p hp => ⟨fun z => (S.gr p hp).1 z.1, (S.gr p hp).2⟩, fun j x ej => ?_, fun j l ys zs u f1 f2 f3 f4 => ?_⟩
      · rcases get_set ej with ⟨rfl, y, hl⟩ | ⟨ne, y⟩
        · cases y
          exact ⟨_, hv, Dm.lst (fun z => z.2 rfl) ha (hd.weak fun _ z => z.1)⟩
        · obtain ⟨u, h1, h2⟩ := S.slot j x y
          refine ⟨u, h1, ?_⟩
          cases x with
          | dat d => exact Dm.weak (fun _ z => z.1) h2
          | draws => exact h2
          | own ds2 =>
            obtain ⟨a2, xs2, rfl, g2, g3, g4, g5, g6⟩ := h2
            refine ⟨a2, xs2, rfl, ⟨g2, fun y2 => ?_⟩, g3, g4, g5, g6.weak fun _ z => z.1⟩
            subst y2
            exact ne (S.own j i _ _ _ y e h1 hv)
      · have q1 : env[j]? = some (some (.own ys)) := by
          rcases get_set f1 with ⟨rfl, y, hl⟩ | ⟨_, y⟩
          · cases y
          · exact y
        have q2 : env[l]? = some (some (.own zs)) := by
          rcases get_set f2 with ⟨rfl, y, hl⟩ | ⟨_, y⟩
          · cases y
          · exact y
        exact S.own j l ys zs u q1 q2 f3 f4
    exact goS S2 q k
  · exact q.elim
/-- x.append(e) -/
def dAppend (i : Nat) (ta : DT) : DTS := fun F env n => match env[i]? with
  | some (some (.own _)) => ta env n fun d n1 => match env[i]?, d with
    | some (some (.own ds)), .dat y => ds.length < 5000 ∧ F.nx (env.set i (some (.own (ds ++ [y])))) n1
    | _, _ => False
  | _ => False
theorem fs_append {i : Nat} {st : Stmt} (h : PS X st (tDrop (tBM X.K "list" rAppend (tVar i) (tCons (cE ta) tNil)))) : FS X st (dAppend i ta) :=
  FS.of h fun c M σ H env n F E S q k => by
    unfold dAppend at q
    split at q
    · rename_i ds0 e0
      obtain ⟨v, hv, a0, xs0, rfl, _, _, _, ha0, _⟩ := S.slot i _ e0
      refine ⟨_, hv, .inl ⟨rfl, _, SqL.of ha0⟩, goE S q fun y H1 d n1 e1 w1 m1 q1 => ?_⟩
      rw [e0] at q1
      cases d with
      | draws => exact q1.elim
      | own ds => exact q1.elim
      | dat d =>
        obtain ⟨q2, q3⟩ := q1
        have S1 := S.step e1 w1
        obtain ⟨v', hv', a, xs, ev', hm, h0, hH, ha, hd⟩ := S1.slot i _ e0
        rw [hv] at hv'
        cases hv'
        have ea : a = a0 := by cases ev'; rfl
        subst ea
        have nd : ¬ dr c.ω a := fun z => h0 (S.d0 a z)
        have em : Ext (fun z => M z) H1 (upd H1 a (.lst (xs ++ [y]))) := fun z o g nz => by
          rw [upd_ne fun w => nz (by subst w; exact hm)]; exact g
        refine ⟨a, xs, y, rfl, rfl, ha, by rw [hd.length]; exact Nat.lt_of_lt_of_le q2 (by decide), ?_⟩
        refine k.nx M σ _ _ n1 ⟨S.m0, S.d0, fun z hz => ?_, w1.wr nd, fun z o g nz => ?_, by rw [List.length_set]; exact S.len, fun p hp => (S1.gh p hp).mono em, fun p hp => ⟨(S1.gr p hp).1, em _ _ (S1.gr p hp).2 (S1.gr p hp).1⟩, fun j x ej => ?_, fun j l ys zs u f1 f2 f3 f4 => ?_⟩ q3
        · by_cases za : z = a
          · subst za; rw [upd_same]; simp
          · rw [upd_ne za]; exact S1.dom z hz
        · have : z ≠ a := fun w => by subst w; rw [hH] at g; cases g
          rw [upd_ne this]
          exact S1.keep z o g nz
        · rcases get_set ej with ⟨rfl, g, hl⟩ | ⟨ne, g⟩
          · cases g
            refine ⟨_, hv, a, _, rfl, hm, h0, hH, upd_same, ?_⟩
            exact (hd.mono em).append (.cons (m1.mono em) .nil)
          · obtain ⟨u, h1, h2⟩ := S1.slot j x g
            refine ⟨u, h1, ?_⟩
            cases x with
            | dat d => exact Dm.mono em h2
            | draws => exact h2
            | own ds2 =>
              obtain ⟨a2, xs2, rfl, g2, g3, g4, g5, g6⟩ := h2
              refine ⟨a2, xs2, rfl, g2, g3, g4, ?_, g6.mono em⟩
              rw [upd_ne]
              · exact g5
              · rintro rfl
                exact ne (S1.own j i _ _ _ g e0 h1 hv)
        · have own' : ∀ {j : Nat} {ys : List PyData}, (env.set i (some (.own (ds0 ++ [d]))))[j]? = some (some (.own ys)) → ∃ zs, env[j]? = some (some (.own zs)) := fun {j ys} f => by
            rcases get_set f with ⟨rfl, _, _⟩ | ⟨_, g⟩
            · exact ⟨_, e0⟩
            · exact ⟨_, g⟩
          obtain ⟨_, q1⟩ := own' f1
          obtain ⟨_, q2⟩ := own' f2
          exact S.own j l _ _ u q1 q2 f3 f4
    · exact q.elim
end
end Sx

set_option Elab.async false
set_option linter.all false
set_option maxRecDepth 100000
set_option maxHeartbeats 2000000
namespace Sx
open PySem L2
section
variable {X : Cx} {e a b : Expr} {es : List Expr} {pos : Pos} {ta tb : DT} {t u : DTB} {tl : DTA} {st : Stmt} {rest ss ss' : List Stmt} {ts us : DTS}

/-! ### a, b, .. = a tuple -/
def setAll (env : En) : List Nat → List PyData → En
  | i :: is, d :: ds => setAll (env.set i (some (.dat d))) is ds
  | _, _ => env
def gAll : List Nat → TGs
  | [] => gNil
  | i :: is => gCons (gName i) (gAll is)
def dUnp (is : List Nat) (t : DT) : DTS := fun F env n => t env n fun d n1 => match d with
  | .dat (.tuple ds) => ds.length = is.length ∧ F.nx (setAll env is ds) n1
  | _ => False
theorem gAll_go {c : Cw} {M : Addr → Prop} {H : Hp} {n : Nat} {Q : St → Hp → Prop} {P : En → Prop} (k : ∀ σ env, Sta c M σ H env n → P env → Q σ H) : ∀ (is : List Nat) (vs : List V) (ds : List PyData) (σ : St) (env : En), Sta c M σ H env n → DmA M H vs ds → ds.length = is.length → P (setAll env is ds) → gAll is vs σ H Q
  | [], _, [], σ, env, S, .nil, _, p => ⟨rfl, k σ env S p⟩
  | i :: is, _, d :: ds, σ, env, S, .cons h t, l, p => ⟨_, _, rfl, gAll_go k is _ ds _ _ (S.set i (d := .dat d) h) t (Nat.succ.inj l) p⟩
theorem fs_unp {is : List Nat} {k : Nat} {st : Stmt} (hk : is.length = k) (h : PS X st (tAsg (cE ta) (gTup X.K k (gAll is)))) : FS X st (dUnp is ta) := FS.of h fun c M σ H env n F E S q k' =>
  goE S q fun v H1 d n1 e1 w1 m1 q1 => by
    subst hk
    cases d with
    | draws => exact q1.elim
    | own ds => exact q1.elim
    | dat d =>
      cases d with
      | tuple ds =>
        cases m1 with
        | tup hm ha hd =>
          refine ⟨_, _, rfl, SqT.of ha, by rw [hd.length]; exact q1.1, ?_⟩
          exact gAll_go (P := fun env' => F.nx env' n1) (fun σ' env' S' p => k'.nx M σ' H1 env' n1 S' p) is _ ds σ env (S.step e1 w1) hd q1.1 q1.2
      | _ => exact q1.elim
/-- a, b = x, y written out: no tuple is made -/
def dPar (i j : Nat) (tl : DTA) : DTS := fun F env n => tl env n fun xs n1 => match xs with
  | [x, y] => F.nx ((env.set i (some x)).set j (some y)) n1
  | _ => False
theorem fs_par {i j : Nat} {st : Stmt} (h : PS X st (tPar i j (cA tl))) : FS X st (dPar i j tl) := FS.of h fun c M σ H env n F E S q k =>
  goA S q fun vs H1 xs n1 e1 w1 m1 q1 => by
    unfold dPar at q
    cases m1 with
    | nil => exact q1.elim
    | cons h1 t1 =>
      cases t1 with
      | nil => exact q1.elim
      | cons h2 t2 =>
        cases t2 with
        | cons _ _ => exact q1.elim
        | nil => exact ⟨_, _, rfl, k.nx M _ H1 _ n1 (((S.step e1 w1).set i h1).set j h2) q1⟩

/-! ### loops over a range -/
def dForR (i : Nat) (ta : DT) (tb : DTS) : DTS := fun F env n => ta env n fun d n1 => match d with
  | .dat (.int j) => (-(2 ^ 62) ≤ j ∧ j < 2 ^ 62) ∧ ∃ I : Nat → En → Nat → Prop, I 0 env n1 ∧
      (∀ k env n, k < j.toNat → I k env n → tb { F with nx := I (k + 1), ct := I (k + 1), bk := F.nx } (env.set i (some (IV (k : Int)))) n) ∧ (∀ env n, I j.toNat env n → F.nx env n)
  | _ => False
theorem fs_forR {i : Nat} {st : Stmt} (h : PS X st (tFor (iRng1 (tCons (cE ta) tNil)) (gName i) (cS ts))) : FS X st (dForR i ta ts) := FS.of h fun c M σ H env n F E S q k =>
  goE S q fun v H1 d n1 e1 w1 m1 q1 => by
    cases d with
    | draws => exact q1.elim
    | own ds => exact q1.elim
    | dat d =>
      cases d with
      | int j =>
        cases m1
        obtain ⟨⟨b1, b2⟩, I, i0, iS, iE⟩ := q1
        refine ⟨j, rfl, b1, b2, for_range (lo := 0) (n := j.toNat) (fun k σ H => ∃ M env n, Sta c M σ H env n ∧ I k env n) ⟨M, env, n1, S.step e1 w1, i0⟩ ?_ ?_⟩
        · rintro k' σ' H' hk ⟨M', env', n', S', q'⟩
          have z := iS k' env' n' hk q'
          show cS ts _ (σ'.set i (some (.int (0 + (k' : Int))))) H'
          rw [Int.zero_add]
          exact goS (S'.set i (d := IV (k' : Int)) (Dm.int _)) z ⟨fun M2 σ2 H2 env2 n2 S2 h2 => ⟨M2, env2, n2, S2, h2⟩, k.nx, fun M2 σ2 H2 env2 n2 S2 h2 => ⟨M2, env2, n2, S2, h2⟩, k.rt⟩
        · rintro σ' H' ⟨M', env', n', S', q'⟩
          exact k.nx M' σ' H' env' n' S' (iE env' n' q')
      | _ => exact q1.elim
/-! ### loops over a list, a tuple of data -/
def dForL (i : Nat) (ta : DT) (tb : DTS) : DTS := fun F env n => ta env n fun d n1 => match d with
  | .dat (.list ds) => ∃ I : Nat → En → Nat → Prop, I 0 env n1 ∧
      (∀ k d env n, ds[k]? = some d → I k env n → tb { F with nx := I (k + 1), ct := I (k + 1), bk := F.nx } (env.set i (some (.dat d))) n) ∧ (∀ env n, I ds.length env n → F.nx env n)
  | _ => False
def Cw.hold (c : Cw) (p : V × PyData) (r : Addr × HO) : Cw := { c with gh := p :: c.gh, gr := r :: c.gr }
theorem Sta.hold {c : Cw} {M : Addr → Prop} {σ : St} {H : Hp} {env : En} {n : Nat} (S : Sta c M σ H env n) {p : V × PyData} {r : Addr × HO} (h : Dm M H p.1 p.2) (h2 : ¬ M r.1 ∧ H r.1 = some r.2) : Sta (c.hold p r) M σ H env n :=
  ⟨S.m0, S.d0, S.dom, S.wr, S.keep, S.len, fun q hq => (List.mem_cons.mp hq).elim (fun e => e ▸ h) (S.gh q), fun q hq => (List.mem_cons.mp hq).elim (fun e => e ▸ h2) (S.gr q), fun i x e => by
    obtain ⟨v, h1, h2⟩ := S.slot i x e
    exact ⟨v, h1, by cases x <;> exact h2⟩, S.own⟩
theorem Sta.drop {c : Cw} {M : Addr → Prop} {σ : St} {H : Hp} {env : En} {n : Nat} {p : V × PyData} {r : Addr × HO} (S : Sta (c.hold p r) M σ H env n) : Sta c M σ H env n :=
  ⟨S.m0, S.d0, S.dom, S.wr, S.keep, S.len, fun q hq => S.gh q (List.mem_cons_of_mem _ hq), fun q hq => S.gr q (List.mem_cons_of_mem _ hq), fun i x e => by
    obtain ⟨v, h1, h2⟩ := S.slot i x e
    exact ⟨v, h1, by cases x <;> exact h2⟩, S.own⟩
theorem fs_forL {i : Nat} {st : Stmt} (h : PS X st (tFor (iList X.K (cE ta)) (gName i) (cS ts))) : FS X st (dForL i ta ts) := FS.of h fun c M σ H env n F E S q k =>
  goE S q fun v H1 d n1 e1 w1 m1 q1 => by
    cases d with
    | draws => exact q1.elim
    | own ds => exact q1.elim
    | dat d =>
      cases d with
      | list ds =>
        obtain ⟨I, i0, iS, iE⟩ := q1
        have m1' : Dm M H1 v (.list ds) := m1
        cases m1' with
        | lst hm ha hd =>
          rename_i p xs
          obtain ⟨c', hc'⟩ : ∃ c', c' = c.hold (.ref p, .list ds) (p, .lst xs) := ⟨_, rfl⟩
          have S1 : Sta c' M σ H1 env n1 := hc' ▸ (S.step e1 w1).hold (Dm.lst hm ha hd) ⟨hm, ha⟩
          have back : ∀ {M' σ' H' env' n'}, Sta c' M' σ' H' env' n' → H' p = some (.lst xs) ∧ DmA M' H' xs ds := fun S' => by
            subst hc'
            have z := S'.gh (.ref p, .list ds) List.mem_cons_self
            have z2 := (S'.gr (p, .lst xs) List.mem_cons_self).2
            cases z with
            | lst _ y2 y3 =>
              have y4 := y2.symm.trans z2
              cases y4
              exact ⟨y2, y3⟩
          have out : ∀ {M' σ' H' env' n'}, Sta c' M' σ' H' env' n' → Sta c M' σ' H' env' n' := fun S' => by
            subst hc'
            exact S'.drop
          have ω' : c'.ω = c.ω := by rw [hc']; rfl
          have h0' : c'.H0 = c.H0 := by rw [hc']; rfl
          have m0' : c'.M0 = c.M0 := by rw [hc']; rfl
          refine ⟨p, rfl, ⟨xs, SqL.of ha⟩, for_list (K := X.K) (a := p) (xs := xs) (fun k σ H => ∃ M env n, Sta c' M σ H env n ∧ I k env n) ⟨M, env, n1, S1, i0⟩ ?_ ?_ ?_⟩
          · rintro k' σ' H' _ ⟨_, _, _, z, _⟩
            exact SqL.of (back z).1
          · rintro k' x σ' H' hx ⟨M', env', n', S', q'⟩
            obtain ⟨d, hd1, hd2⟩ := (back S').2.getV hx
            have z := iS k' d env' n' hd1 q'
            show cS ts _ (σ'.set i (some x)) H'
            exact goS (S'.set i (d := .dat d) hd2) z ⟨fun M2 σ2 H2 env2 n2 S2 h2 => ⟨M2, env2, n2, S2, h2⟩, fun M2 σ2 H2 env2 n2 S2 h2 => k.nx M2 σ2 H2 env2 n2 (out S2) h2, fun M2 σ2 H2 env2 n2 S2 h2 => ⟨M2, env2, n2, S2, h2⟩, by rw [ω', h0', m0']; exact k.rt⟩
          · rintro σ' H' ⟨M', env', n', S', q'⟩
            rw [hd.length] at q'
            exact k.nx M' σ' H' env' n' (out S') (iE env' n' q')
      | _ => exact q1.elim
end
end Sx

set_option Elab.async false
set_option linter.all false
set_option maxRecDepth 100000
set_option maxHeartbeats 2000000
namespace Sx
open PySem PySem.Spec L2
open PyProof.Rows hiding St

/-! ### defs, where no repr is under way -/
structure RoomG (k : Nat) (A : Around) : Prop where
  rm : Room k A
  gd : A.guards = some []
theorem RoomG.mono {j k : Nat} {A : Around} (r : RoomG k A) (h : j ≤ k) : RoomG j A := ⟨r.rm.mono h, r.gd⟩
theorem guards_deeper (A : Around) (env : Env) : (A.deeper env).guards = A.guards := by first | rfl | simp [Around.deeper]
theorem RoomG.deeper {k : Nat} {A : Around} (r : RoomG (k + 1) A) (env : Env) : RoomG k (A.deeper env) := ⟨r.rm.deeper env, (guards_deeper A env).trans r.gd⟩

structure FnG (P : Program) (w : World) (K : PySem.W.Frag) (mg : Str → Option Value) (base : Heap) (CX : CXT) (k : Nat) (f : Addr) (fd : FuncData) (ps : List Str) (sp : Sp) : Prop where
  len : ∀ vs H Q E, sp vs H Q E → vs.length = ps.length
  go : ∀ (A : Around) (out : List Env) (s : Shared) (H : Hp) (ar : Args) (us : List Value) (vs : List V) (Q : VK) (E : XK), RoomG k A → Env0 P w K mg base A out s H → BindsTo s fd ar (ps.zip us) → Vals vs us →
    sp vs H Q E → codeAny (model P w) A (.call (.ref f) ar) (CR CX out P w H s Q E) s
section
variable {P : Program} {w : World} {K : PySem.W.Frag} {mg : Str → Option Value} {base : Heap} {CX : CXT} {k : Nat} {f : Addr} {fd : FuncData} {ps N : List Str} {sp : Sp}
theorem FnG.mono {j : Nat} (F : FnG P w K mg base CX j f fd ps sp) (h : j ≤ k) : FnG P w K mg base CX k f fd ps sp :=
  ⟨F.len, fun A out s H ar us vs Q E hr => F.go A out s H ar us vs Q E (hr.mono h)⟩
/-- a def of the text by its body -/
theorem fnG_of {x qual : Str} {st : Stmt} (F : Fun K x qual st f fd) (Sc : FnScope N ps (defScope st)) (len : ∀ vs H Q E, sp vs H Q E → vs.length = ps.length)
    (hb : ∀ (cdv : Value) (A : Around) (out : List Env) (s : Shared) (H : Hp) (vs : List V) (Q : VK) (E : XK), RoomG k (A.deeper (envOfC qual (defScope st) s.heap.objs.size f cdv)) → sp vs H Q E →
      ∃ t, PSs (cxOf CX P w K mg base N qual (defScope st) f cdv A out s H E) (defBody st) t ∧ t { nx := fun _ H' => Q .non H', rt := Q } (start N vs) H) : FnG P w K mg base CX (k + 1) f fd ps sp := by
  obtain ⟨oc, od, kV, doc, pm, an, cdv, ct, osl, rfl, lk, hcd⟩ := F.ex
  refine ⟨len, ?_⟩
  intro A out s H ar us vs Q E rg e0 bt rel hsp
  have nvs := len _ _ _ _ hsp
  have kin : K.In s.heap := e0.mod.kin.keeps (fun b o z => (e0.bs b o z).1)
  have lim : s.heap.NoLimit := e0.mod.nolimit.keeps (fun b o z => (e0.bs b o z).1)
  refine codeAny_call_function rg.rm.depth (kin _ _ lk) rfl Sc.co Sc.gen rfl (PySem.W.codeRec_of kin hcd) (bt _ _ _ _ (wpAny_newFunctionEnv_cells Sc.kind ?kd fun env he s1 ic => ?bd))
  case kd =>
    rintro ⟨n, v⟩ hy
    have q := Sc.par n (List.of_mem_zip hy).1
    exact q.imp id fun q => ⟨q, PySem.W.cellsFrom_some _ _ _ (Or.inl q)⟩
  case bd =>
    subst he
    refine ⟨lim.keeps ic.toInCall.keep, codeAny_func ?_⟩
    obtain ⟨t, ht, hq⟩ := hb cdv A out s H vs Q E (rg.deeper _) hsp
    have I := inv_start (CX := CX) (N := N) (qual := qual) (f := f) (cd := cdv) (E := E) Sc rg.rm.hd e0 nvs rel ic
    refine wpAny_mono (ht.run [] s1 (start N vs) H _ I hq) ?_ (fun _ _ z => z)
    intro fl s' hs
    cases fl with
    | brk => exact False.elim hs.choose_spec.choose_spec.2
    | cont => exact False.elim hs.choose_spec.choose_spec.2
    | ret u =>
      obtain ⟨v, σ', H', J, rv, q⟩ := hs
      exact ⟨v, H', J.os, J.bare, J.base, J.hok, rv, q⟩
    | next =>
      obtain ⟨σ', H', J, q⟩ := hs
      exact ⟨V.non, H', J.os, J.bare, J.base, J.hok, rfl, q⟩

/-! ### promises over data -/
abbrev DSp := List DV → Nat → (DV → Nat → Prop) → Prop
def cSp (S : DSp) : Sp := fun vs H Q _ => ∃ ω M ds n R, (∀ a, dr ω a → M a) ∧ (∀ a, M a → H a ≠ none) ∧ WR ω n H ∧ VReps ω M H vs ds ∧ S ds n R ∧
  ∀ v H' d n', Ext (dr ω) H H' → WR ω n' H' → VRep ω M H' v d → R d n' → Q v H'
theorem VReps.length {ω : DrA} {M : Addr → Prop} {H : Hp} : ∀ {vs : List V} {ds : List DV}, VReps ω M H vs ds → vs.length = ds.length
  | _, _, .nil => rfl
  | _, _, .cons _ t => congrArg (· + 1) (VReps.length t)
theorem cSp_len {S : DSp} (h : ∀ ds n R, S ds n R → ds.length = ps.length) : ∀ vs H Q E, cSp S vs H Q E → vs.length = ps.length := fun vs H Q E ⟨ω, M, ds, n, R, _, _, _, r, q, _⟩ => r.length.trans (h ds n R q)
/-- the slots at the entry -/
def entry (m : Nat) (ds : List DV) : En := ds.map some ++ List.replicate (m - ds.length) none
def Plain : DV → Prop
  | .own _ => False
  | _ => True
theorem VRep.plain {ω : DrA} {M : Addr → Prop} {H : Hp} {v : V} {d : DV} (h : VRep ω M H v d) : Plain d := by
  cases d with
  | own _ => exact h.elim
  | _ => trivial
theorem reps_get {ω : DrA} {M : Addr → Prop} {H : Hp} : ∀ {vs : List V} {ds : List DV} {i : Nat} {d : DV}, VReps ω M H vs ds → ds[i]? = some d → ∃ v, vs[i]? = some v ∧ VRep ω M H v d
  | _, _, _, _, .nil, e => by simp at e
  | _, _, 0, _, .cons h _, e => by simp at e; subst e; exact ⟨_, rfl, h⟩
  | _, _, i + 1, d, .cons _ t, e => by
    obtain ⟨u, h1, h2⟩ := reps_get (i := i) (d := d) t (by simpa using e)
    exact ⟨u, by simpa using h1, h2⟩
theorem entry_get {m : Nat} {ds : List DV} {i : Nat} {x : DV} (e : (entry m ds)[i]? = some (some x)) : ds[i]? = some x := by
  unfold entry at e
  by_cases hi : i < ds.length
  · rw [List.getElem?_append_left (by simpa using hi), List.getElem?_map] at e
    cases z : ds[i]? with
    | none => rw [z] at e; cases e
    | some y => rw [z] at e; cases e; rfl
  · rw [List.getElem?_append_right (by simpa using hi), List.getElem?_replicate] at e
    split at e <;> cases e
theorem sta_entry {ω : DrA} {M : Addr → Prop} {H : Hp} {n : Nat} {vs : List V} {ds : List DV} (N : List Str) (d0 : ∀ a, dr ω a → M a) (dom : ∀ a, M a → H a ≠ none) (w : WR ω n H) (r : VReps ω M H vs ds) :
    Sta ⟨ω, H, M, [], []⟩ M (start N vs) H (entry N.length ds) n where
  m0 := fun _ h => h
  d0 := d0
  dom := dom
  wr := w
  keep := Ext.rfl' H
  len := by unfold L2.start entry; simp [r.length]
  gh := fun p hp => (nomatch hp)
  gr := fun p hp => (nomatch hp)
  slot := fun i x e => by
    have e2 := entry_get e
    obtain ⟨v, hv, rv⟩ := reps_get r e2
    have hi : i < vs.length := (List.getElem?_eq_some_iff.mp hv).1
    refine ⟨v, ?_, ?_⟩
    · unfold L2.start
      rw [List.getElem?_append_left (by simpa using hi), List.getElem?_map, hv]; rfl
    · cases x with
      | own _ => exact rv.elim
      | _ => exact rv
  own := fun i j xs ys v e _ _ _ => by
    obtain ⟨v, hv, rv⟩ := reps_get r (entry_get e)
    exact rv.elim
/-- a def of the text, its promise over data -/
theorem fnD_of {x qual : Str} {st : Stmt} {S : DSp} {t : DTS} (F : Fun K x qual st f fd) (Sc : FnScope N ps (defScope st)) (len : ∀ ds n R, S ds n R → ds.length = ps.length)
    (hb : ∀ (cdv : Value) (A : Around) (out : List Env) (s : Shared) (H : Hp) (E : XK), RoomG k (A.deeper (envOfC qual (defScope st) s.heap.objs.size f cdv)) → FSs (cxOf CX0 P w K mg base N qual (defScope st) f cdv A out s H E).nox (defBody st) t)
    (pure : ∀ ds n R, S ds n R → t { nx := fun _ n => R (.dat .none) n, rt := R } (entry N.length ds) n) : FnG P w K mg base CX0 (k + 1) f fd ps (cSp S) :=
  fnG_of F Sc (cSp_len len) fun cdv A out s H vs Q E hr ⟨ω, M, ds, n, R, d0, dom, wr, r, hs, kQ⟩ => by
    refine ⟨_, (hb cdv A out s H E hr).nox, ?_⟩
    refine goS (sta_entry N d0 dom wr r) (pure ds n R hs) ⟨fun M' σ' H' env' n' S' q => ?_, fun _ _ _ _ _ _ q => q.elim, fun _ _ _ _ _ _ q => q.elim, fun v H' d n' e1 w1 m1 q1 => kQ v H' d n' e1 w1 m1 q1⟩
    exact kQ .non H' (.dat .none) n' S'.keep S'.wr Dm.non q
end

/-! ### calls -/
section
variable {X : Cx} {k : Nat} {f : Addr} {fd : FuncData} {ps : List Str} {S : DSp} {x : Str} {p pos : Pos} {e : Expr} {es : List Expr} {tl : DTA}
def dCall (S : DSp) (tl : DTA) : DT := fun env n R => tl env n fun ds n1 => S ds n1 R
theorem run_fnG {pins : List (Addr × Obj)} {σ : L2.St} {H : Hp} {s : Shared} {Q : VK} {us : List Value} {vs : List V} {sp : Sp} (F : FnG X.prog X.w X.K X.mg X.base CX0 k f fd ps sp) (hr : RoomG k X.A) (hb : Binds X.K fd ps [])
    (I : Inv X pins σ H s) (r : Vals vs us) (h : sp vs H Q E0) : wpAny (model X.prog X.w) X.A (call (.ref f) us) (EP X pins σ Q) X.xe s := by
  have hl : (us ++ []).length = ps.length := by rw [List.append_nil, ← r.length]; exact F.len _ _ _ _ h
  have hb' := hb s us I.kIn hl
  rw [List.append_nil] at hb'
  refine wpAny_call (codeAny_mono (F.go X.A X.stack s H ⟨us, []⟩ us vs Q E0 hr I.env0 hb' r h) ?_)
  intro r s' hq
  match r, hq with
  | .ok (.ret u), hq => exact I.after hq
theorem peG_call {sp : Sp} {ta : TA} (F : FnG X.prog X.w X.K X.mg X.base CX0 k f fd ps sp) (hr : RoomG k X.A) (hg : Gl X x) (hm : X.mg x = some (.ref f)) (hk : PySem.W.keepIn X.K (.ref f) = true) (hb : Binds X.K fd ps [])
    (ha : PA X (e :: es) ta) (hdb : (x == ("__debug__" : Str)) = false := by decide) (he : starEach (e :: es) X.env = (false, eval e X.env) :: starEach es X.env := by rfl)
    (hpl : (backTo pos (starEach es X.env)).any (·.1) = false := by rfl) : PE X (.Call (.Name x p) (e :: es) [] pos) (fun σ H Q => ta σ H fun vs H1 => sp vs H1 Q E0) :=
  ⟨fun pins s σ H Q I h => wpAny_Call_Name_kw (ld_glob I hg hm (PySem.W.callWith_K (h₀ := X.base) I.ok.mod.kin hk (thn (ha.run pos pins s σ H _ I h) fun us s1 ⟨vs, H1, I1, r, q⟩ => ⟨I1.kIn, run_fnG F hr hb I1 r q⟩) he hpl) hdb)⟩
theorem call_go {ta : TA} {c : Cw} {M : Addr → Prop} {σ : L2.St} {H : Hp} {env : En} {n : Nat} {R : DV → Nat → Prop} (St : Sta c M σ H env n) (h : dCall S tl env n R) : cA tl σ H fun vs H1 => cSp S vs H1 (OutE c M H R) E0 :=
  goA St h fun vs H1 ds n1 e1 w1 m1 q1 => ⟨c.ω, M, ds, n1, R, St.dM, (St.step e1 w1).dom, w1, m1, q1, fun v H' d n' e2 w2 m2 q2 => ⟨d, n', e1.trans e2, w2, m2, q2⟩⟩
theorem fe_call (F : FnG X.prog X.w X.K X.mg X.base CX0 k f fd ps (cSp S)) (hr : RoomG k X.A) (hg : Gl X x) (hm : X.mg x = some (.ref f)) (hk : PySem.W.keepIn X.K (.ref f) = true) (hb : Binds X.K fd ps [])
    (ha : FA X (e :: es) tl) (hdb : (x == ("__debug__" : Str)) = false := by decide) (he : starEach (e :: es) X.env = (false, eval e X.env) :: starEach es X.env := by rfl)
    (hpl : (backTo pos (starEach es X.env)).any (·.1) = false := by rfl) : FE X (.Call (.Name x p) (e :: es) [] pos) (dCall S tl) :=
  FE.of (peG_call F hr hg hm hk hb ha hdb he hpl) fun c M σ H env n R St h => call_go (ta := cA tl) St h
end
end Sx

set_option Elab.async false
set_option linter.all false
set_option maxRecDepth 100000
set_option maxHeartbeats 2000000
namespace Sx
open PySem PySem.Spec L2
open PyProof.Rows hiding St
/-! ### the drawing def, over heaps. Slots: draws_so, limit, at, place, left, mixed -/
section
variable {K : PySem.W.Frag}
def rLen (K : PySem.W.Frag) : List V → Hp → VK → Prop := fun xs H Q => ∃ p ys, xs = [.ref p] ∧ (SqL K H p ys ∨ SqT K H p ys) ∧ Q (.int ys.length) H
def rInt : List V → Hp → VK → Prop := fun xs H Q => (∃ i, xs = [.int i] ∧ Q (.int i) H) ∨ ∃ k, xs = [.bl k] ∧ Q (.int (if k then 1 else 0)) H
def aAdd : R2 := rI0 fun i j => .int (i + j)
def aMul : R2 := rI CMulW fun i j => .int (i * j)
def aDiv : R2 := rI CDivW fun i j => .int (i / j)
def aMod : R2 := rI (fun _ j => 0 < j) fun i j => .int (i % j)
def aGt : R2 := rI0 fun i j => .bl (decide (j < i))
def kS (x : Str) : TE := tC (.str x)
def one1 (t : TE) : TA := tCons t tNil
def two2 (t u : TE) : TA := tCons t (tCons u tNil)
/-- left = draws_so['lefts'][place] is positive: it is divided -/
def tDrawB (K : PySem.W.Frag) : TS := tSeq (tAsg (tOp aDiv (tVar 4) (tVar 1)) (gSub (tDGet (tVar 0) (kS "lefts")) (tVar 3) rSetL)) (tRet (tOp aMod (tCB rInt (one1 (tVar 4))) (tVar 1)))
def tMix (spM : Sp) (a b : TE) : TE := fun σ H Q => two2 a b σ H fun vs H1 => spM vs H1 Q E0
def tDraw (K : PySem.W.Frag) (spM : Sp) : TS :=
  tSeq (tAsg (tDGet (tVar 0) (kS "at")) (gName 2))
  (tSeq (sDPut (tVar 0) (kS "at") (tOp aAdd (tVar 2) (tC (.int 1))))
  (tSeq (tAsg (tOp aMod (tCB rInt (one1 (tVar 2))) (tCB (rLen K) (one1 (tDGet (tVar 0) (kS "cells"))))) (gName 3))
  (tSeq (tAsg (tOp (rIxL K) (tDGet (tVar 0) (kS "lefts")) (tVar 3)) (gName 4))
  (tSeq (tIfS (tTest (tOp aGt (tVar 4) (tC (.int 0)))) (tDrawB K) tNext)
  (tSeq (tAsg (tMix spM (tMix spM (tOp (rIxL K) (tDGet (tVar 0) (kS "cells")) (tVar 3)) (tVar 2)) (tOp aAdd (tC (.int 40)) (tVar 2))) (gName 5))
  (tRet (tOp aMod (tOp aDiv (tCB rInt (one1 (tOp aAdd (tOp aMul (tVar 5) (tC (.int 2147483647))) (tMix spM (tVar 5) (tOp aAdd (tC (.int 7)) (tVar 2)))))) (tC (.int 64))) (tVar 1))))))))
end
end Sx

set_option Elab.async false
set_option linter.all false
set_option maxRecDepth 100000
set_option maxHeartbeats 2000000
namespace Sx
open PySem PySem.Spec L2
open PyProof.Rows hiding St
abbrev LIM : Nat := 1073741824
/-- _law_mixed(cell, k): some number -/
def sMixed : DSp := fun ds n R => ∃ c k, ds = [IV c, IV k] ∧ 0 ≤ k ∧ k < 2147483648 ∧ ∀ r, 0 ≤ r → r < 2147483629 → R (IV r) n
/-- _law_draw(draws_so, limit): some number from 0 on, below limit -/
def sDraw : DSp := fun ds n R => ∃ lim, ds = [.draws, IV lim] ∧ 0 < lim ∧ lim.natAbs.log2 < 9000 ∧ n < LIM ∧ ∀ k, 0 ≤ k → k < lim → R (IV k) (n + 1)
abbrev kC : Key := Sum.inr ("cells" : Str)
abbrev kL : Key := Sum.inr ("lefts" : Str)
abbrev kA : Key := Sum.inr ("at" : Str)
def kvsOf (c l : Addr) (t : Int) : List (Key × V) := [(kC, .ref c), (kL, .ref l), (kA, .int t)]
theorem key_ne1 : ¬ (kC = kA) := by decide +kernel
theorem key_ne2 : ¬ (kL = kA) := by decide +kernel
theorem key_ne3 : ¬ (kC = kL) := by decide +kernel
theorem kvs_at (c l : Addr) (t : Int) : valV (kvsOf c l t) kA = some (.int t) := by
  unfold kvsOf
  rw [valV_neg key_ne1, valV_neg key_ne2, valV_pos rfl]
theorem kvs_lefts (c l : Addr) (t : Int) : valV (kvsOf c l t) kL = some (.ref l) := by
  unfold kvsOf
  rw [valV_neg key_ne3, valV_pos rfl]
theorem kvs_cells (c l : Addr) (t : Int) : valV (kvsOf c l t) kC = some (.ref c) := by
  unfold kvsOf
  rw [valV_pos rfl]
theorem kvs_put (c l : Addr) (t u : Int) : putK (kvsOf c l t) kA (.int u) = kvsOf c l u := by
  have a : ¬ Str.ofString "cells" = Str.ofString "at" := by decide +kernel
  have b : ¬ Str.ofString "lefts" = Str.ofString "at" := by decide +kernel
  unfold kvsOf putK
  simp [a, b]
theorem get_at {H : Hp} {d c l : Addr} {t : Int} (h : H d = some (.dK (kvsOf c l t))) : DGet H d (.str "at") (some (.int t)) := by
  have z := DGet.k (k := kA) h
  rw [kvs_at] at z
  exact z
theorem get_lefts {H : Hp} {d c l : Addr} {t : Int} (h : H d = some (.dK (kvsOf c l t))) : DGet H d (.str "lefts") (some (.ref l)) := by
  have z := DGet.k (k := kL) h
  rw [kvs_lefts] at z
  exact z
theorem get_cells {H : Hp} {d c l : Addr} {t : Int} (h : H d = some (.dK (kvsOf c l t))) : DGet H d (.str "cells") (some (.ref c)) := by
  have z := DGet.k (k := kC) h
  rw [kvs_cells] at z
  exact z
theorem put_at {H : Hp} {d c l : Addr} {t u : Int} (h : H d = some (.dK (kvsOf c l t))) : DPut H d (.str "at") (.int u) (upd H d (.dK (kvsOf c l u))) := by
  have z := DPut.k (k := kA) (v := .int u) h (show 3 < sizeLine by decide)
  rw [kvs_put] at z
  exact z
theorem log_small {j : Int} (h0 : 0 ≤ j) (h : j < 2 ^ 63) : j.natAbs.log2 < 64 := by
  by_cases z : j.natAbs = 0
  · rw [z]; decide
  · exact (Nat.log2_lt z).2 (by omega)
theorem mulW_small {i j : Int} (h1 : 0 ≤ i) (h2 : i < 2 ^ 63) (h3 : 0 ≤ j) (h4 : j < 2 ^ 63) : CMulW i j := by
  have a := log_small h1 h2
  have b := log_small h3 h4
  unfold CMulW
  omega
section
variable {K : PySem.W.Frag}
theorem dr_ne {H : Hp} {d l c : Addr} {n : Nat} (h : Draws H d l c n) : d ≠ l ∧ d ≠ c ∧ l ≠ c := by
  obtain ⟨cs, ls, t, h1, h2, h3, h4, _⟩ := h
  exact ⟨ne_of h1 h2 (by intro z; cases z), ne_of h1 h3 (by intro z; cases z), h4⟩
/-- a call of the mixing def -/
theorem mix_go {ω : DrA} {M : Addr → Prop} {H : Hp} {n : Nat} {c k : Int} {Q : VK} (d0 : ∀ a, dr ω a → M a) (dom : ∀ a, M a → H a ≠ none) (w : WR ω n H) (h0 : 0 ≤ k) (h1 : k < 2147483648)
    (q : ∀ r H', 0 ≤ r → r < 2147483629 → Ext (dr ω) H H' → WR ω n H' → Q (.int r) H') : cSp sMixed [.int c, .int k] H Q E0 :=
  ⟨ω, M, [IV c, IV k], n, fun d m => ∃ r, d = IV r ∧ 0 ≤ r ∧ r < 2147483629 ∧ m = n, d0, dom, w, .cons (Dm.int _) (.cons (Dm.int _) .nil), ⟨c, k, rfl, h0, h1, fun r a b => ⟨r, rfl, a, b, rfl⟩⟩, fun v H' d m e w' m' ⟨r, e1, a, b, e2⟩ => by
    subst e1
    subst e2
    cases m'
    exact q r H' a b e w'⟩
theorem pure_draw (vs : List V) (H : Hp) (Q : VK) (E : XK) (h : cSp sDraw vs H Q E) : tDraw K (cSp sMixed) { nx := fun _ H' => Q .non H', rt := Q } (L2.start ["draws_so", "limit", "at", "place", "left", "mixed"] vs) H := by
  obtain ⟨ω, M, ds, n, R, d0, dom, wr, rp, ⟨lim, rfl, l0, l9, nL, kR⟩, kQ⟩ := h
  cases rp with
  | cons r1 rp =>
  cases rp with
  | cons r2 rp =>
  cases rp
  cases r2
  obtain ⟨d, l, c, rfl, rfl⟩ := r1
  have wr0 : Draws H d l c n := wr
  obtain ⟨cs, ls, t, h1, h2, h3, h4, h5, h6, h7, h8⟩ := wr
  obtain ⟨ne1, ne2, ne3⟩ := dr_ne wr0
  have h1' : H d = some (.dK (kvsOf c l t)) := h1
  obtain ⟨H1, eH1⟩ : ∃ H1, H1 = upd H d (.dK (kvsOf c l (t + 1))) := ⟨_, rfl⟩
  have g1 : H1 d = some (.dK (kvsOf c l (t + 1))) := by rw [eH1, upd_same]
  have g2 : H1 l = some (.lst (ls.map V.int)) := by rw [eH1, upd_ne (Ne.symm ne1)]; exact h2
  have g3 : H1 c = some (.lst (cs.map V.int)) := by rw [eH1, upd_ne (Ne.symm ne2)]; exact h3
  have x1 : Ext (dr (some (d, l, c))) H H1 := fun a o e z => by rw [eH1, upd_ne fun y => z (.inl y)]; exact e
  have w1 : WR (some (d, l, c)) (n + 1) H1 := ⟨cs, ls, t + 1, g1, g2, g3, h4, h5, h6, by omega, by omega⟩
  have dom1 : ∀ a, M a → H1 a ≠ none := fun a ha => by
    by_cases z : a = d
    · subst z; rw [g1]; simp
    · rw [eH1, upd_ne z]; exact dom a ha
  -- at = draws_so['at']; draws_so['at'] = at + 1
  refine ⟨_, rfl, _, _, rfl, get_at h1', _, rfl, _, _, rfl, rfl, _, rfl, _, _, rfl, put_at h1', ?_⟩
  rw [← eH1]
  -- place = int(at) % len(draws_so['cells'])
  have lenP : (0 : Int) < ((cs.map V.int).length : Int) := by rw [List.length_map]; omega
  refine ⟨_, rfl, .inl ⟨_, rfl, _, rfl, _, _, rfl, get_cells g1, c, _, rfl, .inl (SqL.of g3), _, _, rfl, rfl, lenP, ?_⟩⟩
  obtain ⟨pl, epl⟩ : ∃ pl : Int, pl = t % ((cs.map V.int).length : Int) := ⟨_, rfl⟩
  have p0 : 0 ≤ pl := by rw [epl]; exact Int.emod_nonneg _ (by omega)
  have p1 : pl < (cs.length : Int) := by
    have z := Int.emod_lt_of_pos t lenP
    rw [← epl, List.length_map] at z
    exact z
  show gName 3 (V.int (t % ((cs.map V.int).length : Int))) _ _ _
  rw [← epl]
  obtain ⟨pn, rfl⟩ : ∃ pn : Nat, pl = (pn : Int) := ⟨pl.toNat, by omega⟩
  have pn1 : pn < ls.length := by omega
  have pn2 : pn < cs.length := by omega
  -- left = draws_so['lefts'][place]
  have iL : (ls.map V.int)[pn]? = some (.int ls[pn]) := by rw [List.getElem?_map, List.getElem?_eq_getElem pn1]; rfl
  have iC : (cs.map V.int)[pn]? = some (.int cs[pn]) := by rw [List.getElem?_map, List.getElem?_eq_getElem pn2]; rfl
  refine ⟨_, rfl, _, _, rfl, get_lefts g1, ?_⟩
  obtain ⟨left, eleft⟩ : ∃ left, left = ls[pn] := ⟨_, rfl⟩
  rw [← eleft] at iL
  refine ⟨_, rfl, ?_⟩
  refine ⟨l, _, _, _, rfl, rfl, SqL.of g2, atI_nat iL, ?_⟩
  -- if left > 0
  refine ⟨_, rfl, _, _, rfl, rfl, _, rfl, ite2 (fun cL => ?_) (fun cL => ?_)⟩
  · have c2 : 0 < left := of_decide_eq_true cL
    refine ⟨_, rfl, _, rfl, _, _, rfl, rfl, ⟨l0, l9⟩, _, rfl, _, _, rfl, get_lefts g1, _, rfl, ?_⟩
    have ixn : ixN (ls.map V.int).length (pn : Int) = some pn := by
      unfold ixN
      rw [List.length_map, if_pos (by omega), if_pos (by omega)]; simp
    refine ⟨l, _, _, pn, rfl, rfl, g2, ixn, ?_⟩
    refine ⟨_, rfl, .inl ⟨_, rfl, _, rfl, _, _, rfl, rfl, l0, ?_⟩⟩
    have em : (ls.map V.int).set pn (.int (left / lim)) = (ls.set pn (left / lim)).map V.int := by rw [List.map_set]
    refine kQ _ _ (IV (left % lim)) (n + 1) ?_ ?_ (Dm.int _) (kR _ (Int.emod_nonneg _ (by omega)) (Int.emod_lt_of_pos _ l0))
    · exact fun a o e z => by rw [upd_ne fun y => z (.inr (.inl y))]; exact x1 a o e z
    · refine ⟨cs, ls.set pn (left / lim), t + 1, ?_, ?_, ?_, h4, by rw [List.length_set]; exact h5, h6, by omega, by omega⟩
      · rw [upd_ne ne1]; exact g1
      · rw [upd_same, em]
      · rw [upd_ne (Ne.symm ne3)]; exact g3
  · -- mixed = ..
    refine ⟨_, rfl, _, _, rfl, get_cells g1, _, rfl, ?_⟩
    refine ⟨c, _, _, _, rfl, rfl, SqL.of g3, atI_nat iC, _, rfl, ?_⟩
    refine mix_go d0 dom1 w1 h7 (by have : LIM = 1073741824 := rfl; omega) fun m1 H2 m10 m11 x2 w2 => ?_
    refine ⟨_, rfl, _, _, rfl, rfl, ?_⟩
    have dom2 : ∀ a, M a → H2 a ≠ none := fun a ha => by
      by_cases z : dr (some (d, l, c)) a
      · exact w2.dom z
      · cases y : H1 a with
        | none => exact absurd y (dom1 a ha)
        | some o => rw [x2 a o y z]; simp
    refine mix_go d0 dom2 w2 (by omega) (by have : LIM = 1073741824 := rfl; omega) fun m2 H3 m20 m21 x3 w3 => ?_
    have dom3 : ∀ a, M a → H3 a ≠ none := fun a ha => by
      by_cases z : dr (some (d, l, c)) a
      · exact w3.dom z
      · cases y : H2 a with
        | none => exact absurd y (dom2 a ha)
        | some o => rw [x3 a o y z]; simp
    refine ⟨_, rfl, _, _, rfl, rfl, mulW_small m20 (by omega) (by decide) (by decide), _, rfl, _, rfl, _, _, rfl, rfl, ?_⟩
    refine mix_go d0 dom3 w3 (by omega) (by have : LIM = 1073741824 := rfl; omega) fun m3 H4 m30 m31 x4 w4 => ?_
    refine ⟨_, _, rfl, rfl, .inl ⟨_, rfl, _, _, rfl, rfl, ⟨by decide, by decide⟩, _, rfl, _, _, rfl, rfl, l0, ?_⟩⟩
    refine kQ _ _ (IV _) (n + 1) (((x1.trans x2).trans x3).trans x4) w4 (Dm.int _) (kR _ (Int.emod_nonneg _ (by omega)) (Int.emod_lt_of_pos _ l0))
end
end Sx

set_option Elab.async false
set_option linter.all false
set_option maxRecDepth 100000
set_option maxHeartbeats 2000000
namespace Sx
open PySem PySem.Spec L2
open PyProof.Rows hiding St
section
variable {K : PySem.W.Frag}
def aGe : R2 := rI0 fun i j => .bl (decide (j ≤ i))
def aPow : R2 := rI CPow fun i j => .int (i ^ j.toNat)
def rListOf (K : PySem.W.Frag) : List V → Hp → VK → Prop := fun xs H Q => ∃ p ys, xs = [.ref p] ∧ (SqL K H p ys ∨ SqT K H p ys) ∧ ∀ l, H l = none → Q (.ref l) (upd H l (.lst ys))
/-- cell if cell >= 10 ** 18 else 0 -/
def tKeep : TE := tIf (tTest (tOp aGe (tVar 2) (tOp aPow (tC (.int 10)) (tC (.int 18))))) (tVar 2) (tC (.int 0))
/-- slots: script, cells_so, cell -/
def tBegin (K : PySem.W.Frag) : TS :=
  tSeq (tAsg (tIf (tTest (tOp (rNeD K) (tVar 0) (tLst tNil))) (tCB (rListOf K) (one1 (tVar 0))) (tLst (one1 (tC (.int 0))))) (gName 1))
  (tRet (tDisp [(kS "cells", tVar 1), (kS "lefts", tLc (iList K (tVar 1)) (gName 2) tYes tKeep [2]), (kS "at", tC (.int 0))]))
def spBegin (K : PySem.W.Frag) : Sp := fun vs H Q _ => ∃ (a : Addr) (ns : List Int), vs = [.ref a] ∧ SqL K H a (ns.map V.int) ∧ ns.length ≤ 63 ∧
  ∀ d l c H', H d = none → H l = none → H c = none → Ext (fun _ => False) H H' → Draws H' d l c 0 → Q (.ref d) H'
theorem dp_ints (K : PySem.W.Frag) (H : Hp) : ∀ ns : List Int, DpAll K H (ns.map V.int) (ns.map PyData.int)
  | [] => .nil
  | n :: r => .cons (.int n) (dp_ints K H r)
theorem lay_ints : ∀ ns : List Int, PyData.canLayAll0 (ns.map PyData.int) = true
  | [] => by simp only [List.map_nil, PyData.canLayAll0]
  | n :: r => by simp only [List.map_cons, PyData.canLayAll0, PyData.canLay0, Bool.true_and]; exact lay_ints r
theorem dep_ints : ∀ ns : List Int, PyData.depthAll (ns.map PyData.int) = 0
  | [] => by simp only [List.map_nil, PyData.depthAll]
  | n :: r => by simp only [List.map_cons, PyData.depthAll, PyData.depth, dep_ints r]; rfl
theorem shaped_ints (ns : List Int) : SeqAt.shaped (.list (ns.map PyData.int)) = true := by
  unfold SeqAt.shaped
  simp only [PyData.canLay0, lay_ints ns, PyData.depth, dep_ints ns]
  decide
theorem eqv_nil (ns : List Int) : PyData.eqv (.list (ns.map PyData.int)) (.list []) = ns.isEmpty := by
  cases ns with
  | nil => simp only [List.map_nil, PyData.eqv, PyData.eqvAll, List.isEmpty]
  | cons n r => simp only [List.map_cons, PyData.eqv, PyData.eqvAll, List.isEmpty]
/-- behind cells_so: a new list of at least one int -/
theorem begin_rest {H0 H : Hp} {Q : VK} {c a : Addr} {cs : List Int} (hc0 : H0 c = none) (x0 : Ext (fun _ => False) H0 H) (hc : H c = some (.lst (cs.map V.int))) (hl : 0 < cs.length) (hl2 : cs.length ≤ 100)
    (k : ∀ d l c H', H0 d = none → H0 l = none → H0 c = none → Ext (fun _ => False) H0 H' → Draws H' d l c 0 → Q (.ref d) H') :
    tDisp [(kS "cells", tVar 1), (kS "lefts", tLc (iList K (tVar 1)) (gName 2) tYes tKeep [2]), (kS "at", tC (.int 0))] [some (.ref a), some (.ref c), none] H Q := by
  intro d hd
  have ncd : c ≠ d := ne_of_none hc hd
  have fresh : ∀ {p : Addr} {H' : Hp}, (∀ b o, H b = some o → H' b = some o) → H' p = none → H0 p = none := fun {p H'} e z => by
    cases y : H0 p with
    | none => rfl
    | some o => rw [e p o (x0 p o y id)] at z; cases z
  have hd0 : H0 d = none := fresh (fun _ _ h => h) hd
  obtain ⟨H1, e1⟩ : ∃ H1, H1 = upd H d (.dK []) := ⟨_, rfl⟩
  have k1 : ∀ b o, H b = some o → H1 b = some o := fun b o h => by rw [e1, upd_ne (ne_of_none h hd)]; exact h
  show tPairs _ _ (upd H d (.dK [])) _
  rw [← e1]
  refine ⟨_, rfl, _, rfl, c, rfl, ⟨_, SqL.of (k1 _ _ hc)⟩, fun l hl0 => ?_⟩
  have hd1 : H1 d = some (.dK []) := by rw [e1, upd_same]
  have nld : l ≠ d := fun z => by subst z; rw [hd1] at hl0; cases hl0
  have nlc : c ≠ l := ne_of_none (k1 _ _ hc) hl0
  refine lc_list (K := K) (a := c) (xs := cs.map V.int) (fun i H' => ∃ ls : List Int, ls.length = i ∧ (∀ b o, H1 b = some o → H' b = some o) ∧ H' l = some (.lst (ls.map V.int))) ⟨[], rfl, fun b o h => by rw [upd_ne (ne_of_none h hl0)]; exact h, upd_same⟩ ?_ ?_ ?_
  · rintro i H' _ ⟨ls, _, kp, _⟩
    exact SqL.of (kp _ _ (k1 _ _ hc))
  · rintro i x H' hx ⟨ls, e, kp, hl'⟩
    obtain ⟨z, hz, rfl⟩ : ∃ z, cs[i]? = some z ∧ x = V.int z := by
      rw [List.getElem?_map] at hx
      cases y : cs[i]? with
      | none => rw [y] at hx; cases hx
      | some z => rw [y] at hx; exact ⟨z, rfl, (Option.some.inj hx).symm⟩
    have hi : i < cs.length := (List.getElem?_eq_some_iff.mp hz).1
    refine ⟨rfl, ?_⟩
    unfold tYes
    refine iteT ?_
    have fin : ∀ w : Int, ∃ acc, H' l = some (.lst acc) ∧ acc.length < sizeLine ∧ ∃ ls2 : List Int, ls2.length = i + 1 ∧ (∀ b o, H1 b = some o → upd H' l (.lst (acc ++ [V.int w])) b = some o) ∧ upd H' l (.lst (acc ++ [V.int w])) l = some (.lst (ls2.map V.int)) := fun w =>
      ⟨_, hl', by rw [List.length_map, e]; exact Nat.lt_of_lt_of_le (Nat.lt_of_lt_of_le hi hl2) (by decide), ls ++ [w], by simp [e], fun b o h => by rw [upd_ne (ne_of_none h hl0)]; exact kp b o h, by rw [upd_same]; simp⟩
    refine ⟨_, rfl, _, _, rfl, rfl, ⟨by decide, by decide, by decide⟩, _, _, rfl, rfl, _, rfl, ite2 (fun _ => ?_) (fun _ => ?_)⟩
    · exact ⟨_, rfl, fin z⟩
    · exact fin 0
  · rintro H2 ⟨ls, e, kp, hl'⟩
    rw [List.length_map] at e
    refine ⟨kp _ _ hd1, [(kC, .ref c), (kL, .ref l), (kA, .int 0)], rfl, by show 3 ≤ 15; decide, ?_⟩
    have em : mergeK [] [(kC, V.ref c), (kL, .ref l), (kA, .int 0)] = kvsOf c l 0 := by
      have a : ¬ Str.ofString "cells" = Str.ofString "at" := by decide +kernel
      have b : ¬ Str.ofString "lefts" = Str.ofString "at" := by decide +kernel
      have c' : ¬ Str.ofString "cells" = Str.ofString "lefts" := by decide +kernel
      simp [mergeK, putK, kvsOf, a, b, c']
    rw [em]
    have kpd : ∀ b o, H b = some o → upd H2 d (.dK (kvsOf c l 0)) b = some o := fun b o h => by rw [upd_ne (ne_of_none h hd)]; exact kp b o (k1 b o h)
    refine k d l c _ hd0 (fresh k1 hl0) hc0 (fun b o h _ => kpd b o (x0 b o h id)) ⟨cs, ls, 0, upd_same, ?_, kpd c _ hc, Ne.symm nlc, e, hl, Int.le_refl _, Int.le_refl _⟩
    rw [upd_ne nld]
    exact hl'
theorem pure_begin (vs : List V) (H : Hp) (Q : VK) (E : XK) (h : spBegin K vs H Q E) : tBegin K { nx := fun _ H' => Q .non H', rt := Q } (L2.start ["script", "cells_so", "cell"] vs) H := by
  obtain ⟨a, ns, rfl, hS, hn, k⟩ := h
  have z1000 : ([] : List V).length ≤ sizeLine := by show 0 ≤ sizeLine; decide
  refine ⟨_, rfl, z1000, fun p hp => ?_⟩
  have xp : Ext (fun _ => False) H (upd H p (.lst [])) := Ext.new hp
  have hS2 : SqL K (upd H p (.lst [])) a (ns.map V.int) := by
    rcases hS with (h | ⟨o, h⟩) | h
    · exact .inl (.inl (xp _ _ h id))
    · exact .inl (.inr ⟨o, xp _ _ h id⟩)
    · exact .inr h
  refine ⟨.list (ns.map PyData.int), .list [], .lst hS2 (dp_ints K _ ns), .lst (SqL.of upd_same) .nil, shaped_ints ns, by decide, ?_⟩
  rw [eqv_nil]
  refine ⟨_, rfl, ?_⟩
  cases ns with
  | nil =>
    refine iteF ?_
    refine ⟨by show 1 ≤ sizeLine; decide, fun c hc => ?_⟩
    have hc0 : H c = none := by
      cases y : H c with
      | none => rfl
      | some o => rw [xp c o y id] at hc; cases hc
    exact begin_rest (K := K) (cs := [0]) hc0 (xp.trans (Ext.new hc)) upd_same (by decide) (by decide) k
  | cons n r =>
    refine iteT ?_
    refine ⟨_, rfl, a, _, rfl, .inl hS2, fun c hc => ?_⟩
    have hc0 : H c = none := by
      cases y : H c with
      | none => rfl
      | some o => rw [xp c o y id] at hc; cases hc
    exact begin_rest (K := K) (cs := n :: r) hc0 (xp.trans (Ext.new hc)) upd_same (by simp) (by have : (n :: r).length ≤ 63 := hn; omega) k

/-! ### the law's def -/
def spLaw (K : PySem.W.Frag) : Sp := fun vs H Q _ => ∃ (a : Addr) (ns : List Int), vs = [.ref a] ∧ SqL K H a (ns.map V.int) ∧ ns.length ≤ 63 ∧ ∀ H', Q (.bl true) H'
def tLawOf (K : PySem.W.Frag) (t : DTS) : TS := tSeq (tAsg (fun σ H Q => one1 (tVar 0) σ H fun vs H1 => spBegin K vs H1 Q E0) (gName 1)) (cS t)
theorem pure_law {t : DTS} {N : List Str} {m : Nat} (hN : N.length = m + 2) (h : t { nx := fun _ _ => False, rt := fun d _ => d = BV true } (none :: some .draws :: List.replicate m none) 0) (vs : List V) (H : Hp) (Q : VK) (E : XK) (hs : spLaw K vs H Q E) :
    tLawOf K t { nx := fun _ H' => Q .non H', rt := Q } (L2.start N vs) H := by
  obtain ⟨a, ns, rfl, hS, hn, k⟩ := hs
  have e0 : L2.start N [V.ref a] = some (.ref a) :: none :: List.replicate m none := by
    unfold L2.start
    rw [hN]
    show some (V.ref a) :: List.replicate (m + 2 - 1) none = _
    rw [show m + 2 - 1 = m + 1 from by omega, List.replicate_succ]
  rw [e0]
  refine ⟨_, rfl, a, ns, rfl, hS, hn, fun d l c H' hd hl hc x D => ?_⟩
  show cS t _ (some (V.ref a) :: some (.ref d) :: List.replicate m none) H'
  have neq := dr_ne D
  refine goS (c := ⟨some (d, l, c), H', fun a => a = d ∨ a = l ∨ a = c, [], []⟩) (M := fun a => a = d ∨ a = l ∨ a = c) ⟨fun _ z => z, fun _ z => z, fun b z => WR.dom (ω := some (d, l, c)) (n := 0) D z, D, Ext.rfl' H', by simp, fun p hp => (nomatch hp), fun p hp => (nomatch hp), ?_, ?_⟩ h ⟨fun _ _ _ _ _ _ z => z.elim, fun _ _ _ _ _ _ z => z.elim, fun _ _ _ _ _ _ z => z.elim, fun v H2 y n2 _ _ r z => ?_⟩
  · intro i x e
    match i, e with
    | 0, e => cases e
    | 1, e => cases e; exact ⟨_, rfl, d, l, c, rfl, rfl⟩
    | i + 2, e =>
      have e' : (List.replicate m (none : Option DV))[i]? = some (some x) := e
      rw [List.getElem?_replicate] at e'
      split at e' <;> cases e'
  · intro i j xs ys v e _ _ _
    match i, e with
    | 0, e => cases e
    | 1, e => cases e
    | i + 2, e =>
      have e' : (List.replicate m (none : Option DV))[i]? = some (some (.own xs)) := e
      rw [List.getElem?_replicate] at e'
      split at e' <;> cases e'
  · subst z
    cases r
    exact k H2
end
end Sx

set_option Elab.async false
set_option linter.all false
set_option maxRecDepth 100000
set_option maxHeartbeats 2000000
namespace Sx
open PySem PySem.Spec L2
open PyProof.Rows hiding St
/-! ### the end: the law's def, called by the claim -/
section
variable {P : Program} {w : World} {K : PySem.W.Frag} {mg mb : Str → Option Value} {k : Nat} {fa a : Addr} {fd : FuncData} {x : Str} {s : Shared} {vs : List Value} {ns : List Int}
/-- from an abstract heap that tracks the script at most -/
theorem law_from {H : Hp} (kx : K.In s.heap) (gl : s.heap.Ns mainGlobals mg) (bl : s.heap.Ns builtinsNs mb) (bb : ∀ y : Str, y ≠ "__name__" → mb y = bootBuiltins y) (lim : s.heap.NoLimit) (gens : s.gens = #[])
    (ha : s.heap.get? a = some { cls := .type "list", data := .seq vs.toArray }) (rm : RoomG k callerA) (F : ∀ base : Heap, K.In base → base.Ns mainGlobals mg → FnG P w K mg base CX0 k fa fd [x] (spLaw K))
    (bt : ∀ (s : Shared) (u : Value), BindsTo s fd ⟨[u], []⟩ [(x, u)]) (hS : SqL K H a (ns.map V.int)) (hn : ns.length ≤ 63) (hok : HOk P w H s.heap) (only : ∀ b, H b ≠ none → b = a) (out : H a ≠ none → K.lookup a = none)
    (froz : ∀ b u, H b = some u → ∃ o z, H b = some (.frz o z)) :
    codeAny (model P w) callerA (.call (.ref fa) ⟨[.ref a], []⟩) (fun r s' => r = .ok (.ret (.bool true)) ∧ OldK s.heap s'.heap ∧ s'.os = s.os ∧ AllBare s'.gens) s := by
  have vis : ∀ {b : Addr} {o : Obj}, s.heap.get? b = some o → H b = none → (hidT s.heap H).get? b = some o := fun e n => hidT_get e n
  have dict_off : ∀ {b : Addr} {o : Obj} {es : Array DictEntry} {n : Nat}, s.heap.get? b = some o → o.data = .dict es n → H b = none := by
    intro b o es n e d
    cases q : H b with
    | none => rfl
    | some u =>
      have eb := only b (by rw [q]; exact fun z => nomatch z)
      rw [eb, ha] at e
      cases e
      exact absurd d (fun z => nomatch z)
  have nsH : ∀ {b : Addr} {m : Str → Option Value}, s.heap.Ns b m → (hidT s.heap H).Ns b m := by
    rintro b m ⟨o, es, n, e, d, r⟩
    exact ⟨o, es, n, vis e (dict_off e d), d, r⟩
  have kH : K.In (hidT s.heap H) := by
    intro b o e
    refine vis (kx b o e) ?_
    cases q : H b with
    | none => rfl
    | some u =>
      have eb := only b (by rw [q]; exact fun z => nomatch z)
      rw [eb, out (by rw [← eb, q]; exact fun z => nomatch z)] at e
      cases e
  obtain ⟨ml, l1, l2⟩ := lim
  have md : Mod K mg (hidT s.heap H) := ⟨kH, nsH gl, ⟨mb, nsH bl, bb⟩, ⟨ml, nsH l1, l2⟩⟩
  have e0 : Env0 P w K mg (hidT s.heap H) callerA [] s H := ⟨rfl, md, fun b o e => of_hidT e, Nat.le_of_eq (hidT_size _ _), trivial, fun b hb => (nomatch hb), hok, .of_eq gens⟩
  refine codeAny_mono ((F _ kH (nsH gl)).go callerA [] s H ⟨[.ref a], []⟩ [.ref a] [.ref a] (fun v _ => v = .bl true) E0 rm e0 (bt s (.ref a)) (.cons rfl .nil) ⟨a, ns, rfl, hS, hn, fun _ => rfl⟩) ?_
  intro r s' h
  match r, h with
  | .ok (.ret u), ⟨v, H', os, bare, un, hok', rv, q⟩ =>
    have q' : v = .bl true := q
    subst q'
    cases rv
    refine ⟨rfl, OldK.of_keep (fun b o e => ?_), os, bare⟩
    cases y : H b with
    | none => exact un.keep b o e y (fun z => nomatch z) (by simp)
    | some u =>
      obtain ⟨ob, z, fz⟩ := froz b u y
      have f1 := (hok b _ fz).1
      have f2 := (hok' b _ (un.frzs b ob z fz)).1
      rw [e] at f1
      rw [f2, ← f1]
theorem law_callG (kx : K.In s.heap) (gl : s.heap.Ns mainGlobals mg) (bl : s.heap.Ns builtinsNs mb) (bb : ∀ y : Str, y ≠ "__name__" → mb y = bootBuiltins y) (lim : s.heap.NoLimit) (gens : s.gens = #[])
    (ha : s.heap.get? a = some { cls := .type "list", data := .seq vs.toArray }) (hints : IntsAre vs ns) (hn : ns.length ≤ 63) (rm : RoomG k callerA) (F : ∀ base : Heap, K.In base → base.Ns mainGlobals mg → FnG P w K mg base CX0 k fa fd [x] (spLaw K))
    (bt : ∀ (s : Shared) (u : Value), BindsTo s fd ⟨[u], []⟩ [(x, u)]) :
    codeAny (model P w) callerA (.call (.ref fa) ⟨[.ref a], []⟩) (fun r s' => r = .ok (.ret (.bool true)) ∧ OldK s.heap s'.heap ∧ s'.os = s.os ∧ AllBare s'.gens) s := by
  have rv := vals_ints hints
  have sz : (ns.map V.int).length ≤ sizeLine := by rw [List.length_map]; exact Nat.le_trans hn (by decide)
  cases hk : K.lookup a with
  | some o =>
    have e := kx a o hk
    rw [ha] at e
    cases e
    have hsz : vs.toArray.size ≤ sizeLine := by rw [List.size_toArray, ← rv.length]; exact sz
    exact law_from (H := fun _ => none) kx gl bl bb lim gens ha rm F bt (Or.inr ⟨_, vs.toArray, _, hk, rfl, rfl, rfl, hsz, by simpa using rv⟩) hn (fun b u z => nomatch z) (fun b z => absurd rfl z) (fun z => absurd rfl z) (fun b u z => nomatch z)
  | none =>
    obtain ⟨ob, eob⟩ : ∃ ob : Obj, ob = { cls := .type "list", data := .seq vs.toArray } := ⟨_, rfl⟩
    obtain ⟨H, eH⟩ : ∃ H : Hp, H = fun b => if b = a then some (.frz ob (.lst (ns.map V.int))) else none := ⟨_, rfl⟩
    have at_a : H a = some (.frz ob (.lst (ns.map V.int))) := by rw [eH]; exact if_pos rfl
    have off : ∀ b, b ≠ a → H b = none := fun b nb => by rw [eH]; exact if_neg nb
    have onl : ∀ b, H b ≠ none → b = a := fun b z => Decidable.byContradiction fun nb => z (off b nb)
    refine law_from (H := H) kx gl bl bb lim gens ha rm F bt (Or.inl (Or.inr ⟨ob, at_a⟩)) hn ?_ onl (fun _ => hk) ?_
    · intro b u z
      have eb := onl b (by rw [z]; exact fun y => nomatch y)
      subst eb
      rw [at_a] at z
      cases z
      rw [← eob] at ha
      exact ⟨ha, sz, vs, 0, rv, by rw [ha, eob]⟩
    · intro b u z
      have eb := onl b (by rw [z]; exact fun y => nomatch y)
      subst eb
      exact ⟨_, _, at_a⟩
end
/-- the goal that k_head leaves, from the law's promise; what the head says of loose names is handed on -/
theorem walkG {l : PySem.W.OpenLaw} {k : Nat} {q : Program} {loose : List Str} {XP : (Str → Option Value) → Heap → Prop} {YP : World → Heap → Prop} {d : DefRec} {K : Params → PySem.W.Frag} {x : Str}
    (hn : l.most = some 63) (hdf : d.params.defaults = []) (rm : RoomG k callerA) (hY : ∀ (w : World) (h : Heap), YP w h → (K w.params).In h)
    (F : ∀ (w : World) (mg : Str → Option Value) (fa : Addr) (h : Heap), (K w.params).In h → h.Ns mainGlobals mg → XP mg h → mg d.name = some (.ref fa) →
      ∃ fd : FuncData, (∀ (s : Shared) (u : Value), BindsTo s fd ⟨[u], []⟩ [(x, u)]) ∧ ∀ base : Heap, (K w.params).In base → base.Ns mainGlobals mg → FnG l.prog w (K w.params) mg base CX0 k fa fd [x] (spLaw (K w.params))) :
    PySem.W.WalkO q loose XP YP l.row.toRowW d [] (fun f vs => PySem.call f vs) :=
  Att.attach_call hn hdf fun w s₀ s₁ mg mb fa o pm cd doc a vs ns G Y ho hd hcd hmg hobj hints hlen hg => by
    have kx := hY w _ Y
    obtain ⟨fd, bt, hF⟩ := F w mg fa _ kx G.T.g G.X hmg
    exact law_callG kx G.T.g G.T.b G.T.builtins G.T.nolimit hg hobj hints hlen rm hF bt
theorem loose_int {lv : List (Str × PySem.W.WData)} {mg : Str → Option Value} {h : Heap} (L : PySem.W.LooseAre lv mg h) {x : Str} {i : Int} (m : (x, PySem.W.WData.int i) ∈ lv) : ∃ t, mg x = some (.int i t) := by
  obtain ⟨v, e, r⟩ := L.val _ m
  cases r
  exact ⟨_, e⟩
theorem room_caller (k : Nat) (h : k ≤ 40) : RoomG k callerA := ⟨(show Room 40 callerA from ⟨rfl, by decide, by decide⟩).mono h, rfl⟩
end Sx

set_option Elab.async false
set_option linter.all false
set_option maxRecDepth 100000
set_option maxHeartbeats 2000000
namespace Sx
open PySem PySem.Spec L2
open PyProof.Rows hiding St
section
variable {X : Cx} {e a b : Expr} {es : List Expr} {pos : Pos} {ta tb : DT} {tl : DTA}

/-! ### calls of built-ins -/
abbrev DOC := List DV → (DV → Prop) → Prop
def OkC (r : List V → Hp → VK → Prop) (o : DOC) : Prop := ∀ (c : Cw) (M : Addr → Prop) (H : Hp) (vs : List V) (ds : List DV) (n : Nat) (R : DV → Prop) (Q : VK), (∀ a, M a → H a ≠ none) → (∀ a, dr c.ω a → M a) → WR c.ω n H → VReps c.ω M H vs ds → o ds R →
  (∀ v H' z, Ext (dr c.ω) H H' → WR c.ω n H' → VRep c.ω M H' v z → R z → Q v H') → r vs H Q
def dCB (o : DOC) (tl : DTA) : DT := fun env n R => tl env n fun ds n1 => o ds fun z => R z n1
theorem fe_cb {r : List V → Hp → VK → Prop} {o : DOC} (h : PE X e (tCB r (cA tl))) (k : OkC r o) : FE X e (dCB o tl) := FE.of h fun c M σ H env n R S q =>
  goA S q fun vs H1 ds n1 e1 w1 m1 q1 => k c M H1 vs ds n1 (fun z => R z n1) (OutE c M H R) (S.step e1 w1).dom S.dM w1 m1 q1 fun v H' z e2 w2 m2 q2 => ⟨z, n1, e1.trans e2, w2, m2, q2⟩
def oLen : DOC := fun xs R => match xs with
  | [.dat (.tuple ds)] => R (IV ds.length)
  | [.dat (.list ds)] => R (IV ds.length)
  | _ => False
def oAbs : DOC := fun xs R => match xs with
  | [.dat (.int i)] => R (IV (if i < 0 then -i else i))
  | _ => False
def oInt : DOC := fun xs R => match xs with
  | [.dat (.int i)] => R (IV i)
  | _ => False
def oGcd : DOC := fun xs R => match xs with
  | [.dat (.int i), .dat (.int j)] => R (IV ((Nat.gcd i.natAbs j.natAbs : Nat) : Int))
  | _ => False
def oList : DOC := fun xs R => match xs with
  | [.dat (.tuple ds)] => R (LV ds)
  | [.dat (.list ds)] => R (LV ds)
  | _ => False
theorem ok_len (K : PySem.W.Frag) : OkC (rLen K) oLen := fun c M H vs ds n R Q hd hr w m h k => by
  unfold oLen at h
  split at h
  · cases m with
    | cons m1 m2 =>
      cases m2
      cases m1 with
      | tup hm ha hds => exact ⟨_, _, rfl, .inr (SqT.of ha), by rw [hds.length]; exact k _ H (IV _) (Ext.rfl' H) w (Dm.int _) h⟩
  · cases m with
    | cons m1 m2 =>
      cases m2
      cases m1 with
      | lst hm ha hds => exact ⟨_, _, rfl, .inl (SqL.of ha), by rw [hds.length]; exact k _ H (IV _) (Ext.rfl' H) w (Dm.int _) h⟩
  · exact h.elim
theorem ok_abs : OkC (fun xs H Q => ∃ i, xs = [V.int i] ∧ Q (.int (if i < 0 then -i else i)) H) oAbs := fun c M H vs ds n R Q hd hr w m h k => by
  unfold oAbs at h
  split at h
  · cases m with
    | cons m1 m2 =>
      cases m2
      cases m1
      exact ⟨_, rfl, k _ H (IV _) (Ext.rfl' H) w (Dm.int _) h⟩
  · exact h.elim
theorem ok_int : OkC (fun xs H Q => (∃ i, xs = [V.int i] ∧ Q (.int i) H) ∨ ∃ k, xs = [V.bl k] ∧ Q (.int (if k then 1 else 0)) H) oInt := fun c M H vs ds n R Q hd hr w m h k => by
  unfold oInt at h
  split at h
  · cases m with
    | cons m1 m2 =>
      cases m2
      cases m1
      exact .inl ⟨_, rfl, k _ H (IV _) (Ext.rfl' H) w (Dm.int _) h⟩
  · exact h.elim
theorem ok_gcd : OkC rGcd oGcd := fun c M H vs ds n R Q hd hr w m h k => by
  unfold oGcd at h
  split at h
  · cases m with
    | cons m1 m2 =>
      cases m2 with
      | cons m3 m4 =>
        cases m4
        cases m1
        cases m3
        exact ⟨_, _, rfl, k _ H (IV _) (Ext.rfl' H) w (Dm.int _) h⟩
  · exact h.elim
theorem ok_list (K : PySem.W.Frag) : OkC (rListOf K) oList := fun c M H vs ds n R Q hd hr w m h k => by
  unfold oList at h
  split at h
  · cases m with
    | cons m1 m2 =>
      cases m2
      cases m1 with
      | tup hm ha hds => exact ⟨_, _, rfl, .inr (SqT.of ha), fun p hp => k _ _ (LV _) (Ext.new hp) (w.new hp) (Dm.lst (fun z => hd p z hp) upd_same (hds.mono (Ext.new hp))) h⟩
  · cases m with
    | cons m1 m2 =>
      cases m2
      cases m1 with
      | lst hm ha hds => exact ⟨_, _, rfl, .inl (SqL.of ha), fun p hp => k _ _ (LV _) (Ext.new hp) (w.new hp) (Dm.lst (fun z => hd p z hp) upd_same (hds.mono (Ext.new hp))) h⟩
  · exact h.elim

/-! ### repr of lists and tuples -/
mutual
/-- ints of fewer than 1900 bits, no dict, texts of plain signs -/
def tame : PyData → Prop
  | .none | .bool _ => True
  | .int i => i.natAbs < 2 ^ 1900
  | .str x => x.cps.toList.all (fun c => decide (c < 16 ^ 8)) = true
  | .list xs | .tuple xs => tameA xs
  | .dict _ => False
def tameA : List PyData → Prop
  | [] => True
  | x :: xs => tame x ∧ tameA xs
end
mutual
theorem tame_show : ∀ d : PyData, tame d → d.showable = true
  | .none, _ => by simp only [PyData.showable]
  | .bool _, _ => by simp only [PyData.showable]
  | .str _, _ => by simp only [PyData.showable]
  | .int i, h => by
    simp only [PyData.showable, decide_eq_true_eq]
    refine PySem.Spec.log2_small (Nat.lt_of_lt_of_le (show i.natAbs < 2 ^ 1900 from h) (Nat.pow_le_pow_right (by decide) (by decide)))
  | .list xs, h => by
    simp only [PyData.showable]
    exact tame_showA xs h
  | .tuple xs, h => by
    simp only [PyData.showable]
    exact tame_showA xs h
  | .dict _, h => h.elim
theorem tame_showA : ∀ ds : List PyData, tameA ds → PyData.showableAll ds = true
  | [], _ => by simp only [PyData.showableAll]
  | x :: xs, h => by
    simp only [PyData.showableAll, Bool.and_eq_true]
    exact ⟨tame_show x h.1, tame_showA xs h.2⟩
end
mutual
theorem tame_nod : ∀ d : PyData, tame d → d.hasDict = false
  | .none, _ => by simp only [PyData.hasDict]
  | .bool _, _ => by simp only [PyData.hasDict]
  | .str _, _ => by simp only [PyData.hasDict]
  | .int i, h => by simp only [PyData.hasDict]
  | .list xs, h => by
    simp only [PyData.hasDict]
    exact tame_nodA xs h
  | .tuple xs, h => by
    simp only [PyData.hasDict]
    exact tame_nodA xs h
  | .dict _, h => h.elim
theorem tame_nodA : ∀ ds : List PyData, tameA ds → PyData.hasDictAll ds = false
  | [], _ => by simp only [PyData.hasDictAll]
  | x :: xs, h => by
    simp only [PyData.hasDictAll, Bool.or_eq_false_iff]
    exact ⟨tame_nod x h.1, tame_nodA xs h.2⟩
end
theorem shown_big {i : Int} (h : i.natAbs < 2 ^ 1900) : (PyData.shown (.int i)).length ≤ 2000 := by
  simp only [PyData.shown]
  have z : (PySem.Str.ofString (toString i)).length ≤ 1921 := PyProof.Rows.int_text_len_1921 (PySem.Spec.log2_small (Nat.lt_of_lt_of_le h (Nat.pow_le_pow_right (by decide) (by decide))))
  exact Nat.le_trans z (by decide)
mutual
theorem tame_leaf : ∀ d : PyData, tame d → d.leavesShort 2000 = true
  | .none, _ => by simp only [PyData.leavesShort]
  | .bool _, _ => by simp only [PyData.leavesShort]
  | .str x, h => by
    simp only [PyData.leavesShort]
    exact h
  | .int i, h => by
    simp only [PyData.leavesShort, decide_eq_true_eq]
    exact shown_big h
  | .list xs, h => by
    simp only [PyData.leavesShort]
    exact tame_leafA xs h
  | .tuple xs, h => by
    simp only [PyData.leavesShort]
    exact tame_leafA xs h
  | .dict _, h => h.elim
theorem tame_leafA : ∀ ds : List PyData, tameA ds → PyData.leavesShortAll 2000 ds = true
  | [], _ => by simp only [PyData.leavesShortAll]
  | x :: xs, h => by
    simp only [PyData.leavesShortAll, Bool.and_eq_true]
    exact ⟨tame_leaf x h.1, tame_leafA xs h.2⟩
end
theorem tame_len {d : PyData} (h : tame d) (hb : d.bulk ≤ 5000) : d.shown.length ≤ sizeLine := by
  have z := PyData.shown_le_bulk 2000 (by decide) d (tame_leaf d h)
  have e : sizeLine = 16777216 := sizeLine_eq
  rw [e]
  have z2 : (2000 + 2) * d.bulk ≤ 2002 * 5000 := Nat.mul_le_mul (Nat.le_refl _) hb
  omega
/-- what repr is asked of -/
structure Tidy (d : PyData) : Prop where
  tm : tame d
  bk : d.bulk ≤ 5000
  dp : d.depth ≤ 60
def rRep : List V → Hp → VK → Prop := fun vs H Q => ∃ (a : Addr) (d : PyData) (M : Addr → Prop), vs = [.ref a] ∧ Dm M H (.ref a) d ∧ Tidy d ∧ Q (.str d.shown) H
theorem cr_repr {k : Nat} (hr : RoomG k X.A) : CallR X (.builtin "repr") rRep := by
  intro pins s σ H vs us Q I r h
  obtain ⟨a, d, M, rfl, hd, hT, q⟩ := h
  cases r with
  | cons r1 r2 =>
    cases r2
    cases r1
    obtain ⟨as, rd⟩ := Dp.reads I d (.ref a) (.ref a) (Dm.dp X.K hd) rfl
    have un := hr.rm.un
    refine repr_of_reads' rd (tame_show d hT.tm) (fun z => absurd z (by rw [tame_nod d hT.tm]; exact Bool.false_ne_true)) hr.gd ?_ (fun _ _ z => z) (fun h' u tk kp => ?_) (tame_len hT.tm hT.bk)
    · have := hT.dp
      omega
    · exact ⟨.str d.shown, H, I.kept kp, ⟨u, rfl⟩, q⟩
def oRepr : DOC := fun xs R => match xs with
  | [.dat (.list ds)] => Tidy (.list ds) ∧ R (.dat (.str (PyData.shown (.list ds))))
  | [.dat (.tuple ds)] => Tidy (.tuple ds) ∧ R (.dat (.str (PyData.shown (.tuple ds))))
  | _ => False
theorem ok_repr : OkC rRep oRepr := fun c M H vs ds n R Q hd hr w m h k => by
  unfold oRepr at h
  split at h
  · cases m with
    | cons m1 m2 =>
      cases m2
      have m1' : Dm M H _ _ := m1
      cases m1 with
      | lst hm ha hds => exact ⟨_, _, M, rfl, m1', h.1, k _ H (.dat (.str _)) (Ext.rfl' H) w (Dm.str _) h.2⟩
  · cases m with
    | cons m1 m2 =>
      cases m2
      have m1' : Dm M H _ _ := m1
      cases m1 with
      | tup hm ha hds => exact ⟨_, _, M, rfl, m1', h.1, k _ H (.dat (.str _)) (Ext.rfl' H) w (Dm.str _) h.2⟩
  · exact h.elim
/-- == of two texts -/
def oEqS : DO2 := fun x y R => match x, y with
  | .dat (.str s), .dat (.str t) => R (BV (decide (s = t)))
  | _, _ => False
theorem ok_eqS : OkO rEq oEqS := fun c M H x y d f n R Q hd hr w hx hy h k => by
  unfold oEqS at h
  split at h
  · cases hx
    cases hy
    refine ⟨rfl, k _ H (BV _) (Ext.rfl' H) w (Dm.bl _) ?_⟩
    rename_i s t
    have z : decide (V.str s = V.str t) = decide (s = t) := by
      by_cases q : s = t
      · rw [decide_eq_true q, q]; simp
      · rw [decide_eq_false q, decide_eq_false (fun z => q (V.str.inj z))]
    rw [z]
    exact h
  · exact h.elim

/-! ### type(x) == T, type(x) != T: of that type -/
def tyD : PyData → String
  | .none => "NoneType"
  | .bool _ => "bool"
  | .int _ => "int"
  | .str _ => "str"
  | .list _ => "list"
  | .tuple _ => "tuple"
  | .dict _ => "dict"
/-! ### slices of lists, list * int, list + list -/
def cutD (xs : List PyData) (lo hi : Option Int) : List PyData := (xs.drop (HT.sIx xs.length 0 lo)).take (HT.sIx xs.length xs.length hi - HT.sIx xs.length 0 lo)
abbrev DTO := En → Nat → (Option Int → Nat → Prop) → Prop
def cO (t : DTO) : TO := fun σ H Q => ∃ c M env n R, Sta c M σ H env n ∧ t env n R ∧ ∀ b H' n', Ext (dr c.ω) H H' → WR c.ω n' H' → R b n' → Q b H'
abbrev FO (X : Cx) (e : Option Expr) (t : DTO) : Prop := PO X e (cO t)
def dNoPart : DTO := fun _ n R => R none n
def dPart (t : DT) : DTO := fun env n R => t env n fun z n' => match z with
  | .dat (.int i) => R (some i) n'
  | _ => False
theorem FO.of {e : Option Expr} {te : TO} {t : DTO} (h : PO X e te) (q : ∀ c M σ H env n R, Sta c M σ H env n → t env n R → te σ H (fun b H' => ∃ n', Ext (dr c.ω) H H' ∧ WR c.ω n' H' ∧ R b n')) : FO X e t :=
  ⟨fun pins s σ H Q I ⟨c, M, env, n, R, S, ht, k⟩ => thn (h.run pins s σ H _ I (q c M σ H env n R S ht)) fun b _ ⟨o, H', I', ip, n', e, w, z⟩ => ⟨o, H', I', ip, k o H' n' e w z⟩⟩
theorem fo_none : FO X none dNoPart := FO.of po_none fun c M σ H env n R S h => ⟨n, Ext.rfl' H, S.wr, h⟩
theorem fo_some (h : FE X e ta) : FO X (some e) (dPart ta) := FO.of (po_some h) fun c M σ H env n R S q =>
  goE S q fun x H1 d1 n1 e1 w1 m1 q1 => by
    unfold dPart at q
    split at q1
    · cases m1
      exact ⟨_, rfl, n1, e1, w1, q1⟩
    · exact q1.elim
def dSliceL (t : DT) (lo hi : DTO) : DT := fun env n R => t env n fun d n1 => lo env n1 fun l n2 => hi env n2 fun u n3 => match d with
  | .dat (.list ds) => R (LV (cutD ds l u)) n3
  | _ => False
theorem DmA.cut {M : Addr → Prop} {H : Hp} {xs : List V} {ds : List PyData} (h : DmA M H xs ds) (l u : Option Int) : DmA M H (cutV xs l u) (cutD ds l u) := by
  unfold cutV cutD
  rw [h.length]
  exact (h.drop _).take _
variable {lo hi : Option Expr} {p2 : Pos} {dl du : DTO}
theorem fe_sliceL (he : FE X e ta) (hl : FO X lo dl) (hu : FO X hi du) : FE X (.Subscript e (.Slice lo hi none p2) pos) (dSliceL ta dl du) := FE.of (pe_slice sl_list he hl hu) fun c M σ H env n R S q =>
  goE S q fun x H1 d1 n1 e1 w1 m1 q1 => ⟨c, M, env, n1, _, S.step e1 w1, q1, fun l H2 n2 e2 w2 q2 => ⟨c, M, env, n2, _, S.step (e1.trans e2) w2, q2, fun u H3 n3 e3 w3 q3 => by
    split at q3
    · have m3 : Dm M H3 x _ := Dm.mono ((e2.trans e3).weak S.dM) m1
      cases m3 with
      | lst hm ha hd =>
        have S3 := S.step ((e1.trans e2).trans e3) w3
        exact ⟨_, _, rfl, SqL.of ha, fun p hp => ⟨LV _, n3, ((e1.trans e2).trans e3).trans (Ext.new hp), w3.new hp, Dm.lst (fun z => S3.dom p z hp) upd_same ((hd.cut l u).mono (Ext.new hp)), q3⟩⟩
    · exact q3.elim⟩⟩
def oRepL : DO2 := fun x y R => match x, y with
  | .dat (.list ds), .dat (.int k) => 0 ≤ k ∧ k ≤ 1000 ∧ ds.length ≤ 1000 ∧ R (LV (List.replicate k.toNat ds).flatten)
  | _, _ => False
theorem ok_repL : OkO L2.rRep oRepL := fun c M H x y d f n R Q hd hr w hx hy h k => by
  unfold oRepL at h
  split at h
  · cases hx with
    | lst hm ha hds =>
      cases hy
      obtain ⟨h1, h2, h3, h4⟩ := h
      rename_i ds j _ _
      have sz : sizeLine = 16777216 := sizeLine_eq
      have bd : ds.length * j.toNat ≤ 1000 * 1000 := Nat.mul_le_mul h3 (by omega)
      exact ⟨_, _, _, rfl, rfl, ha, by omega, by omega, by rw [hds.length]; omega, fun p hp => k _ _ (LV _) (Ext.new hp) (w.new hp) (Dm.lst (fun z => hd p z hp) upd_same ((hds.rep _).mono (Ext.new hp))) h4⟩
  · exact h.elim
def oCat : DO2 := fun x y R => match x, y with
  | .dat (.list ds), .dat (.list fs) => ds.length ≤ 100000 ∧ fs.length ≤ 100000 ∧ R (LV (ds ++ fs))
  | _, _ => False
theorem ok_cat : OkO rCat oCat := fun c M H x y d f n R Q hd hr w hx hy h k => by
  unfold oCat at h
  split at h
  · cases hx with
    | lst hm ha hds =>
      cases hy with
      | lst hm2 ha2 hds2 =>
        obtain ⟨h1, h2, h3⟩ := h
        have sz : sizeLine = 16777216 := sizeLine_eq
        exact ⟨_, _, _, _, rfl, rfl, ha, ha2, by rw [hds.length, hds2.length]; omega, fun p hp => k _ _ (LV _) (Ext.new hp) (w.new hp) (Dm.lst (fun z => hd p z hp) upd_same ((hds.append hds2).mono (Ext.new hp))) h3⟩
  · exact h.elim

/-! ### calls by keywords alone -/
abbrev FK (X : Cx) (kws : List Keyword) (t : DTA) : Prop := PK X kws (cA t)
theorem FK.of {kws : List Keyword} {ta : TA} {t : DTA} (h : PK X kws ta) (q : ∀ c M σ H env n R, Sta c M σ H env n → t env n R → ta σ H (OutA c M H R)) : FK X kws t :=
  ⟨fun pos pins s σ H Q I ⟨c, M, env, n, R, S, ht, k⟩ => thn (h.run pos pins s σ H _ I (q c M σ H env n R S ht)) fun _ _ ⟨vs, H', I', r, d, n', e, w, m, z⟩ => ⟨vs, H', I', r, k vs H' d n' e w m z⟩⟩
variable {kws : List Keyword} {nm : Option Str} {kpos : Pos}
theorem fk_nil : FK X [] dNil := FK.of pk_nil fun c M σ H env n R S h => ⟨[], n, Ext.rfl' H, S.wr, .nil, h⟩
theorem fk_cons (ha : FE X e ta) (hr : FK X kws tl) : FK X (⟨nm, e, kpos⟩ :: kws) (dCons ta tl) := FK.of (pk_cons ha hr) fun c M σ H env n R S h =>
  goE S h fun x H1 d1 n1 e1 w1 m1 q1 => goA (S.step e1 w1) q1 fun xs H2 d2 n2 e2 w2 m2 q2 => ⟨d1 :: d2, n2, e1.trans e2, w2, .cons (m1.mono (e2.weak S.dM)) m2, q2⟩
/-- the parameters' order -/
structure Perm' (g : {α : Type} → List α → List α) : Prop where
  rel : ∀ {α β : Type} {R : α → β → Prop} {l : List α} {m : List β}, Paired R l m → Paired R (g l) (g m)
def pId {α : Type} (l : List α) : List α := l
def pRev {α : Type} : List α → List α
  | [a, b] => [b, a]
  | l => l
theorem pid_ok : Perm' @pId := ⟨fun h => h⟩
theorem prev_ok : Perm' @pRev := ⟨fun h => by
  cases h with
  | nil => exact .nil
  | cons h1 t =>
    cases t with
    | nil => exact .cons h1 .nil
    | cons h2 t =>
      cases t with
      | nil => exact .cons h2 (.cons h1 .nil)
      | cons h3 t => exact .cons h1 (.cons h2 (.cons h3 t))⟩
variable {k : Nat} {f : Addr} {fd : FuncData} {ps ks : List Str} {S : DSp} {x : Str} {p : Pos}
def dCallK (S : DSp) (g : {α : Type} → List α → List α) (tl : DTA) : DT := fun env n R => tl env n fun ds n1 => S (g ds) n1 R
theorem fe_callK {g : {α : Type} → List α → List α} (F : FnG X.prog X.w X.K X.mg X.base CX0 k f fd ps (cSp S)) (hr : RoomG k X.A) (hg : Gl X x) (hm : X.mg x = some (.ref f)) (hk : PySem.W.keepIn X.K (.ref f) = true)
    (hp : Perm' g) (hb : ∀ (s : Shared) (ws : List Value), (g ws).length = ps.length → BindsTo s fd ⟨[], ks.zip ws⟩ (ps.zip (g ws))) (ha : FK X kws tl) (hdb : (x == ("__debug__" : Str)) = false := by decide)
    (hall : (backToKw pos (keywordEach kws X.env)).all (·.1.isSome) = true := by rfl) (hks : (backToKw pos (keywordEach kws X.env)).filterMap (·.1) = ks := by rfl)
    (hpl : ((backTo pos (starEach [] X.env)).any (·.1) || (backToKw pos (keywordEach kws X.env)).any (·.1.isNone)) = false := by rfl) : FE X (.Call (.Name x p) [] kws pos) (dCallK S @g tl) :=
  ⟨fun pins s σ H Q I ⟨c, M, env, n, R, St, ht, kk⟩ => by
    refine wpAny_Call_Name_kw (ld_glob I hg hm (PySem.W.callWith_KW0 (h₀ := X.base) I.ok.mod.kin hk hall (thn (ha.run pos pins s σ H (OutA c M H fun ds n1 => S (g ds) n1 R) I (goA St ht fun vs H1 ds n1 e1 w1 m1 q1 => ⟨ds, n1, e1, w1, m1, q1⟩)) fun ws s1 hq => ?_) hpl) hdb)
    obtain ⟨vs, H1, I1, r, ds, n1, e1, w1, m1, q1⟩ := hq
    refine ⟨I1.kIn, ?_⟩
    rw [hks]
    have hsp : cSp S (g vs) H1 Q E0 := ⟨c.ω, M, g ds, n1, R, St.dM, (St.step e1 w1).dom, w1, hp.rel m1, q1, fun v H' d n' e2 w2 m2 q2 => kk v H' d n' (e1.trans e2) w2 m2 q2⟩
    have hl : (g ws).length = ps.length := by rw [← (hp.rel r : Vals (g vs) (g ws)).length]; exact F.len _ _ _ _ hsp
    refine wpAny_call (codeAny_mono (F.go X.A X.stack s1 H1 ⟨[], ks.zip ws⟩ (g ws) (g vs) Q E0 hr I1.env0 (hb s1 ws hl) (hp.rel r) hsp) ?_)
    intro r s' hq
    match r, hq with
    | .ok (.ret u), hq => exact I1.after hq⟩
end
end Sx

set_option Elab.async false
set_option linter.all false
set_option maxRecDepth 100000
set_option maxHeartbeats 2000000
namespace Sx
open PySem PySem.Spec L2
open PyProof.Rows hiding St
/-! ### the types, compared -/
theorem slot_ne : Slot "type" (cmpInfo .NotEq).2.1 "object.__ne__" :=
  Slot.of (owner := "object") (n := "__ne__") (by rw [typeLookup_type]; rw [builtinLookup_eq_fast]; kernel_rfl) (by decide +kernel) (by decide +kernel) (by decide +kernel)
    (by first | exact Or.inl (by decide +kernel) | exact Or.inr (by decide +kernel)) (by rw [isSubtype_type]; kernel_rfl)
section
variable {prog : Program} {w : World} {A : Around} {E : Value → Shared → Prop} {s : Shared} {Q : Value → Shared → Prop}
theorem slot_eqn : Slot "type" (Str.ofString "__eq__") "object.__eq__" := by
  have h := PySem.TypeEq.slot_type_eq
  have e : (cmpInfo .Eq).2.1 = Str.ofString "__eq__" := by first | rfl | decide +kernel
  rw [e] at h
  exact h
theorem ne_type_same {T : String} (hT : ∀ s' : Shared, s'.TypeIs (.type T) "type") (hu : A.units + 4 < cLine) (h : Q (.bool false) s) : wpAny (model prog w) A (compareOp .NotEq (.type T) (.type T)) Q E s := by
  show wpAny _ A (richCompare .NotEq _ _) Q E s
  refine wpAny_richCompare_same (T := "type") (hT s) (hT s) slot_ne (wpAny_call (codeAny_call_builtin slot_ne.plain F.entry_object_ne (slot_ne.check _ _ _ _ _ _ _ _ (hT s) (F.args_object_ne_2 _ _) ?_)))
  unfold Builtin.«object.__ne__»
  repeat (first
    | with_reducible refine wpAny_cRoomFor (by show A.units + 1 < cLine; omega) ?_
    | (refine wpAny_bind (m := callSpecialIfBound? (.type T) (Str.ofString "__eq__") [.type T]) (wpAny_callSpecialIfBound?_slot (hT s) slot_eqn
        (call_gives slot_eqn (hT s) F.entry_object_eq (F.args_object_eq_2 _ _) (PySem.TypeEq.object_eq_same rfl (by simp)) ?_)))
    | wp_step)
  exact wpAny_bind (wpAny_truthy_bool (wpAny_pure ⟨(fun e => nomatch e), h⟩))
end
/-- a type that may be compared -/
def metaT (T : String) : Prop := ∀ s' : Shared, s'.TypeIs (.type T) "type"
theorem mInt : metaT "int" := PySem.TypeEq.meta_int
theorem mTuple : metaT "tuple" := PySem.TypeEq.meta_tuple
section
variable {X : Cx} {e a : Expr} {pos p1 p2 p3 : Pos} {ta : DT} {T : String}
theorem op_eqTy (hT : metaT T) : OpR X (compareOp .Eq) (fun x y H Q => x = .ty T ∧ y = .ty T ∧ Q (.bl true) H) := by
  intro pins s σ H x y v u Q I rx ry h
  obtain ⟨rfl, rfl, q⟩ := h
  cases rx
  cases ry
  exact PySem.TypeEq.eq_type_same hT ⟨.bl true, H, I, rfl, q⟩
theorem op_neTy {k : Nat} (hr : RoomG k X.A) (hT : metaT T) : OpR X (compareOp .NotEq) (fun x y H Q => x = .ty T ∧ y = .ty T ∧ Q (.bl false) H) := by
  intro pins s σ H x y v u Q I rx ry h
  obtain ⟨rfl, rfl, q⟩ := h
  cases rx
  cases ry
  have := hr.rm.un
  exact ne_type_same hT (by omega) ⟨.bl false, H, I, rfl, q⟩
theorem ty_of {M : Addr → Prop} {H : Hp} {v : V} {d : PyData} (h : Dm M H v d) : zTyV v H = some (tyD d) := by
  cases h with
  | non => rfl
  | bl b => rfl
  | int i => rfl
  | str x => rfl
  | lst hm ha hd => simp only [zTyV, ha, tyD]
  | tup hm ha hd => simp only [zTyV, ha, tyD]
/-- of the type T: what is told then -/
def dTy (T : String) (k : Bool) (ta : DT) : DT := fun env n R => ta env n fun d n1 => match d with
  | .dat d => tyD d = T ∧ R (BV k) n1
  | _ => False
theorem ty_go {c : Cw} {M : Addr → Prop} {σ : L2.St} {H : Hp} {env : En} {n : Nat} {R : DV → Nat → Prop} {k : Bool} {Q : VK} (St : Sta c M σ H env n) (h : dTy T k ta env n R)
    (kk : ∀ H' n', Ext (dr c.ω) H H' → WR c.ω n' H' → R (BV k) n' → Q (.bl k) H') : tOp (fun x y H Q => x = .ty T ∧ y = .ty T ∧ Q (.bl k) H) (tThenZ (cE ta) kTyp) (tC (.ty T)) σ H Q :=
  goE St h fun v H1 d n1 e1 w1 m1 q1 => by
    cases d with
    | draws => exact q1.elim
    | own _ => exact q1.elim
    | dat d => exact ⟨_, ty_of m1, by rw [q1.1], rfl, kk H1 n1 e1 w1 q1.2⟩
theorem fe_tyEq (hT : metaT T) (h : PE X e (tThenZ (cE ta) kTyp)) (ht : PE X a (tC (.ty T))) (hm : behindInMarks .Eq a = false) : FE X (.Compare e [.Eq] [a] pos) (dTy T true ta) :=
  FE.of (pe_cmpR (op_eqTy hT) h ht hm) fun c M σ H env n R St q => ty_go St q fun H' n' e w r => ⟨BV true, n', e, w, Dm.bl _, r⟩
theorem ft_tyNe {k : Nat} (hr : RoomG k X.A) (hT : metaT T) (h : PE X e (tThenZ (cE ta) kTyp)) (ht : PE X a (tC (.ty T))) (hm : behindInMarks .NotEq a = false) : FT X (.Compare e [.NotEq] [a] pos) (dTest (dTy T false ta)) :=
  FT.of (pt_cmpR (op_neTy hr hT) h ht hm) fun c M σ H env n R St q =>
    ty_go (R := fun z n' => match z with | .dat (.bool k) => R k n' | _ => False) St q fun H' n' e w r => ⟨false, rfl, n', e, w, r⟩
end
end Sx

set_option Elab.async false
set_option linter.all false
set_option maxRecDepth 100000
set_option maxHeartbeats 2000000
namespace Sx
open PySem PySem.Spec L2
open PyProof.Rows hiding St
section
variable {X : Cx} {e a b c d : Expr} {es : List Expr} {pos : Pos} {ta tb tc td : DT} {tl : DTA}
/-- a module's int -/
theorem fe_cint {x : Str} {i : Int} (hg : Gl X x) (hm : ∃ t, X.mg x = some (.int i t)) (hd : (x == ("__debug__" : Str)) = false := by decide) : FE X (.Name x pos) (dC (.int i)) := by
  obtain ⟨t, ht⟩ := hm
  exact fe_con (v := .int i) (pe_glob hg ht ⟨t, rfl⟩ hd) fun _ _ => .int i
/-! ### chains of three comparisons -/
def tChain3 (r r' r'' : R2) (ta tb tc td : TE) : TE := fun σ H Q => ta σ H fun x H1 => tb σ H1 fun y H2 => r x y H2 fun z H3 => ∃ k, z = .bl k ∧
  (if k = true then tc σ H3 fun u H4 => r' y u H4 fun z' H5 => ∃ k', z' = .bl k' ∧ (if k' = true then td σ H5 fun w H6 => r'' u w H6 Q else Q (.bl false) H5) else Q (.bl false) H3)
theorem pe_chain3 {o o' o'' : CmpOp} {r r' r'' : R2} {sa sb sc sd : TE} (h1 : OpR X (compareOp o) r) (h2 : OpR X (compareOp o') r') (h3 : OpR X (compareOp o'') r'') (ha : PE X a sa) (hb : PE X b sb) (hc : PE X c sc) (hd : PE X d sd)
    (hm : lastMarks [o, o', o''] [b, c, d] = false := by with_unfolding_all rfl) : PE X (.Compare a [o, o', o''] [b, c, d] pos) (tChain3 r r' r'' sa sb sc sd) := by
  refine ⟨fun pins s σ H Q I h => Compare_chain (thn (ha.run pins s σ H _ I h) fun v s1 ⟨x, H1, I1, r1, q1⟩ => chain_link (thn (hb.run pins s1 σ H1 _ I1 q1) fun u s2 ⟨y, H2, I2, r2, q2⟩ =>
    thn (h1 pins s2 σ H2 x y v u _ I2 r1 r2 q2) fun d0 s3 ⟨z, H3, I3, r3, k, e, q3⟩ => ?_)) hm⟩
  subst e
  cases r3
  refine wpAny_truthy_bool ?_
  cases k with
  | false => exact ite_ff ⟨.bl false, H3, I3, rfl, q3⟩
  | true =>
    refine ite_tt (chain_link (thn (hc.run pins s3 σ H3 _ I3 q3) fun w s4 ⟨z', H4, I4, r4, q4⟩ => thn (h2 pins s4 σ H4 y z' u w _ I4 r2 r4 q4) fun d1 s5 ⟨z2, H5, I5, r5, k2, e2, q5⟩ => ?_))
    subst e2
    cases r5
    refine wpAny_truthy_bool ?_
    cases k2 with
    | false => exact ite_ff ⟨.bl false, H5, I5, rfl, q5⟩
    | true => exact ite_tt (chain_last (thn (hd.run pins s5 σ H5 _ I5 q5) fun w2 s6 ⟨z3, H6, I6, r6, q6⟩ => h3 pins s6 σ H6 z' z3 w w2 Q I6 r4 r6 q6))
def dChain3 (o o' o'' : DO2) (ta tb tc td : DT) : DT := fun env n R => ta env n fun x n1 => tb env n1 fun y n2 => o x y fun z => match z with
  | .dat (.bool k) => if k = true then tc env n2 fun u n3 => o' y u fun z' => match z' with
      | .dat (.bool k') => if k' = true then td env n3 fun w n4 => o'' u w fun q => R q n4 else R (BV false) n3
      | _ => False
    else R (BV false) n2
  | _ => False
theorem fe_chain3 {o o' o'' : CmpOp} {r r' r'' : R2} {p p' p'' : DO2} (h1 : OpR X (compareOp o) r) (h2 : OpR X (compareOp o') r') (h3 : OpR X (compareOp o'') r'') (k1 : OkO r p) (k2 : OkO r' p') (k3 : OkO r'' p'')
    (ha : FE X a ta) (hb : FE X b tb) (hc : FE X c tc) (hd : FE X d td) (hm : lastMarks [o, o', o''] [b, c, d] = false := by with_unfolding_all rfl) : FE X (.Compare a [o, o', o''] [b, c, d] pos) (dChain3 p p' p'' ta tb tc td) :=
  FE.of (pe_chain3 h1 h2 h3 ha hb hc hd hm) fun cw M σ H env n R S h =>
  goE S h fun x H1 d1 n1 e1 w1 m1 q1 => goE (S.step e1 w1) q1 fun y H2 d2 n2 e2 w2 m2 q2 =>
    k1 cw M H2 x y d1 d2 n2 _ _ (S.step (e1.trans e2) w2).dom S.dM w2 (m1.mono (e2.weak S.dM)) m2 q2 fun v H' z e3 w3 m3 q3 => by
      split at q3
      · cases m3
        refine ⟨_, rfl, ?_⟩
        split at q3
        · rename_i hk
          rw [if_pos hk]
          exact goE (S.step ((e1.trans e2).trans e3) w3) q3 fun u H4 d4 n4 e4 w4 m4 q4 =>
            k2 cw M H4 y u d2 d4 n4 _ _ (S.step (((e1.trans e2).trans e3).trans e4) w4).dom S.dM w4 (m2.mono ((e3.trans e4).weak S.dM)) m4 q4 fun v5 H5 z5 e5 w5 m5 q5 => by
              split at q5
              · cases m5
                refine ⟨_, rfl, ?_⟩
                split at q5
                · rename_i hk5
                  rw [if_pos hk5]
                  exact goE (S.step ((((e1.trans e2).trans e3).trans e4).trans e5) w5) q5 fun w H6 d6 n6 e6 w6 m6 q6 =>
                    k3 cw M H6 u w d4 d6 n6 (fun q => R q n6) (OutE cw M H R) (S.step (((((e1.trans e2).trans e3).trans e4).trans e5).trans e6) w6).dom S.dM w6 (m4.mono ((e5.trans e6).weak S.dM)) m6 q6 fun v7 H7 z7 e7 w7 m7 q7 =>
                      ⟨z7, n6, (((((e1.trans e2).trans e3).trans e4).trans e5).trans e6).trans e7, w7, m7, q7⟩
                · rename_i hk5
                  rw [if_neg hk5]
                  exact ⟨BV false, n4, (((e1.trans e2).trans e3).trans e4).trans e5, w5, Dm.bl _, q5⟩
              · exact q5.elim
        · rename_i hk
          rw [if_neg hk]
          exact ⟨BV false, n2, (e1.trans e2).trans e3, w3, Dm.bl _, q3⟩
      · exact q3.elim
/-! ### three names at once -/
def dPar3 (i j l : Nat) (tl : DTA) : DTS := fun F env n => tl env n fun xs n1 => match xs with
  | [x, y, z] => F.nx (((env.set i (some x)).set j (some y)).set l (some z)) n1
  | _ => False
theorem fs_par3 {i j l : Nat} {st : Stmt} (h : PS X st (tPar3 i j l (cA tl))) : FS X st (dPar3 i j l tl) := FS.of h fun c M σ H env n F E S q k =>
  goA S q fun vs H1 xs n1 e1 w1 m1 q1 => by
    cases m1 with
    | nil => exact q1.elim
    | cons h1 t1 =>
      cases t1 with
      | nil => exact q1.elim
      | cons h2 t2 =>
        cases t2 with
        | nil => exact q1.elim
        | cons h3 t3 =>
          cases t3 with
          | cons _ _ => exact q1.elim
          | nil => exact ⟨_, _, _, rfl, k.nx M _ H1 _ n1 ((((S.step e1 w1).set i h1).set j h2).set l h3) q1⟩
end
end Sx

set_option Elab.async false
set_option linter.all false
set_option maxRecDepth 100000
set_option maxHeartbeats 2000000
namespace Sx
open PySem PySem.Spec L2
open PyProof.Rows hiding St
theorem DmA.ne_nil {M : Addr → Prop} {H : Hp} {vs : List V} {ds : List PyData} (h : DmA M H vs ds) (n : ds ≠ []) : vs ≠ [] := by
  cases h with
  | nil => exact absurd rfl n
  | cons _ _ => simp
section
variable {X : Cx} {e a b : Expr} {pos p2 : Pos} {ta tb : DT} {lo hi : Option Expr} {dl du : DTO}
/-! ### tuples: a proper slice, the sum of two -/
def dSliceT (t : DT) (lo hi : DTO) : DT := fun env n R => t env n fun d n1 => lo env n1 fun l n2 => hi env n2 fun u n3 => match d with
  | .dat (.tuple ds) => ¬ (HT.sIx ds.length 0 l = 0 ∧ HT.sIx ds.length ds.length u = ds.length) ∧ R (TV (cutD ds l u)) n3
  | _ => False
theorem fe_sliceT (he : FE X e ta) (hl : FO X lo dl) (hu : FO X hi du) : FE X (.Subscript e (.Slice lo hi none p2) pos) (dSliceT ta dl du) := FE.of (pe_slice sl_tup he hl hu) fun c M σ H env n R S q =>
  goE S q fun x H1 d1 n1 e1 w1 m1 q1 => ⟨c, M, env, n1, _, S.step e1 w1, q1, fun l H2 n2 e2 w2 q2 => ⟨c, M, env, n2, _, S.step (e1.trans e2) w2, q2, fun u H3 n3 e3 w3 q3 => by
    split at q3
    · have m3 : Dm M H3 x _ := Dm.mono ((e2.trans e3).weak S.dM) m1
      cases m3 with
      | tup hm ha hd =>
        have S3 := S.step ((e1.trans e2).trans e3) w3
        exact ⟨_, _, rfl, SqT.of ha, by rw [hd.length]; exact q3.1, fun p hp => ⟨TV _, n3, ((e1.trans e2).trans e3).trans (Ext.new hp), w3.new hp, Dm.tup (fun z => S3.dom p z hp) upd_same ((hd.cut l u).mono (Ext.new hp)), q3.2⟩⟩
    · exact q3.elim⟩⟩
def oCatT : DO2 := fun x y R => match x, y with
  | .dat (.tuple ds), .dat (.tuple fs) => (ds ≠ [] ∧ fs ≠ []) ∧ ds.length ≤ 100000 ∧ fs.length ≤ 100000 ∧ R (TV (ds ++ fs))
  | _, _ => False
theorem ok_catT (K : PySem.W.Frag) : OkO (rCatT K) oCatT := fun c M H x y d f n R Q hd hr w hx hy h k => by
  unfold oCatT at h
  split at h
  · cases hx with
    | tup hm ha hds =>
      cases hy with
      | tup hm2 ha2 hds2 =>
        obtain ⟨⟨h0, h00⟩, h1, h2, h3⟩ := h
        have sz : sizeLine = 16777216 := sizeLine_eq
        exact ⟨_, _, _, _, rfl, rfl, SqT.of ha, SqT.of ha2, hds.ne_nil h0, by rw [hds.length, hds2.length]; omega, fun z => absurd z (hds2.ne_nil h00), fun _ p hp => k _ _ (TV _) (Ext.new hp) (w.new hp) (Dm.tup (fun z => hd p z hp) upd_same ((hds.append hds2).mono (Ext.new hp))) h3⟩
  · exact h.elim
/-! ### is None -/
def isNone : PyData → Bool
  | .none => true
  | _ => false
def oIsN : DO2 := fun x y R => match x, y with
  | .dat d, .dat .none => R (BV (isNone d))
  | _, _ => False
def oNotN : DO2 := fun x y R => match x, y with
  | .dat d, .dat .none => R (BV (!isNone d))
  | _, _ => False
theorem none_iff {M : Addr → Prop} {H : Hp} {x : V} {d : PyData} (h : Dm M H x d) : decide (x = .non) = isNone d := by
  cases h <;> simp [isNone]
theorem ok_isN : OkO (fun x y H Q => y = .non ∧ Q (.bl (decide (x = .non))) H) oIsN := fun c M H x y d f n R Q hd hr w hx hy h k => by
  unfold oIsN at h
  split at h
  · cases hy
    refine ⟨rfl, k _ H (BV _) (Ext.rfl' H) w (Dm.bl _) ?_⟩
    rw [none_iff hx]
    exact h
  · exact h.elim
theorem ok_notN : OkO (fun x y H Q => y = .non ∧ Q (.bl (!decide (x = .non))) H) oNotN := fun c M H x y d f n R Q hd hr w hx hy h k => by
  unfold oNotN at h
  split at h
  · cases hy
    refine ⟨rfl, k _ H (BV _) (Ext.rfl' H) w (Dm.bl _) ?_⟩
    rw [none_iff hx]
    exact h
  · exact h.elim
end
end Sx

set_option Elab.async false
set_option linter.all false
set_option maxRecDepth 100000
set_option maxHeartbeats 2000000
/-! Sx14: list comprehensions over data -/
namespace Sx
open PySem L2
/-- a new list, kept apart -/
theorem Sta.fresh {c : Cw} {M : Addr → Prop} {σ : St} {H : Hp} {env : En} {n : Nat} (S : Sta c M σ H env n) {p : Addr} {o : HO} (hp : H p = none) : Sta c (fun a => M a ∨ a = p) σ (upd H p o) env n := by
  have ep : Ext (dr c.ω) H (upd H p o) := Ext.new hp
  have epM : Ext M H (upd H p o) := Ext.new hp
  refine ⟨fun a ha => .inl (S.m0 a ha), S.d0, fun a ha => ?_, S.wr.new hp, S.keep.trans ep, S.len, fun q hq => ?_, fun q hq => ⟨fun z => z.elim (S.gr q hq).1 fun y => ne_of_none (S.gr q hq).2 hp y, by rw [upd_ne (ne_of_none (S.gr q hq).2 hp)]; exact (S.gr q hq).2⟩, fun j x ej => ?_, S.own⟩
  · rcases ha with ha | rfl
    · intro y
      by_cases ea : a = p
      · subst ea; exact S.dom _ ha hp
      · rw [upd_ne ea] at y; exact S.dom a ha y
    · rw [upd_same]; simp
  · exact ((S.gh q hq).more hp).mono (Ext.new hp)
  · obtain ⟨u, h1, h2⟩ := S.slot j x ej
    exact ⟨u, h1, (h2.growM hp).step (fun a ha => .inl (S.dM a ha)) S.d0 ep⟩
/-- a write to what is kept apart and in no slot -/
theorem Sta.wrD {c : Cw} {M : Addr → Prop} {σ : St} {H : Hp} {env : En} {n : Nat} (S : Sta c M σ H env n) {p : Addr} {o : HO} (hm : M p) (nd : ¬ dr c.ω p) (h0 : c.H0 p = none)
    (hs : ∀ (j : Nat) (xs : List PyData), env[j]? = some (some (DV.own xs)) → σ[j]? ≠ some (some (V.ref p))) : Sta c M σ (upd H p o) env n := by
  have em : Ext M H (upd H p o) := fun z o' g nz => by
    rw [upd_ne fun w => nz (by subst w; exact hm)]; exact g
  refine ⟨S.m0, S.d0, fun z hz => ?_, S.wr.wr nd, fun z o' g nz => ?_, S.len, fun p hp => (S.gh p hp).mono em, fun p hp => ⟨(S.gr p hp).1, em _ _ (S.gr p hp).2 (S.gr p hp).1⟩, fun j x ej => ?_, S.own⟩
  · by_cases za : z = p
    · subst za; rw [upd_same]; simp
    · rw [upd_ne za]; exact S.dom z hz
  · have : z ≠ p := fun w => by subst w; rw [h0] at g; cases g
    rw [upd_ne this]
    exact S.keep z o' g nz
  · obtain ⟨u, h1, h2⟩ := S.slot j x ej
    refine ⟨u, h1, ?_⟩
    cases x with
    | dat d => exact Dm.mono em h2
    | draws => exact h2
    | own ds2 =>
      obtain ⟨a2, xs2, rfl, g2, g3, g4, g5, g6⟩ := h2
      have ne : a2 ≠ p := fun w => hs j _ ej (by rw [h1, w])
      exact ⟨a2, xs2, rfl, g2, g3, g4, by rw [upd_ne ne]; exact g5, g6.mono em⟩
def dLcStep (I : List PyData → Nat → Prop) (J : List PyData → Nat → Prop) (tt : DTB) (tb : DT) (env : En) : Prop := ∀ acc m, I acc m → tt env m fun b m1 => if b = true then tb env m1 fun y m2 => match y with
  | .dat y => J (acc ++ [y]) m2
  | _ => False
  else J acc m1
def dYes : DTB := fun _ n R => R true n
/-- [tb for i in ta if tt], ta a list -/
def dLcL (i : Nat) (ta : DT) (tt : DTB) (tb : DT) : DT := fun env n R => ta env n fun d n1 => match d with
  | .dat (.list ds) => ds.length ≤ 1000 ∧ ∃ I : Nat → List PyData → Nat → Prop, I 0 [] n1 ∧
      (∀ k d, ds[k]? = some d → dLcStep (I k) (I (k + 1)) tt tb (env.set i (some (.dat d)))) ∧ (∀ acc m, I ds.length acc m → R (LV acc) m)
  | _ => False
/-- [tb for i in range(ta) if tt] -/
def dLcR (i : Nat) (ta : DT) (tt : DTB) (tb : DT) : DT := fun env n R => ta env n fun d n1 => match d with
  | .dat (.int j) => j ≤ 1000 ∧ -(2 ^ 62) ≤ j ∧ ∃ I : Nat → List PyData → Nat → Prop, I 0 [] n1 ∧
      (∀ k : Nat, k < j.toNat → dLcStep (I k) (I (k + 1)) tt tb (env.set i (some (IV (k : Int))))) ∧ (∀ acc m, I j.toNat acc m → R (LV acc) m)
  | _ => False
section
variable {X : Cx} {e : Expr} {ta tb : DT} {tt : DTB}
/-- what a piece asks, told over data -/
def RdE (te : TE) (t : DT) : Prop := ∀ (c : Cw) (M : Addr → Prop) (σ : St) (H : Hp) (env : En) (n : Nat) (R : DV → Nat → Prop), Sta c M σ H env n → t env n R → te σ H (OutE c M H R)
/-- the state of a comprehension -/
def LcP (c : Cw) (M : Addr → Prop) (σ : St) (env : En) (D : Addr) (H1 : Hp) (I : Nat → List PyData → Nat → Prop) (k : Nat) (H : Hp) : Prop :=
  ∃ acc accv m, H D = some (.lst accv) ∧ DmA (fun a => M a ∨ a = D) H accv acc ∧ acc.length ≤ k ∧ I k acc m ∧ Sta c (fun a => M a ∨ a = D) σ H env m ∧ Ext (fun a => dr c.ω a ∨ a = D) H1 H
theorem lc_step {c : Cw} {M : Addr → Prop} {σ : St} {env : En} {D : Addr} {H1 : Hp} {I : Nat → List PyData → Nat → Prop} {k i : Nat} {H : Hp} {x : V} {d : DV}
    (nd : ¬ dr c.ω D) (h0 : c.H0 D = none) (hs : ∀ (j : Nat) (xs : List PyData), env[j]? = some (some (DV.own xs)) → σ[j]? ≠ some (some (V.ref D))) (hk : k < 1000)
    (P : LcP c M σ env D H1 I k H) (hd : VRep c.ω (fun a => M a ∨ a = D) H x d) (q : dLcStep (I k) (I (k + 1)) tt tb (env.set i (some d))) :
    gName i x (wipe σ [i]) H fun σ2 H2 => wipe σ2 [i] = wipe σ [i] ∧ cT tt σ2 H2 fun b H3 =>
      if b = true then cE tb σ2 H3 fun y H4 => ∃ acc, H4 D = some (.lst acc) ∧ acc.length < sizeLine ∧ LcP c M σ env D H1 I (k + 1) (upd H4 D (.lst (acc ++ [y]))) else LcP c M σ env D H1 I (k + 1) H3 := by
  obtain ⟨acc, accv, m, hD, ha, hl, hi, S, hE⟩ := P
  have ew : (wipe σ [i]).set i (some x) = σ.set i (some x) := List.set_set ..
  unfold gName
  rw [ew]
  refine ⟨by show (σ.set i (some x)).set i none = σ.set i none; rw [List.set_set], ?_⟩
  have S2 := S.set i hd
  refine goT S2 (q acc m hi) fun b H3 n3 e3 w3 q3 => ?_
  have D3 : H3 D = some (.lst accv) := e3 _ _ hD nd
  have dM : ∀ a, dr c.ω a → M a ∨ a = D := fun a ha => S.dM a ha
  cases b with
  | false =>
    rw [if_neg Bool.false_ne_true] at q3 ⊢
    exact ⟨acc, accv, n3, D3, ha.mono (e3.weak dM), by omega, q3, S.step e3 w3, hE.trans (e3.weak fun a h => .inl h)⟩
  | true =>
    rw [if_pos rfl] at q3 ⊢
    refine goE (S2.step e3 w3) q3 fun y H4 yd n4 e4 w4 m4 q4 => ?_
    have D4 : H4 D = some (.lst accv) := e4 _ _ D3 nd
    cases yd with
    | draws => exact q4.elim
    | own ds => exact q4.elim
    | dat yd =>
      have em : Ext (fun a => M a ∨ a = D) H4 (upd H4 D (.lst (accv ++ [y]))) := fun z o g nz => by
        rw [upd_ne fun w => nz (.inr w)]; exact g
      have a4 := ha.mono ((e3.trans e4).weak dM)
      refine ⟨accv, D4, by rw [a4.length]; exact Nat.lt_of_le_of_lt hl (Nat.lt_of_lt_of_le hk (by decide)), acc ++ [yd], accv ++ [y], n4, upd_same, (a4.mono em).append (.cons (Dm.mono em m4) .nil), by rw [List.length_append]; exact Nat.succ_le_succ hl, q4, ((S.step e3 w3).step e4 w4).wrD (.inr rfl) nd h0 hs, ?_⟩
      intro z o g nz
      rw [upd_ne fun w => nz (.inr w)]
      exact e4 _ _ (e3 _ _ (hE _ _ g nz) fun w => nz (.inl w)) fun w => nz (.inl w)
theorem lc_end {c : Cw} {M : Addr → Prop} {σ : St} {env : En} {D : Addr} {H0 H1 : Hp} {I : Nat → List PyData → Nat → Prop} {k : Nat} {H : Hp} {R : DV → Nat → Prop} {n1 : Nat}
    (S1 : Sta c M σ H1 env n1) (hn : H1 D = none) (e1 : Ext (dr c.ω) H0 H1) (P : LcP c M σ env D H1 I k H) (q : ∀ acc m, I k acc m → R (LV acc) m) : OutE c M H0 R (.ref D) H := by
  obtain ⟨acc, accv, m, hD, ha, hl, hi, S, hE⟩ := P
  refine ⟨LV acc, m, e1.trans fun z o g nz => ?_, S.wr, Dm.lst (fun z => S1.dom D z hn) hD (ha.weak fun a z => .inl z), q acc m hi⟩
  exact hE z o g fun w => w.elim nz fun y => ne_of_none g hn y
theorem rd_lcL {K0 : PySem.W.Frag} {i : Nat} : RdE (tLc (iList K0 (cE ta)) (gName i) (cT tt) (cE tb) [i]) (dLcL i ta tt tb) := fun c M σ H env n R S q =>
  goE S q fun v H1 d n1 e1 w1 m1 q1 => by
    cases d with
    | draws => exact q1.elim
    | own ds => exact q1.elim
    | dat d =>
      cases d with
      | list ds =>
        obtain ⟨hlen, I, i0, iS, iE⟩ := q1
        have m1' : Dm M H1 v (.list ds) := m1
        cases m1' with
        | lst hm ha hd =>
          rename_i p xs
          have S1 := S.step e1 w1
          refine ⟨p, rfl, ⟨xs, SqL.of ha⟩, fun D hD => ?_⟩
          have nd : ¬ dr c.ω D := fun z => w1.dom z hD
          have h0 : c.H0 D = none := by
            cases y : c.H0 D with
            | none => rfl
            | some o => rw [S1.keep D o y nd] at hD; cases hD
          have hs : ∀ (j : Nat) (xs : List PyData), env[j]? = some (some (DV.own xs)) → σ[j]? ≠ some (some (V.ref D)) := fun j xs ej z => by
            obtain ⟨u, h1, a, _, rfl, _, _, _, h5, _⟩ := S1.slot j _ ej
            rw [h1] at z
            cases z
            rw [h5] at hD; cases hD
          have pD : p ≠ D := ne_of_none ha hD
          have keep : ∀ {k H}, LcP c M σ env D H1 I k H → H p = some (.lst xs) ∧ DmA (fun a => M a ∨ a = D) H xs ds := fun {k H} P => by
            obtain ⟨_, _, _, _, _, _, _, S', hE⟩ := P
            have x1 : Ext (fun a => M a ∨ a = D) H1 H := hE.weak fun a z => z.imp (S1.dM a) id
            exact ⟨x1 _ _ ha fun z => z.elim hm pD, (DmA.more hD hd).mono x1⟩
          refine lc_list (K := K0) (a := p) (xs := xs) (LcP c M σ env D H1 I) ⟨[], [], n1, upd_same, .nil, Nat.le_refl _, i0, S1.fresh hD, Ext.new hD⟩ (fun k H' _ P => SqL.of (keep P).1) (fun k x H' hx P => ?_) fun H' P => ?_
          · obtain ⟨d, hd1, hd2⟩ := (keep P).2.getV hx
            have hk : k < ds.length := by
              obtain ⟨z, _⟩ := List.getElem?_eq_some_iff.1 hd1
              exact z
            exact lc_step (d := .dat d) nd h0 hs (by omega) P hd2 (iS k d hd1)
          · rw [hd.length] at P
            exact lc_end S1 hD e1 P iE
      | _ => exact q1.elim
theorem fe_lcL {i : Nat} (h : PE X e (tLc (iList X.K (cE ta)) (gName i) (cT tt) (cE tb) [i])) : FE X e (dLcL i ta tt tb) := FE.of h fun c M σ H env n R S q => rd_lcL (K0 := X.K) c M σ H env n R S q
theorem rd_lcR {K0 : PySem.W.Frag} {i : Nat} : RdE (tLc (iRng1 (tCons (cE ta) tNil)) (gName i) (cT tt) (cE tb) [i]) (dLcR i ta tt tb) := fun c M σ H env n R S q =>
  goE S q fun v H1 d n1 e1 w1 m1 q1 => by
    cases d with
    | draws => exact q1.elim
    | own ds => exact q1.elim
    | dat d =>
      cases d with
      | int j =>
        cases m1
        obtain ⟨b1, b2, I, i0, iS, iE⟩ := q1
        have S1 := S.step e1 w1
        refine ⟨j, rfl, b2, by omega, fun D hD => ?_⟩
        have nd : ¬ dr c.ω D := fun z => w1.dom z hD
        have h0 : c.H0 D = none := by
          cases y : c.H0 D with
          | none => rfl
          | some o => rw [S1.keep D o y nd] at hD; cases hD
        have hs : ∀ (j : Nat) (xs : List PyData), env[j]? = some (some (DV.own xs)) → σ[j]? ≠ some (some (V.ref D)) := fun j xs ej z => by
          obtain ⟨u, h1, a, _, rfl, _, _, _, h5, _⟩ := S1.slot j _ ej
          rw [h1] at z
          cases z
          rw [h5] at hD; cases hD
        refine lc_range (lo := 0) (n := j.toNat) (LcP c M σ env D H1 I) ⟨[], [], n1, upd_same, .nil, Nat.le_refl _, i0, S1.fresh hD, Ext.new hD⟩ (fun k H' hk P => ?_) fun H' P => lc_end S1 hD e1 P iE
        rw [Int.zero_add]
        exact lc_step (d := IV (k : Int)) nd h0 hs (by omega) P (Dm.int _) (iS k hk)
      | _ => exact q1.elim
theorem fe_lcR {i : Nat} (h : PE X e (tLc (iRng1 (tCons (cE ta) tNil)) (gName i) (cT tt) (cE tb) [i])) : FE X e (dLcR i ta tt tb) := FE.of h fun c M σ H env n R S q => rd_lcR (K0 := X.K) c M σ H env n R S q
end
end Sx

set_option Elab.async false
set_option linter.all false
set_option maxRecDepth 100000
set_option maxHeartbeats 2000000
/-! Sx15: several own lists at once, reading an own list, sums -/
namespace Sx
open PySem L2
theorem Sta.setOwn {c : Cw} {M : Addr → Prop} {σ : St} {H : Hp} {env : En} {n : Nat} (S : Sta c M σ H env n) (i : Nat) {p : Addr} {vs : List V} {ds : List PyData} (hm : M p) (m0 : ¬ c.M0 p) (h0 : c.H0 p = none) (hH : H p = some (.lst vs)) (hd : DmA M H vs ds)
    (ne : ∀ (j : Nat) (xs : List PyData), env[j]? = some (some (DV.own xs)) → σ[j]? ≠ some (some (V.ref p))) : Sta c M (σ.set i (some (.ref p))) H (env.set i (some (.own ds))) n := by
  refine ⟨S.m0, S.d0, S.dom, S.wr, S.keep, by rw [List.length_set, List.length_set]; exact S.len, S.gh, S.gr, fun j x ej => ?_, fun j l xs ys u f1 f2 f3 f4 => ?_⟩
  · rcases get_set ej with ⟨rfl, y, hl⟩ | ⟨nj, y⟩
    · cases y
      exact ⟨.ref p, by rw [List.getElem?_set_self (by rw [S.len]; exact hl)], p, vs, rfl, hm, m0, h0, hH, hd⟩
    · obtain ⟨u, h1, h2⟩ := S.slot j x y
      exact ⟨u, by rw [List.getElem?_set_ne (Ne.symm nj)]; exact h1, h2⟩
  · rcases get_set f1 with ⟨rfl, y1, hl⟩ | ⟨nj, y1⟩
    · rcases get_set f2 with ⟨rfl, y2, _⟩ | ⟨nl, y2⟩
      · rfl
      · rw [List.getElem?_set_self (by rw [S.len]; exact hl)] at f3
        cases f3
        rw [List.getElem?_set_ne (Ne.symm nl)] at f4
        exact absurd f4 (ne l ys y2)
    · rw [List.getElem?_set_ne (Ne.symm nj)] at f3
      rcases get_set f2 with ⟨rfl, y2, hl⟩ | ⟨nl, y2⟩
      · rw [List.getElem?_set_self (by rw [S.len]; exact hl)] at f4
        cases f4
        exact absurd f3 (ne j xs y1)
      · rw [List.getElem?_set_ne (Ne.symm nl)] at f4
        exact S.own j l xs ys u y1 y2 f3 f4
/-- an own list, read -/
theorem Sta.froze {c : Cw} {M : Addr → Prop} {σ : St} {H : Hp} {env : En} {n : Nat} (S : Sta c M σ H env n) {i : Nat} {ds : List PyData} (e : env[i]? = some (some (.own ds))) : ∃ a : Addr, Sta c (fun z => M z ∧ z ≠ a) σ H (env.set i (some (LV ds))) n := by
  obtain ⟨v, hv, a, xs, rfl, hm, h0, hH, ha, hd⟩ := S.slot i _ e
  refine ⟨a, ?_⟩
  refine ⟨fun z hz => ⟨S.m0 z hz, fun y => h0 (y ▸ hz)⟩, S.d0, fun z hz => S.dom z hz.1, S.wr, S.keep, by rw [List.length_set]; exact S.len, fun p hp => (S.gh p hp).weak fun _ z => z.1, fun p hp => ⟨fun z => (S.gr p hp).1 z.1, (S.gr p hp).2⟩, fun j x ej => ?_, fun j l ys zs u f1 f2 f3 f4 => ?_⟩
  · rcases get_set ej with ⟨rfl, y, hl⟩ | ⟨ne, y⟩
    · cases y
      exact ⟨_, hv, Dm.lst (fun z => z.2 rfl) ha (hd.weak fun _ z => z.1)⟩
    · obtain ⟨u, h1, h2⟩ := S.slot j x y
      refine ⟨u, h1, ?_⟩
      cases x with
      | dat d => exact Dm.weak (fun _ z => z.1) h2
      | draws => exact h2
      | own ds2 =>
        obtain ⟨a2, xs2, rfl, g2, g3, g4, g5, g6⟩ := h2
        refine ⟨a2, xs2, rfl, ⟨g2, fun y2 => ?_⟩, g3, g4, g5, g6.weak fun _ z => z.1⟩
        subst y2
        exact ne (S.own j i _ _ _ y e h1 hv)
  · have q1 : env[j]? = some (some (.own ys)) := by
      rcases get_set f1 with ⟨rfl, y, hl⟩ | ⟨_, y⟩
      · cases y
      · exact y
    have q2 : env[l]? = some (some (.own zs)) := by
      rcases get_set f2 with ⟨rfl, y, hl⟩ | ⟨_, y⟩
      · cases y
      · exact y
    exact S.own j l ys zs u q1 q2 f3 f4
section
variable {X : Cx} {e : Expr} {ta : DT} {t : DTB} {st : Stmt}
/-- a test that reads the own list i -/
def dPeekT (i : Nat) (t : DTB) : DTB := fun env n R => match env[i]? with
  | some (some (.own ds)) => t (env.set i (some (LV ds))) n R
  | _ => False
theorem ft_peek (i : Nat) (h : FT X e t) : FT X e (dPeekT i t) := FT.of h fun c M σ H env n R S q => by
  unfold dPeekT at q
  split at q
  · rename_i ds ei
    obtain ⟨a, S2⟩ := S.froze ei
    exact goT S2 q fun b H' n' e1 w1 q1 => ⟨n', e1, w1, q1⟩
  · exact q.elim
/-- a number read out of the own list i -/
def dPeekI (i : Nat) (t : DT) : DT := fun env n R => match env[i]? with
  | some (some (.own ds)) => t (env.set i (some (LV ds))) n fun d n1 => match d with
    | .dat (.int j) => R (IV j) n1
    | _ => False
  | _ => False
theorem fe_peek (i : Nat) (h : FE X e ta) : FE X e (dPeekI i ta) := FE.of h fun c M σ H env n R S q => by
  unfold dPeekI at q
  split at q
  · rename_i ds ei
    obtain ⟨a, S2⟩ := S.froze ei
    refine goE S2 q fun v H' d n' e1 w1 m1 q1 => ?_
    cases d with
    | draws => exact q1.elim
    | own ds => exact q1.elim
    | dat d =>
      cases d with
      | int j =>
        cases m1
        exact ⟨IV j, n', e1, w1, Dm.int j, q1⟩
      | _ => exact q1.elim
  · exact q.elim
/-- x, y = [], [] -/
def dParO2 (i j : Nat) : DTS := fun F env n => i ≠ j ∧ F.nx ((env.set i (some (.own []))).set j (some (.own []))) n
theorem slots_ne {c : Cw} {M : Addr → Prop} {σ : St} {H : Hp} {env : En} {n : Nat} (S : Sta c M σ H env n) {p : Addr} (hp : H p = none) : ∀ (j : Nat) (xs : List PyData), env[j]? = some (some (DV.own xs)) → σ[j]? ≠ some (some (V.ref p)) := fun j xs ej z => by
  obtain ⟨u, h1, a, _, rfl, _, _, _, h5, _⟩ := S.slot j _ ej
  rw [h1] at z
  cases z
  rw [h5] at hp; cases hp
theorem two_new {c : Cw} {M : Addr → Prop} {σ : St} {H H3 : Hp} {env : En} {n n3 : Nat} (S : Sta c M σ H env n) {p p2 : Addr} (hp : H p = none) (hp2 : upd H p (.lst []) p2 = none) (i j : Nat) (hij : i ≠ j)
    (e3 : Ext (dr c.ω) (upd (upd H p (.lst [])) p2 (.lst [])) H3) (w3 : WR c.ω n3 H3) :
    Sta c (fun a => (M a ∨ a = p) ∨ a = p2) ((σ.set i (some (.ref p))).set j (some (.ref p2))) H3 ((env.set i (some (.own []))).set j (some (.own []))) n3 := by
  have S2 := ((S.fresh (o := .lst []) hp).fresh (o := .lst []) hp2).step e3 w3
  have ne : p ≠ p2 := fun w => by rw [← w, upd_same] at hp2; cases hp2
  have h2 : H p2 = none := by rw [upd_ne (Ne.symm ne)] at hp2; exact hp2
  have nd : ∀ {q : Addr}, H q = none → ¬ dr c.ω q := fun {q} hq z => S.wr.dom z hq
  have h0 : ∀ {q : Addr}, H q = none → c.H0 q = none := fun {q} hq => by
    cases y : c.H0 q with
    | none => rfl
    | some o => rw [S.keep q o y (nd hq)] at hq; cases hq
  have m0 : ∀ {q : Addr}, H q = none → ¬ c.M0 q := fun {q} hq z => S.dom q (S.m0 q z) hq
  have S3 := S2.setOwn i (p := p) (vs := []) (ds := []) (.inl (.inr rfl)) (m0 hp) (h0 hp) (e3 _ _ (by rw [upd_ne ne]; exact upd_same) (nd hp)) .nil (slots_ne S hp)
  refine S3.setOwn j (p := p2) (vs := []) (ds := []) (.inr rfl) (m0 h2) (h0 h2) (e3 _ _ upd_same (nd h2)) .nil fun l xs el z => ?_
  rcases get_set el with ⟨rfl, y, hl⟩ | ⟨nl, y⟩
  · rw [List.getElem?_set_self (by rw [S.len]; exact hl)] at z
    injection z with z
    injection z with z
    injection z with z
    exact ne z
  · rw [List.getElem?_set_ne (Ne.symm nl)] at z
    exact slots_ne S h2 l xs y z
theorem fs_parO2 {i j : Nat} (h : PS X st (tPar i j (tCons (tLst tNil) (tCons (tLst tNil) tNil)))) : FS X st (dParO2 i j) := FS.of h fun c M σ H env n F E S q k => by
  obtain ⟨hij, q⟩ := q
  refine ⟨Nat.zero_le _, fun p hp => ⟨Nat.zero_le _, fun p2 hp2 => ⟨_, _, rfl, ?_⟩⟩⟩
  exact k.nx _ _ _ _ n (two_new S hp hp2 i j hij (Ext.rfl' _) ((S.wr.new hp).new hp2)) q
/-- x, y, z = [], [], e -/
def dParO3 (i j l : Nat) (ta : DT) : DTS := fun F env n => i ≠ j ∧ ta env n fun d n1 => F.nx (((env.set i (some (.own []))).set j (some (.own []))).set l (some d)) n1
theorem fs_parO3 {i j l : Nat} (h : PS X st (tPar3 i j l (tCons (tLst tNil) (tCons (tLst tNil) (tCons (cE ta) tNil))))) : FS X st (dParO3 i j l ta) := FS.of h fun c M σ H env n F E S q k => by
  obtain ⟨hij, q⟩ := q
  refine ⟨Nat.zero_le _, fun p hp => ⟨Nat.zero_le _, fun p2 hp2 => ?_⟩⟩
  refine goE ((S.fresh (o := .lst []) hp).fresh (o := .lst []) hp2) q fun v H3 d n3 e3 w3 m3 q3 => ?_
  refine ⟨_, _, _, rfl, ?_⟩
  exact k.nx _ _ _ _ n3 ((two_new S hp hp2 i j hij e3 w3).set l m3) q3
end
def oSum : DOC := fun xs R => match xs with
  | [.dat (.list ds)] => ∃ ns : List Int, ds = ns.map .int ∧ R (IV ns.sum)
  | _ => False
theorem ints_of {M : Addr → Prop} {H : Hp} : ∀ {vs : List V} {ns : List Int}, DmA M H vs (ns.map .int) → vs = ns.map V.int
  | _, [], .nil => rfl
  | _, _ :: _, .cons h t => by
    cases h
    rw [ints_of t]
    rfl
theorem ok_sum (K : PySem.W.Frag) : OkC (rSum K) oSum := fun c M H vs ds n R Q hd hr w m h k => by
  unfold oSum at h
  split at h
  · cases m with
    | cons m1 m2 =>
      cases m2
      obtain ⟨ns, rfl, h⟩ := h
      cases m1 with
      | lst hm ha hds => exact ⟨_, ns, rfl, SqL.of (by rw [ints_of hds] at ha; exact ha), k _ H (IV _) (Ext.rfl' H) w (Dm.int _) h⟩
  · exact h.elim
/-- tests of a comprehension -/
theorem ptd_nil {X : Cx} : PTs X [] (cT dYes) := ⟨fun pins s σ H Q I h => pts_nil.run pins s σ H Q I (by
  obtain ⟨c, M, env, n, R, S, q, k⟩ := h
  exact k true H n (Ext.rfl' H) S.wr q)⟩
end Sx

set_option Elab.async false
set_option linter.all false
set_option maxRecDepth 100000
set_option maxHeartbeats 2000000
/-! Sx16: loops over tuples, over a range with two ends; tuple(..), min, max -/
namespace Sx
open PySem L2
def dForT (i : Nat) (ta : DT) (tb : DTS) : DTS := fun F env n => ta env n fun d n1 => match d with
  | .dat (.tuple ds) => ∃ I : Nat → En → Nat → Prop, I 0 env n1 ∧
      (∀ k d env n, ds[k]? = some d → I k env n → tb { F with nx := I (k + 1), ct := I (k + 1), bk := F.nx } (env.set i (some (.dat d))) n) ∧ (∀ env n, I ds.length env n → F.nx env n)
  | _ => False
/-- [tb for i in ta if tt], ta a list -/
def dLcT (i : Nat) (ta : DT) (tt : DTB) (tb : DT) : DT := fun env n R => ta env n fun d n1 => match d with
  | .dat (.tuple ds) => ds.length ≤ 1000 ∧ ∃ I : Nat → List PyData → Nat → Prop, I 0 [] n1 ∧
      (∀ k d, ds[k]? = some d → dLcStep (I k) (I (k + 1)) tt tb (env.set i (some (.dat d)))) ∧ (∀ acc m, I ds.length acc m → R (LV acc) m)
  | _ => False
/-- for i in range(a, b) -/
def dForR2 (i : Nat) (tl : DTA) (tb : DTS) : DTS := fun F env n => tl env n fun xs n1 => match xs with
  | [.dat (.int a), .dat (.int b)] => (-(2 ^ 62) ≤ a ∧ a < 2 ^ 62 ∧ -(2 ^ 62) ≤ b ∧ b < 2 ^ 62) ∧ ∃ I : Nat → En → Nat → Prop, I 0 env n1 ∧
      (∀ k env n, k < (b - a).toNat → I k env n → tb { F with nx := I (k + 1), ct := I (k + 1), bk := F.nx } (env.set i (some (IV (a + (k : Int))))) n) ∧ (∀ env n, I (b - a).toNat env n → F.nx env n)
  | _ => False
/-- [tb for i in range(a, b) if tt] -/
def dLcR2 (i : Nat) (tl : DTA) (tt : DTB) (tb : DT) : DT := fun env n R => tl env n fun xs n1 => match xs with
  | [.dat (.int a), .dat (.int b)] => b - a ≤ 1000 ∧ (-(2 ^ 62) ≤ a ∧ a < 2 ^ 62 ∧ -(2 ^ 62) ≤ b ∧ b < 2 ^ 62) ∧ ∃ I : Nat → List PyData → Nat → Prop, I 0 [] n1 ∧
      (∀ k : Nat, k < (b - a).toNat → dLcStep (I k) (I (k + 1)) tt tb (env.set i (some (IV (a + (k : Int)))))) ∧ (∀ acc m, I (b - a).toNat acc m → R (LV acc) m)
  | _ => False
theorem two_ints {c : Cw} {M : Addr → Prop} {H : Hp} {vs : List V} {a b : Int} (m : VReps c.ω M H vs [IV a, IV b]) : vs = [.int a, .int b] := by
  cases m with
  | cons m1 m2 =>
    cases m2 with
    | cons m3 m4 =>
      cases m4
      cases m1
      cases m3
      rfl
section
variable {X : Cx} {e : Expr} {ta tb : DT} {tt : DTB} {tl : DTA} {ts : DTS}
theorem fs_forT {i : Nat} {st : Stmt} (h : PS X st (tFor (iTup X.K (cE ta)) (gName i) (cS ts))) : FS X st (dForT i ta ts) := FS.of h fun c M σ H env n F E S q k =>
  goE S q fun v H1 d n1 e1 w1 m1 q1 => by
    cases d with
    | draws => exact q1.elim
    | own ds => exact q1.elim
    | dat d =>
      cases d with
      | tuple ds =>
        obtain ⟨I, i0, iS, iE⟩ := q1
        have m1' : Dm M H1 v (.tuple ds) := m1
        cases m1' with
        | tup hm ha hd =>
          rename_i p xs
          obtain ⟨c', hc'⟩ : ∃ c', c' = c.hold (.ref p, .tuple ds) (p, .tup xs) := ⟨_, rfl⟩
          have S1 : Sta c' M σ H1 env n1 := hc' ▸ (S.step e1 w1).hold (Dm.tup hm ha hd) ⟨hm, ha⟩
          have back : ∀ {M' σ' H' env' n'}, Sta c' M' σ' H' env' n' → H' p = some (.tup xs) ∧ DmA M' H' xs ds := fun S' => by
            subst hc'
            have z := S'.gh (.ref p, .tuple ds) List.mem_cons_self
            have z2 := (S'.gr (p, .tup xs) List.mem_cons_self).2
            cases z with
            | tup _ y2 y3 =>
              have y4 := y2.symm.trans z2
              cases y4
              exact ⟨y2, y3⟩
          have out : ∀ {M' σ' H' env' n'}, Sta c' M' σ' H' env' n' → Sta c M' σ' H' env' n' := fun S' => by
            subst hc'
            exact S'.drop
          have ω' : c'.ω = c.ω := by rw [hc']; rfl
          have h0' : c'.H0 = c.H0 := by rw [hc']; rfl
          have m0' : c'.M0 = c.M0 := by rw [hc']; rfl
          refine ⟨p, rfl, ⟨xs, SqT.of ha⟩, for_tup (K := X.K) (a := p) (xs := xs) (fun k σ H => ∃ M env n, Sta c' M σ H env n ∧ I k env n) ⟨M, env, n1, S1, i0⟩ ?_ ?_ ?_⟩
          · rintro k' σ' H' _ ⟨_, _, _, z, _⟩
            exact SqT.of (back z).1
          · rintro k' x σ' H' hx ⟨M', env', n', S', q'⟩
            obtain ⟨d, hd1, hd2⟩ := (back S').2.getV hx
            have z := iS k' d env' n' hd1 q'
            show cS ts _ (σ'.set i (some x)) H'
            exact goS (S'.set i (d := .dat d) hd2) z ⟨fun M2 σ2 H2 env2 n2 S2 h2 => ⟨M2, env2, n2, S2, h2⟩, fun M2 σ2 H2 env2 n2 S2 h2 => k.nx M2 σ2 H2 env2 n2 (out S2) h2, fun M2 σ2 H2 env2 n2 S2 h2 => ⟨M2, env2, n2, S2, h2⟩, by rw [ω', h0', m0']; exact k.rt⟩
          · rintro σ' H' ⟨M', env', n', S', q'⟩
            rw [hd.length] at q'
            exact k.nx M' σ' H' env' n' (out S') (iE env' n' q')
      | _ => exact q1.elim
theorem rd_lcT {K0 : PySem.W.Frag} {i : Nat} : RdE (tLc (iTup K0 (cE ta)) (gName i) (cT tt) (cE tb) [i]) (dLcT i ta tt tb) := fun c M σ H env n R S q =>
  goE S q fun v H1 d n1 e1 w1 m1 q1 => by
    cases d with
    | draws => exact q1.elim
    | own ds => exact q1.elim
    | dat d =>
      cases d with
      | tuple ds =>
        obtain ⟨hlen, I, i0, iS, iE⟩ := q1
        have m1' : Dm M H1 v (.tuple ds) := m1
        cases m1' with
        | tup hm ha hd =>
          rename_i p xs
          have S1 := S.step e1 w1
          refine ⟨p, rfl, ⟨xs, SqT.of ha⟩, fun D hD => ?_⟩
          have nd : ¬ dr c.ω D := fun z => w1.dom z hD
          have h0 : c.H0 D = none := by
            cases y : c.H0 D with
            | none => rfl
            | some o => rw [S1.keep D o y nd] at hD; cases hD
          have hs : ∀ (j : Nat) (xs : List PyData), env[j]? = some (some (DV.own xs)) → σ[j]? ≠ some (some (V.ref D)) := fun j xs ej z => by
            obtain ⟨u, h1, a, _, rfl, _, _, _, h5, _⟩ := S1.slot j _ ej
            rw [h1] at z
            cases z
            rw [h5] at hD; cases hD
          have pD : p ≠ D := ne_of_none ha hD
          have keep : ∀ {k H}, LcP c M σ env D H1 I k H → H p = some (.tup xs) ∧ DmA (fun a => M a ∨ a = D) H xs ds := fun {k H} P => by
            obtain ⟨_, _, _, _, _, _, _, S', hE⟩ := P
            have x1 : Ext (fun a => M a ∨ a = D) H1 H := hE.weak fun a z => z.imp (S1.dM a) id
            exact ⟨x1 _ _ ha fun z => z.elim hm pD, (DmA.more hD hd).mono x1⟩
          refine lc_tup (K := K0) (a := p) (xs := xs) (LcP c M σ env D H1 I) ⟨[], [], n1, upd_same, .nil, Nat.le_refl _, i0, S1.fresh hD, Ext.new hD⟩ (fun k H' _ P => SqT.of (keep P).1) (fun k x H' hx P => ?_) fun H' P => ?_
          · obtain ⟨d, hd1, hd2⟩ := (keep P).2.getV hx
            have hk : k < ds.length := by
              obtain ⟨z, _⟩ := List.getElem?_eq_some_iff.1 hd1
              exact z
            exact lc_step (d := .dat d) nd h0 hs (by omega) P hd2 (iS k d hd1)
          · rw [hd.length] at P
            exact lc_end S1 hD e1 P iE
      | _ => exact q1.elim

theorem fe_lcT {i : Nat} (h : PE X e (tLc (iTup X.K (cE ta)) (gName i) (cT tt) (cE tb) [i])) : FE X e (dLcT i ta tt tb) := FE.of h fun c M σ H env n R S q => rd_lcT (K0 := X.K) c M σ H env n R S q
theorem fs_forR2 {i : Nat} {st : Stmt} (h : PS X st (tFor (iRng2 (cA tl)) (gName i) (cS ts))) : FS X st (dForR2 i tl ts) := FS.of h fun c M σ H env n F E S q k =>
  goA S q fun vs H1 xs n1 e1 w1 m1 q1 => by
    split at q1
    · rename_i a b
      have ev := two_ints m1
      subst ev
      obtain ⟨⟨b1, b2, b3, b4⟩, I, i0, iS, iE⟩ := q1
      refine ⟨a, b, rfl, ⟨b1, b2, b3, b4⟩, for_range (lo := a) (n := (b - a).toNat) (fun k σ H => ∃ M env n, Sta c M σ H env n ∧ I k env n) ⟨M, env, n1, S.step e1 w1, i0⟩ ?_ ?_⟩
      · rintro k' σ' H' hk ⟨M', env', n', S', q'⟩
        have z := iS k' env' n' hk q'
        show cS ts _ (σ'.set i (some (.int (a + (k' : Int))))) H'
        exact goS (S'.set i (d := IV (a + (k' : Int))) (Dm.int _)) z ⟨fun M2 σ2 H2 env2 n2 S2 h2 => ⟨M2, env2, n2, S2, h2⟩, k.nx, fun M2 σ2 H2 env2 n2 S2 h2 => ⟨M2, env2, n2, S2, h2⟩, k.rt⟩
      · rintro σ' H' ⟨M', env', n', S', q'⟩
        exact k.nx M' σ' H' env' n' S' (iE env' n' q')
    · exact q1.elim
theorem rd_lcR2 {K0 : PySem.W.Frag} {i : Nat} : RdE (tLc (iRng2 (cA tl)) (gName i) (cT tt) (cE tb) [i]) (dLcR2 i tl tt tb) := fun c M σ H env n R S q =>
  goA S q fun vs H1 xs n1 e1 w1 m1 q1 => by
    split at q1
    · rename_i a b
      have ev := two_ints m1
      subst ev
      obtain ⟨hb, ⟨b1, b2, b3, b4⟩, I, i0, iS, iE⟩ := q1
      have S1 := S.step e1 w1
      refine ⟨a, b, rfl, ⟨b1, b2, b3, b4⟩, fun D hD => ?_⟩
      have nd : ¬ dr c.ω D := fun z => w1.dom z hD
      have h0 : c.H0 D = none := by
        cases y : c.H0 D with
        | none => rfl
        | some o => rw [S1.keep D o y nd] at hD; cases hD
      have hs := slots_ne S1 hD
      refine lc_range (lo := a) (n := (b - a).toNat) (LcP c M σ env D H1 I) ⟨[], [], n1, upd_same, .nil, Nat.le_refl _, i0, S1.fresh hD, Ext.new hD⟩ (fun k H' hk P => ?_) fun H' P => lc_end S1 hD e1 P iE
      exact lc_step (d := IV (a + (k : Int))) nd h0 hs (by omega) P (Dm.int _) (iS k hk)
    · exact q1.elim
theorem fe_lcR2 {i : Nat} (h : PE X e (tLc (iRng2 (cA tl)) (gName i) (cT tt) (cE tb) [i])) : FE X e (dLcR2 i tl tt tb) := FE.of h fun c M σ H env n R S q => rd_lcR2 (K0 := X.K) c M σ H env n R S q
end
def oTupOf : DOC := fun xs R => match xs with
  | [.dat (.tuple ds)] => R (TV ds)
  | [.dat (.list ds)] => R (TV ds)
  | _ => False
theorem ok_tupof (K : PySem.W.Frag) : OkC (fun xs H Q => ∃ p ys, xs = [.ref p] ∧ ((SqL K H p ys ∧ ∀ l, H l = none → Q (.ref l) (upd H l (.tup ys))) ∨ (SqT K H p ys ∧ Q (.ref p) H))) oTupOf := fun c M H vs ds n R Q hd hr w m h k => by
  unfold oTupOf at h
  split at h
  · cases m with
    | cons m1 m2 =>
      cases m2
      cases m1 with
      | tup hm ha hds => exact ⟨_, _, rfl, .inr ⟨SqT.of ha, k _ H (TV _) (Ext.rfl' H) w (Dm.tup hm ha hds) h⟩⟩
  · cases m with
    | cons m1 m2 =>
      cases m2
      cases m1 with
      | lst hm ha hds => exact ⟨_, _, rfl, .inl ⟨SqL.of ha, fun p hp => k _ _ (TV _) (Ext.new hp) (w.new hp) (Dm.tup (fun z => hd p z hp) upd_same (hds.mono (Ext.new hp))) h⟩⟩
  · exact h.elim
def oMin : DOC := fun xs R => match xs with
  | [.dat (.int i), .dat (.int j)] => R (IV (if j < i then j else i))
  | _ => False
theorem ok_min : OkC (fun xs H Q => ∃ i j, xs = [V.int i, V.int j] ∧ Q (.int (if j < i then j else i)) H) oMin := fun c M H vs ds n R Q hd hr w m h k => by
  unfold oMin at h
  split at h
  · have ev := two_ints (c := c) m
    exact ⟨_, _, ev, k _ H (IV _) (Ext.rfl' H) w (Dm.int _) h⟩
  · exact h.elim
def oIsB : DO2 := fun x y R => match x, y with
  | .dat (.bool a), .dat (.bool b) => R (BV (decide (a = b)))
  | _, _ => False
theorem ok_isB : OkO (fun x y H Q => ∃ a b, x = V.bl a ∧ y = V.bl b ∧ Q (.bl (decide (a = b))) H) oIsB := fun c M H x y d f n R Q hd hr w hx hy h k => by
  unfold oIsB at h
  split at h
  · cases hx
    cases hy
    exact ⟨_, _, rfl, rfl, k _ H (BV _) (Ext.rfl' H) w (Dm.bl _) h⟩
  · exact h.elim
end Sx

set_option Elab.async false
set_option linter.all false
set_option maxRecDepth 100000
set_option maxHeartbeats 2000000
/-! Sx17: [.. for x, y in zip(xs, ys) if ..] -/
namespace Sx
open PySem L2
theorem lc_zip {K : PySem.W.Frag} {a b : Addr} {xs ys : List V} {g : TG} {tt : TT} {te : TE} {vs : List Nat} {σ : St} {H1 : Hp} {D : Addr} {Qd : Hp → Prop} (Pv : Nat → Hp → Prop) (h0 : Pv 0 (upd H1 D (.lst []))) (hl : ∀ i H, Pv i H → SqL K H a xs ∧ SqL K H b ys)
    (hs : ∀ i x y T H, xs[i]? = some x → ys[i]? = some y → Pv i H → H T = none → g (.ref T) (wipe σ vs) (upd H T (.tup [x, y])) fun σ2 H2 => wipe σ2 vs = wipe σ vs ∧ tt σ2 H2 fun b H3 =>
      if b = true then te σ2 H3 fun y H4 => ∃ acc, H4 D = some (.lst acc) ∧ acc.length < sizeLine ∧ Pv (i + 1) (upd H4 D (.lst (acc ++ [y]))) else Pv (i + 1) H3) (hd : ∀ H, Pv (min xs.length ys.length) H → Qd H) :
    ∃ W : Nat → Nat → Hp → Prop, (∃ m, W 0 m (upd H1 D (.lst []))) ∧ ∀ i m H, W i m H →
      ((Itz K a b).stop i H ∧ Qd H) ∨ ((Itz K a b).go i H ∧ ∃ Nx : Hp → Prop, (∀ H', Nx H' → ∃ m', m' < m ∧ W (i + 1) m' H') ∧ ∀ x H', (Itz K a b).yld i H x H' → g x (wipe σ vs) H' fun σ2 H2 => wipe σ2 vs = wipe σ vs ∧ tt σ2 H2 fun b H3 =>
        if b = true then te σ2 H3 fun y H4 => ∃ acc, H4 D = some (.lst acc) ∧ acc.length < sizeLine ∧ Nx (upd H4 D (.lst (acc ++ [y]))) else Nx H3) := by
  refine ⟨fun i m H => m = min xs.length ys.length - i ∧ i ≤ min xs.length ys.length ∧ Pv i H, ⟨min xs.length ys.length, by simp, Nat.zero_le _, h0⟩, ?_⟩
  rintro i m H ⟨rfl, hi, p⟩
  obtain ⟨qx, qy⟩ := hl i H p
  by_cases hlt : i < min xs.length ys.length
  · have h1 : i < xs.length := by omega
    have h2 : i < ys.length := by omega
    have hx : xs[i]? = some xs[i] := List.getElem?_eq_getElem h1
    have hy : ys[i]? = some ys[i] := List.getElem?_eq_getElem h2
    refine .inr ⟨⟨xs, ys, _, _, qx, qy, hx, hy⟩, Pv (i + 1), fun H' p' => ⟨min xs.length ys.length - (i + 1), by omega, rfl, by omega, p'⟩, fun v H' y => ?_⟩
    obtain ⟨T, x', y', rfl, hT, rfl, f1, f2⟩ := y
    exact hs i x' y' T H (f1 xs qx) (f2 ys qy) p hT
  · have e : i = min xs.length ys.length := by omega
    subst e
    refine .inl ⟨⟨xs, ys, qx, qy, ?_⟩, hd H p⟩
    by_cases w : xs.length ≤ ys.length
    · left; omega
    · right; omega
/-- [tb for i, j in zip(a, b) if tt], a and b lists -/
def dLcZ (i j : Nat) (tl : DTA) (tt : DTB) (tb : DT) : DT := fun env n R => i ≠ j ∧ tl env n fun xs n1 => match xs with
  | [.dat (.list ds), .dat (.list es)] => ds.length ≤ 1000 ∧ ∃ I : Nat → List PyData → Nat → Prop, I 0 [] n1 ∧
      (∀ k d e, ds[k]? = some d → es[k]? = some e → dLcStep (I k) (I (k + 1)) tt tb ((env.set i (some (.dat d))).set j (some (.dat e)))) ∧ (∀ acc m, I (min ds.length es.length) acc m → R (LV acc) m)
  | _ => False
theorem LcP.ext {c : Cw} {M : Addr → Prop} {σ : St} {env : En} {D : Addr} {H1 : Hp} {I : Nat → List PyData → Nat → Prop} {k : Nat} {H : Hp} (P : LcP c M σ env D H1 I k H) {T : Addr} {o : HO} (hT : H T = none) : LcP c M σ env D H1 I k (upd H T o) := by
  obtain ⟨acc, accv, m, hD, ha, hl, hi, S, hE⟩ := P
  have e : Ext (fun a => M a ∨ a = D) H (upd H T o) := Ext.new hT
  have e2 : Ext (dr c.ω) H (upd H T o) := Ext.new hT
  have e3 : Ext (fun a => dr c.ω a ∨ a = D) H (upd H T o) := Ext.new hT
  exact ⟨acc, accv, m, by rw [upd_ne (ne_of_none hD hT)]; exact hD, ha.mono e, hl, hi, S.step e2 (S.wr.new hT), hE.trans e3⟩
theorem wipe_two {σ : St} {i j : Nat} (h : i ≠ j) (x y : Option V) : wipe ((σ.set i x).set j y) [i, j] = wipe σ [i, j] := by
  show (((σ.set i x).set j y).set j none).set i none = (σ.set j none).set i none
  rw [List.set_set, List.set_comm _ _ h, List.set_set]
theorem lc_step2 {c : Cw} {M : Addr → Prop} {σ : St} {env : En} {D : Addr} {H1 : Hp} {I : Nat → List PyData → Nat → Prop} {k i j : Nat} {H : Hp} {x y : V} {d e : DV} {T : Addr} {K : PySem.W.Frag} {tt : DTB} {tb : DT}
    (hij : i ≠ j) (hT : H T = none) (nd : ¬ dr c.ω D) (h0 : c.H0 D = none) (hs : ∀ (j : Nat) (xs : List PyData), env[j]? = some (some (DV.own xs)) → σ[j]? ≠ some (some (V.ref D))) (hk : k < 1000)
    (P : LcP c M σ env D H1 I k H) (hd : VRep c.ω (fun a => M a ∨ a = D) H x d) (he : VRep c.ω (fun a => M a ∨ a = D) H y e) (q : dLcStep (I k) (I (k + 1)) tt tb ((env.set i (some d)).set j (some e))) :
    gTup K 2 (gAll [i, j]) (.ref T) (wipe σ [i, j]) (upd H T (.tup [x, y])) fun σ2 H2 => wipe σ2 [i, j] = wipe σ [i, j] ∧ cT tt σ2 H2 fun b H3 =>
      if b = true then cE tb σ2 H3 fun y H4 => ∃ acc, H4 D = some (.lst acc) ∧ acc.length < sizeLine ∧ LcP c M σ env D H1 I (k + 1) (upd H4 D (.lst (acc ++ [y]))) else LcP c M σ env D H1 I (k + 1) H3 := by
  have P2 := P.ext (o := .tup [x, y]) hT
  have eX : Ext (fun a => M a ∨ a = D) H (upd H T (.tup [x, y])) := Ext.new hT
  have hd2 := hd.mono eX
  have he2 := he.mono eX
  refine ⟨T, [x, y], rfl, SqT.of upd_same, rfl, _, _, rfl, _, _, rfl, rfl, ?_⟩
  obtain ⟨acc, accv, m, hD, ha, hl, hi, S, hE⟩ := P2
  have ew : ((wipe σ [i, j]).set i (some x)).set j (some y) = (σ.set i (some x)).set j (some y) := by
    show (((σ.set j none).set i none).set i (some x)).set j (some y) = _
    rw [List.set_set, List.set_comm _ _ (Ne.symm hij), List.set_set]
  rw [ew]
  refine ⟨wipe_two hij _ _, ?_⟩
  have S2 := (S.set i hd2).set j he2
  refine goT S2 (q acc m hi) fun b H3 n3 e3 w3 q3 => ?_
  have D3 : H3 D = some (.lst accv) := e3 _ _ hD nd
  have dM : ∀ a, dr c.ω a → M a ∨ a = D := fun a ha => S.dM a ha
  cases b with
  | false =>
    rw [if_neg Bool.false_ne_true] at q3 ⊢
    exact ⟨acc, accv, n3, D3, ha.mono (e3.weak dM), by omega, q3, S.step e3 w3, hE.trans (e3.weak fun a h => .inl h)⟩
  | true =>
    rw [if_pos rfl] at q3 ⊢
    refine goE (S2.step e3 w3) q3 fun y H4 yd n4 e4 w4 m4 q4 => ?_
    have D4 : H4 D = some (.lst accv) := e4 _ _ D3 nd
    cases yd with
    | draws => exact q4.elim
    | own ds => exact q4.elim
    | dat yd =>
      have em : Ext (fun a => M a ∨ a = D) H4 (upd H4 D (.lst (accv ++ [y]))) := fun z o g nz => by
        rw [upd_ne fun w => nz (.inr w)]; exact g
      have a4 := ha.mono ((e3.trans e4).weak dM)
      refine ⟨accv, D4, by rw [a4.length]; exact Nat.lt_of_le_of_lt hl (Nat.lt_of_lt_of_le hk (by decide)), acc ++ [yd], accv ++ [y], n4, upd_same, (a4.mono em).append (.cons (Dm.mono em m4) .nil), by rw [List.length_append]; exact Nat.succ_le_succ hl, q4, ((S.step e3 w3).step e4 w4).wrD (.inr rfl) nd h0 hs, ?_⟩
      intro z o g nz
      rw [upd_ne fun w => nz (.inr w)]
      exact e4 _ _ (e3 _ _ (hE _ _ g nz) fun w => nz (.inl w)) fun w => nz (.inl w)
theorem rd_lcZ {K0 : PySem.W.Frag} {tl : DTA} {tt : DTB} {tb : DT} {i j : Nat} : RdE (tLc (RZ.iZipA K0 (cA tl)) (gTup K0 2 (gAll [i, j])) (cT tt) (cE tb) [i, j]) (dLcZ i j tl tt tb) := fun c M σ H env n R S q => by
  obtain ⟨hij, q⟩ := q
  refine goA S q fun vs H1 xs n1 e1 w1 m1 q1 => ?_
  split at q1
  · rename_i ds es
    obtain ⟨hlen, I, i0, iS, iE⟩ := q1
    cases m1 with
    | cons ma mb =>
      cases mb with
      | cons mb mc =>
        cases mc
        rename_i va vb
        have ma' : Dm M H1 va (.list ds) := ma
        have mb' : Dm M H1 vb (.list es) := mb
        cases ma' with
        | lst hm ha hd =>
          cases mb' with
          | lst hm2 ha2 hd2 =>
            rename_i p xs p2 ys
            have S1 := S.step e1 w1
            refine ⟨p, p2, xs, ys, rfl, .inl ⟨SqL.of ha, SqL.of ha2, fun D hD => ?_⟩⟩
            have nd : ¬ dr c.ω D := fun z => w1.dom z hD
            have h0 : c.H0 D = none := by
              cases y : c.H0 D with
              | none => rfl
              | some o => rw [S1.keep D o y nd] at hD; cases hD
            have hs := slots_ne S1 hD
            have keep : ∀ {k H}, LcP c M σ env D H1 I k H → (H p = some (.lst xs) ∧ DmA (fun a => M a ∨ a = D) H xs ds) ∧ (H p2 = some (.lst ys) ∧ DmA (fun a => M a ∨ a = D) H ys es) := fun {k H} P => by
              obtain ⟨_, _, _, _, _, _, _, S', hE⟩ := P
              have x1 : Ext (fun a => M a ∨ a = D) H1 H := hE.weak fun a z => z.imp (S1.dM a) id
              exact ⟨⟨x1 _ _ ha fun z => z.elim hm (ne_of_none ha hD), (DmA.more hD hd).mono x1⟩, ⟨x1 _ _ ha2 fun z => z.elim hm2 (ne_of_none ha2 hD), (DmA.more hD hd2).mono x1⟩⟩
            refine lc_zip (K := K0) (a := p) (b := p2) (xs := xs) (ys := ys) (LcP c M σ env D H1 I) ⟨[], [], n1, upd_same, .nil, Nat.le_refl _, i0, S1.fresh hD, Ext.new hD⟩ (fun k H' P => ⟨SqL.of (keep P).1.1, SqL.of (keep P).2.1⟩) (fun k x y T H' hx hy P hT => ?_) fun H' P => ?_
            · obtain ⟨d, hd1, hd3⟩ := (keep P).1.2.getV hx
              obtain ⟨e, he1, he3⟩ := (keep P).2.2.getV hy
              have hk : k < ds.length := by
                obtain ⟨z, _⟩ := List.getElem?_eq_some_iff.1 hd1
                exact z
              exact lc_step2 (d := .dat d) (e := .dat e) hij hT nd h0 hs (by omega) P hd3 he3 (iS k d e hd1 he1)
            · rw [hd.length, hd2.length] at P
              exact lc_end S1 hD e1 P iE
  · exact q1.elim
theorem fe_lcZ {X : Cx} {e : Expr} {tl : DTA} {tt : DTB} {tb : DT} {i j : Nat} (h : PE X e (tLc (RZ.iZipA X.K (cA tl)) (gTup X.K 2 (gAll [i, j])) (cT tt) (cE tb) [i, j])) : FE X e (dLcZ i j tl tt tb) := FE.of h fun c M σ H env n R S q => rd_lcZ (K0 := X.K) c M σ H env n R S q
end Sx

set_option Elab.async false
set_option linter.all false
set_option maxRecDepth 100000
set_option maxHeartbeats 2000000
/-! Sx18: one own list beside something else; is not True; max -/
namespace Sx
open PySem L2
theorem Sta.fresh_own {c : Cw} {M : Addr → Prop} {σ : St} {H H3 : Hp} {env : En} {n n3 : Nat} (S : Sta c M σ H env n) {p : Addr} (hp : H p = none) (i : Nat)
    (e3 : Ext (dr c.ω) (upd H p (.lst [])) H3) (w3 : WR c.ω n3 H3) : Sta c (fun a => M a ∨ a = p) (σ.set i (some (.ref p))) H3 (env.set i (some (.own []))) n3 := by
  have S2 := (S.fresh (o := .lst []) hp).step e3 w3
  have nd : ¬ dr c.ω p := fun z => S.wr.dom z hp
  have h0 : c.H0 p = none := by
    cases y : c.H0 p with
    | none => rfl
    | some o => rw [S.keep p o y nd] at hp; cases hp
  have m0 : ¬ c.M0 p := fun z => S.dom p (S.m0 p z) hp
  exact S2.setOwn i (p := p) (vs := []) (ds := []) (.inr rfl) m0 h0 (e3 _ _ upd_same nd) .nil (slots_ne S hp)
section
variable {X : Cx} {ta : DT} {st : Stmt}
/-- x, y = [], e -/
def dParOD (i j : Nat) (ta : DT) : DTS := fun F env n => ta env n fun d n1 => F.nx ((env.set i (some (.own []))).set j (some d)) n1
theorem fs_parOD {i j : Nat} (h : PS X st (tPar i j (tCons (tLst tNil) (tCons (cE ta) tNil)))) : FS X st (dParOD i j ta) := FS.of h fun c M σ H env n F E S q k => by
  refine ⟨Nat.zero_le _, fun p hp => ?_⟩
  refine goE (S.fresh (o := .lst []) hp) q fun v H3 d n3 e3 w3 m3 q3 => ⟨_, _, rfl, ?_⟩
  exact k.nx _ _ _ _ n3 ((S.fresh_own hp i e3 w3).set j m3) q3
/-- x, y = e, [] -/
def dParDO (i j : Nat) (ta : DT) : DTS := fun F env n => ta env n fun d n1 => F.nx ((env.set i (some d)).set j (some (.own []))) n1
theorem fs_parDO {i j : Nat} (h : PS X st (tPar i j (tCons (cE ta) (tCons (tLst tNil) tNil)))) : FS X st (dParDO i j ta) := FS.of h fun c M σ H env n F E S q k =>
  goE S q fun v H1 d n1 e1 w1 m1 q1 => by
    refine ⟨Nat.zero_le _, fun p hp => ⟨_, _, rfl, ?_⟩⟩
    exact k.nx _ _ _ _ n1 (((S.step e1 w1).set i m1).fresh_own hp j (Ext.rfl' _) (w1.new hp)) q1
end
def oNotB : DO2 := fun x y R => match x, y with
  | .dat (.bool a), .dat (.bool b) => R (BV (!decide (a = b)))
  | _, _ => False
theorem ok_notB : OkO (fun x y H Q => ∃ a b, x = V.bl a ∧ y = V.bl b ∧ Q (.bl (!decide (a = b))) H) oNotB := fun c M H x y d f n R Q hd hr w hx hy h k => by
  unfold oNotB at h
  split at h
  · cases hx
    cases hy
    exact ⟨_, _, rfl, rfl, k _ H (BV _) (Ext.rfl' H) w (Dm.bl _) h⟩
  · exact h.elim
def oMax : DOC := fun xs R => match xs with
  | [.dat (.list ds)] => ∃ (ns : List Int) (m : Int), ds = ns.map .int ∧ m ∈ ns ∧ (∀ y, y ∈ ns → y ≤ m) ∧ R (IV m)
  | _ => False
theorem ok_max (K : PySem.W.Frag) : OkC (rMax K) oMax := fun c M H vs ds n R Q hd hr w m h k => by
  unfold oMax at h
  split at h
  · cases m with
    | cons m1 m2 =>
      cases m2
      obtain ⟨ns, x, rfl, hx, hy, h⟩ := h
      cases m1 with
      | lst hm ha hds => exact ⟨_, ns, rfl, SqL.of (by rw [ints_of hds] at ha; exact ha), List.length_pos_of_mem hx, fun m' h1 h2 => by
          have e : m' = x := Int.le_antisymm (hy m' h1) (h2 x hx)
          subst e
          exact k _ H (IV _) (Ext.rfl' H) w (Dm.int _) h⟩
  · exact h.elim
def oMinL : DOC := fun xs R => match xs with
  | [.dat (.list ds)] => ∃ (ns : List Int) (m : Int), ds = ns.map .int ∧ m ∈ ns ∧ (∀ y, y ∈ ns → m ≤ y) ∧ R (IV m)
  | _ => False
theorem ok_minL (K : PySem.W.Frag) : OkC (rMin K) oMinL := fun c M H vs ds n R Q hd hr w m h k => by
  unfold oMinL at h
  split at h
  · cases m with
    | cons m1 m2 =>
      cases m2
      obtain ⟨ns, x, rfl, hx, hy, h⟩ := h
      cases m1 with
      | lst hm ha hds => exact ⟨_, ns, rfl, SqL.of (by rw [ints_of hds] at ha; exact ha), List.length_pos_of_mem hx, fun m' h1 h2 => by
          have e : m' = x := Int.le_antisymm (h2 x hx) (hy m' h1)
          subst e
          exact k _ H (IV _) (Ext.rfl' H) w (Dm.int _) h⟩
  · exact h.elim
end Sx

set_option Elab.async false
set_option linter.all false
set_option maxRecDepth 100000
set_option maxHeartbeats 2000000
/-! Sx19: enumerate over a list of data: in a comprehension, in a loop -/
namespace Sx
open PySem L2
theorem lc_enum {K : PySem.W.Frag} {a : Addr} {xs : List V} {g : TG} {tt : TT} {te : TE} {vs : List Nat} {σ : St} {H1 : Hp} {D : Addr} {Qd : Hp → Prop} (Pv : Nat → Hp → Prop) (h0 : Pv 0 (upd H1 D (.lst []))) (hl : ∀ i H, Pv i H → SqL K H a xs)
    (hs : ∀ (i : Nat) x T H, xs[i]? = some x → Pv i H → H T = none → g (.ref T) (wipe σ vs) (upd H T (.tup [.int (i : Nat), x])) fun σ2 H2 => wipe σ2 vs = wipe σ vs ∧ tt σ2 H2 fun b H3 =>
      if b = true then te σ2 H3 fun y H4 => ∃ acc, H4 D = some (.lst acc) ∧ acc.length < sizeLine ∧ Pv (i + 1) (upd H4 D (.lst (acc ++ [y]))) else Pv (i + 1) H3) (hd : ∀ H, Pv xs.length H → Qd H) :
    ∃ W : Nat → Nat → Hp → Prop, (∃ m, W 0 m (upd H1 D (.lst []))) ∧ ∀ i m H, W i m H →
      ((Ite K a).stop i H ∧ Qd H) ∨ ((Ite K a).go i H ∧ ∃ Nx : Hp → Prop, (∀ H', Nx H' → ∃ m', m' < m ∧ W (i + 1) m' H') ∧ ∀ x H', (Ite K a).yld i H x H' → g x (wipe σ vs) H' fun σ2 H2 => wipe σ2 vs = wipe σ vs ∧ tt σ2 H2 fun b H3 =>
        if b = true then te σ2 H3 fun y H4 => ∃ acc, H4 D = some (.lst acc) ∧ acc.length < sizeLine ∧ Nx (upd H4 D (.lst (acc ++ [y]))) else Nx H3) := by
  refine ⟨fun i m H => m = xs.length - i ∧ i ≤ xs.length ∧ Pv i H, ⟨xs.length, by simp, Nat.zero_le _, h0⟩, ?_⟩
  rintro i m H ⟨rfl, hi, p⟩
  have qx := hl i H p
  by_cases hlt : i < xs.length
  · have hx : xs[i]? = some xs[i] := List.getElem?_eq_getElem hlt
    refine .inr ⟨⟨xs, _, qx, hx⟩, Pv (i + 1), fun H' p' => ⟨xs.length - (i + 1), by omega, rfl, by omega, p'⟩, fun v H' y => ?_⟩
    obtain ⟨T, x', rfl, hT, rfl, f1⟩ := y
    exact hs i x' T H (f1 xs qx) p hT
  · have e : i = xs.length := by omega
    subst e
    exact .inl ⟨⟨xs, qx, Nat.le_refl _⟩, hd H p⟩
theorem for_enumD {K : PySem.W.Frag} {a : Addr} {xs : List V} {g : TG} {tb : TS} {D : Ends} {σ : St} {H : Hp} (Pv : Nat → St → Hp → Prop) (h0 : Pv 0 σ H) (hq : ∀ i σ H, Pv i σ H → SqL K H a xs)
    (hs : ∀ (i : Nat) (x : V) (T : Addr) (σ : St) (H : Hp), xs[i]? = some x → Pv i σ H → H T = none → g (.ref T) σ (upd H T (.tup [.int (i : Nat), x])) fun σ2 H2 => tb { D with nx := Pv (i + 1), ct := Pv (i + 1), bk := D.nx } σ2 H2) (hd : ∀ σ H, Pv xs.length σ H → D.nx σ H) :
    ∃ W : Nat → Nat → St → Hp → Prop, (∃ m, W 0 m σ H) ∧ ∀ i m σ H, W i m σ H →
      ((Ite K a).stop i H ∧ D.nx σ H) ∨ ((Ite K a).go i H ∧ ∃ N : St → Hp → Prop, (∀ σ' H', N σ' H' → ∃ m', m' < m ∧ W (i + 1) m' σ' H') ∧ ∀ v H', (Ite K a).yld i H v H' → g v σ H' fun σ2 H2 => tb { D with nx := N, ct := N, bk := D.nx } σ2 H2) := by
  refine ⟨fun i m σ H => m = xs.length - i ∧ i ≤ xs.length ∧ Pv i σ H, ⟨xs.length, rfl, Nat.zero_le _, h0⟩, ?_⟩
  rintro i m σ H ⟨rfl, hi, p⟩
  have qx := hq i σ H p
  by_cases hlt : i < xs.length
  · have hx : xs[i]? = some xs[i] := List.getElem?_eq_getElem hlt
    refine .inr ⟨⟨xs, _, qx, hx⟩, Pv (i + 1), fun σ' H' p' => ⟨xs.length - (i + 1), by omega, rfl, hlt, p'⟩, fun v H' y => ?_⟩
    obtain ⟨T, x', rfl, hT, rfl, f1⟩ := y
    exact hs i x' T σ H (f1 xs qx) p hT
  · have e : i = xs.length := by omega
    subst e
    exact .inl ⟨⟨xs, qx, Nat.le_refl _⟩, hd σ H p⟩
/-- [tb for i, j in enumerate(ta) if tt] -/
def dLcE (i j : Nat) (tl : DTA) (tt : DTB) (tb : DT) : DT := fun env n R => i ≠ j ∧ tl env n fun xs n1 => match xs with
  | [.dat (.list ds)] => ds.length ≤ 1000 ∧ ∃ I : Nat → List PyData → Nat → Prop, I 0 [] n1 ∧
      (∀ (k : Nat) d, ds[k]? = some d → dLcStep (I k) (I (k + 1)) tt tb ((env.set i (some (IV (k : Int)))).set j (some (.dat d)))) ∧ (∀ acc m, I ds.length acc m → R (LV acc) m)
  | _ => False
/-- for i, j in enumerate(ta): tb -/
def dForE (i j : Nat) (tl : DTA) (tb : DTS) : DTS := fun F env n => tl env n fun xs n1 => match xs with
  | [.dat (.list ds)] => ∃ I : Nat → En → Nat → Prop, I 0 env n1 ∧
      (∀ (k : Nat) d env n, ds[k]? = some d → I k env n → tb { F with nx := I (k + 1), ct := I (k + 1), bk := F.nx } ((env.set i (some (IV (k : Int)))).set j (some (.dat d))) n) ∧ (∀ env n, I ds.length env n → F.nx env n)
  | _ => False
section
variable {X : Cx} {e : Expr} {tl : DTA} {tt : DTB} {tb : DT} {ts : DTS}
theorem rd_lcE {K0 : PySem.W.Frag} {i j : Nat} : RdE (tLc (iEnum K0 (cA tl)) (gTup K0 2 (gAll [i, j])) (cT tt) (cE tb) [i, j]) (dLcE i j tl tt tb) := fun c M σ H env n R S q => by
  obtain ⟨hij, q⟩ := q
  refine goA S q fun vs H1 xs n1 e1 w1 m1 q1 => ?_
  split at q1
  · rename_i ds
    obtain ⟨hlen, I, i0, iS, iE⟩ := q1
    cases m1 with
    | cons ma mb =>
      cases mb
      rename_i va
      have ma' : Dm M H1 va (.list ds) := ma
      cases ma' with
      | lst hm ha hd =>
        rename_i p xs
        have S1 := S.step e1 w1
        refine ⟨p, xs, rfl, SqL.of ha, fun D hD => ?_⟩
        have nd : ¬ dr c.ω D := fun z => w1.dom z hD
        have h0 : c.H0 D = none := by
          cases y : c.H0 D with
          | none => rfl
          | some o => rw [S1.keep D o y nd] at hD; cases hD
        have hs := slots_ne S1 hD
        have keep : ∀ {k H}, LcP c M σ env D H1 I k H → H p = some (.lst xs) ∧ DmA (fun a => M a ∨ a = D) H xs ds := fun {k H} P => by
          obtain ⟨_, _, _, _, _, _, _, S', hE⟩ := P
          have x1 : Ext (fun a => M a ∨ a = D) H1 H := hE.weak fun a z => z.imp (S1.dM a) id
          exact ⟨x1 _ _ ha fun z => z.elim hm (ne_of_none ha hD), (DmA.more hD hd).mono x1⟩
        refine lc_enum (K := K0) (a := p) (xs := xs) (LcP c M σ env D H1 I) ⟨[], [], n1, upd_same, .nil, Nat.le_refl _, i0, S1.fresh hD, Ext.new hD⟩ (fun k H' P => SqL.of (keep P).1) (fun k x T H' hx P hT => ?_) fun H' P => ?_
        · obtain ⟨d, hd1, hd3⟩ := (keep P).2.getV hx
          have hk : k < ds.length := by
            obtain ⟨z, _⟩ := List.getElem?_eq_some_iff.1 hd1
            exact z
          exact lc_step2 (d := IV (k : Int)) (e := .dat d) hij hT nd h0 hs (by omega) P (Dm.int _) hd3 (iS k d hd1)
        · rw [hd.length] at P
          exact lc_end S1 hD e1 P iE
  · exact q1.elim
theorem fe_lcE {i j : Nat} (h : PE X e (tLc (iEnum X.K (cA tl)) (gTup X.K 2 (gAll [i, j])) (cT tt) (cE tb) [i, j])) : FE X e (dLcE i j tl tt tb) := FE.of h fun c M σ H env n R S q => rd_lcE (K0 := X.K) c M σ H env n R S q
theorem fs_forE {i j : Nat} {st : Stmt} (h : PS X st (tFor (iEnum X.K (cA tl)) (gTup X.K 2 (gAll [i, j])) (cS ts))) : FS X st (dForE i j tl ts) := FS.of h fun c M σ H env n F E S q k => by
  refine goA S q fun vs H1 xs n1 e1 w1 m1 q1 => ?_
  split at q1
  · rename_i ds
    obtain ⟨I, i0, iS, iE⟩ := q1
    cases m1 with
    | cons ma mb =>
      cases mb
      rename_i va
      have ma' : Dm M H1 va (.list ds) := ma
      cases ma' with
      | lst hm ha hd =>
        rename_i p xs
        obtain ⟨c', hc'⟩ : ∃ c', c' = c.hold (.ref p, .list ds) (p, .lst xs) := ⟨_, rfl⟩
        have S1 : Sta c' M σ H1 env n1 := hc' ▸ (S.step e1 w1).hold (Dm.lst hm ha hd) ⟨hm, ha⟩
        have back : ∀ {M' σ' H' env' n'}, Sta c' M' σ' H' env' n' → H' p = some (.lst xs) ∧ DmA M' H' xs ds := fun S' => by
          subst hc'
          have z := S'.gh (.ref p, .list ds) List.mem_cons_self
          have z2 := (S'.gr (p, .lst xs) List.mem_cons_self).2
          cases z with
          | lst _ y2 y3 =>
            have y4 := y2.symm.trans z2
            cases y4
            exact ⟨y2, y3⟩
        have out : ∀ {M' σ' H' env' n'}, Sta c' M' σ' H' env' n' → Sta c M' σ' H' env' n' := fun S' => by
          subst hc'
          exact S'.drop
        have ω' : c'.ω = c.ω := by rw [hc']; rfl
        have h0' : c'.H0 = c.H0 := by rw [hc']; rfl
        have m0' : c'.M0 = c.M0 := by rw [hc']; rfl
        refine ⟨p, xs, rfl, SqL.of ha, for_enumD (K := X.K) (a := p) (xs := xs) (fun k σ H => ∃ M env n, Sta c' M σ H env n ∧ I k env n) ⟨M, env, n1, S1, i0⟩ ?_ ?_ ?_⟩
        · rintro k' σ' H' ⟨_, _, _, z, _⟩
          exact SqL.of (back z).1
        · rintro k' x T σ' H' hx ⟨M', env', n', S', q'⟩ hT
          obtain ⟨d, hd1, hd2⟩ := (back S').2.getV hx
          have z := iS k' d env' n' hd1 q'
          have eX : Ext (dr c'.ω) H' (upd H' T (.tup [.int (k' : Nat), x])) := Ext.new hT
          have S2 := S'.step eX (S'.wr.new hT)
          have hd3 := hd2.mono (eX.weak S'.dM)
          refine ⟨T, _, rfl, SqT.of upd_same, rfl, _, _, rfl, _, _, rfl, rfl, ?_⟩
          exact goS ((S2.set i (d := IV (k' : Int)) (Dm.int _)).set j (d := .dat d) hd3) z ⟨fun M2 σ2 H2 env2 n2 S2 h2 => ⟨M2, env2, n2, S2, h2⟩, fun M2 σ2 H2 env2 n2 S2 h2 => k.nx M2 σ2 H2 env2 n2 (out S2) h2, fun M2 σ2 H2 env2 n2 S2 h2 => ⟨M2, env2, n2, S2, h2⟩, by rw [ω', h0', m0']; exact k.rt⟩
        · rintro σ' H' ⟨M', env', n', S', q'⟩
          rw [hd.length] at q'
          exact k.nx M' σ' H' env' n' (out S') (iE env' n' q')
  · exact q1.elim
end
end Sx

set_option Elab.async false
set_option linter.all false
set_option maxRecDepth 100000
set_option maxHeartbeats 2000000
/-! Sx20: comprehensions over a list of pairs, of triples -/
namespace Sx
open PySem L2
theorem lc_tail {c : Cw} {M : Addr → Prop} {σ σ2 : St} {env env2 : En} {D : Addr} {H1 : Hp} {I : Nat → List PyData → Nat → Prop} {k m : Nat} {H : Hp} {tt : DTB} {tb : DT} {acc : List PyData} {accv : List V}
    (nd : ¬ dr c.ω D) (h0 : c.H0 D = none) (hs : ∀ (j : Nat) (xs : List PyData), env[j]? = some (some (DV.own xs)) → σ[j]? ≠ some (some (V.ref D))) (hk : k < 1000)
    (hD : H D = some (.lst accv)) (ha : DmA (fun a => M a ∨ a = D) H accv acc) (hl : acc.length ≤ k) (hi : I k acc m) (S : Sta c (fun a => M a ∨ a = D) σ H env m) (hE : Ext (fun a => dr c.ω a ∨ a = D) H1 H)
    (S2 : Sta c (fun a => M a ∨ a = D) σ2 H env2 m) (q : dLcStep (I k) (I (k + 1)) tt tb env2) :
    cT tt σ2 H fun b H3 => if b = true then cE tb σ2 H3 fun y H4 => ∃ acc, H4 D = some (.lst acc) ∧ acc.length < sizeLine ∧ LcP c M σ env D H1 I (k + 1) (upd H4 D (.lst (acc ++ [y]))) else LcP c M σ env D H1 I (k + 1) H3 := by
  refine goT S2 (q acc m hi) fun b H3 n3 e3 w3 q3 => ?_
  have D3 : H3 D = some (.lst accv) := e3 _ _ hD nd
  have dM : ∀ a, dr c.ω a → M a ∨ a = D := fun a ha => S.dM a ha
  cases b with
  | false =>
    rw [if_neg Bool.false_ne_true] at q3 ⊢
    exact ⟨acc, accv, n3, D3, ha.mono (e3.weak dM), by omega, q3, S.step e3 w3, hE.trans (e3.weak fun a h => .inl h)⟩
  | true =>
    rw [if_pos rfl] at q3 ⊢
    refine goE (S2.step e3 w3) q3 fun y H4 yd n4 e4 w4 m4 q4 => ?_
    have D4 : H4 D = some (.lst accv) := e4 _ _ D3 nd
    cases yd with
    | draws => exact q4.elim
    | own ds => exact q4.elim
    | dat yd =>
      have em : Ext (fun a => M a ∨ a = D) H4 (upd H4 D (.lst (accv ++ [y]))) := fun z o g nz => by
        rw [upd_ne fun w => nz (.inr w)]; exact g
      have a4 := ha.mono ((e3.trans e4).weak dM)
      refine ⟨accv, D4, by rw [a4.length]; exact Nat.lt_of_le_of_lt hl (Nat.lt_of_lt_of_le hk (by decide)), acc ++ [yd], accv ++ [y], n4, upd_same, (a4.mono em).append (.cons (Dm.mono em m4) .nil), by rw [List.length_append]; exact Nat.succ_le_succ hl, q4, ((S.step e3 w3).step e4 w4).wrD (.inr rfl) nd h0 hs, ?_⟩
      intro z o g nz
      rw [upd_ne fun w => nz (.inr w)]
      exact e4 _ _ (e3 _ _ (hE _ _ g nz) fun w => nz (.inl w)) fun w => nz (.inl w)
theorem wipe_three {σ : St} {i j l : Nat} (h1 : i ≠ j) (h2 : i ≠ l) (h3 : j ≠ l) (x y z : Option V) : wipe (((σ.set i x).set j y).set l z) [i, j, l] = wipe σ [i, j, l] := by
  show (((((σ.set i x).set j y).set l z).set l none).set j none).set i none = ((σ.set l none).set j none).set i none
  rw [List.set_set, List.set_comm (i := j) (j := l) _ _ h3, List.set_set, List.set_comm (i := i) (j := l) _ _ h2, List.set_comm (i := i) (j := j) _ _ h1, List.set_set]
theorem wiped_three {σ : St} {i j l : Nat} (h1 : i ≠ j) (h2 : i ≠ l) (h3 : j ≠ l) (x y z : Option V) : (((wipe σ [i, j, l]).set i x).set j y).set l z = ((σ.set i x).set j y).set l z := by
  show ((((((σ.set l none).set j none).set i none).set i x).set j y).set l z) = _
  rw [List.set_set, List.set_comm (i := j) (j := i) _ _ (Ne.symm h1), List.set_set, List.set_comm (i := l) (j := i) _ _ (Ne.symm h2), List.set_comm (i := l) (j := j) _ _ (Ne.symm h3), List.set_set]
theorem lc_stepU2 {c : Cw} {M : Addr → Prop} {σ : St} {env : En} {D : Addr} {H1 : Hp} {I : Nat → List PyData → Nat → Prop} {k i j : Nat} {H : Hp} {v : V} {d e : PyData} {K : PySem.W.Frag} {tt : DTB} {tb : DT}
    (hij : i ≠ j) (nd : ¬ dr c.ω D) (h0 : c.H0 D = none) (hs : ∀ (j : Nat) (xs : List PyData), env[j]? = some (some (DV.own xs)) → σ[j]? ≠ some (some (V.ref D))) (hk : k < 1000)
    (P : LcP c M σ env D H1 I k H) (hv : Dm (fun a => M a ∨ a = D) H v (.tuple [d, e])) (q : dLcStep (I k) (I (k + 1)) tt tb ((env.set i (some (.dat d))).set j (some (.dat e)))) :
    gTup K 2 (gAll [i, j]) v (wipe σ [i, j]) H fun σ2 H2 => wipe σ2 [i, j] = wipe σ [i, j] ∧ cT tt σ2 H2 fun b H3 =>
      if b = true then cE tb σ2 H3 fun y H4 => ∃ acc, H4 D = some (.lst acc) ∧ acc.length < sizeLine ∧ LcP c M σ env D H1 I (k + 1) (upd H4 D (.lst (acc ++ [y]))) else LcP c M σ env D H1 I (k + 1) H3 := by
  obtain ⟨acc, accv, m, hD, ha, hl, hi, S, hE⟩ := P
  cases hv with
  | tup hm hx hd =>
    rename_i p xs
    cases hd with
    | cons hd1 t1 =>
      cases t1 with
      | cons hd2 t2 =>
        cases t2
        rename_i x y
        refine ⟨p, _, rfl, SqT.of hx, rfl, _, _, rfl, _, _, rfl, rfl, ?_⟩
        have ew : ((wipe σ [i, j]).set i (some x)).set j (some y) = (σ.set i (some x)).set j (some y) := by
          show (((σ.set j none).set i none).set i (some x)).set j (some y) = _
          rw [List.set_set, List.set_comm _ _ (Ne.symm hij), List.set_set]
        rw [ew]
        refine ⟨wipe_two hij _ _, ?_⟩
        exact lc_tail nd h0 hs hk hD ha hl hi S hE ((S.set i (d := .dat d) hd1).set j (d := .dat e) hd2) q
theorem lc_stepU3 {c : Cw} {M : Addr → Prop} {σ : St} {env : En} {D : Addr} {H1 : Hp} {I : Nat → List PyData → Nat → Prop} {k i j l : Nat} {H : Hp} {v : V} {d e f : PyData} {K : PySem.W.Frag} {tt : DTB} {tb : DT}
    (hij : i ≠ j) (hil : i ≠ l) (hjl : j ≠ l) (nd : ¬ dr c.ω D) (h0 : c.H0 D = none) (hs : ∀ (j : Nat) (xs : List PyData), env[j]? = some (some (DV.own xs)) → σ[j]? ≠ some (some (V.ref D))) (hk : k < 1000)
    (P : LcP c M σ env D H1 I k H) (hv : Dm (fun a => M a ∨ a = D) H v (.tuple [d, e, f])) (q : dLcStep (I k) (I (k + 1)) tt tb (((env.set i (some (.dat d))).set j (some (.dat e))).set l (some (.dat f)))) :
    gTup K 3 (gAll [i, j, l]) v (wipe σ [i, j, l]) H fun σ2 H2 => wipe σ2 [i, j, l] = wipe σ [i, j, l] ∧ cT tt σ2 H2 fun b H3 =>
      if b = true then cE tb σ2 H3 fun y H4 => ∃ acc, H4 D = some (.lst acc) ∧ acc.length < sizeLine ∧ LcP c M σ env D H1 I (k + 1) (upd H4 D (.lst (acc ++ [y]))) else LcP c M σ env D H1 I (k + 1) H3 := by
  obtain ⟨acc, accv, m, hD, ha, hl, hi, S, hE⟩ := P
  cases hv with
  | tup hm hx hd =>
    rename_i p xs
    cases hd with
    | cons hd1 t1 =>
      cases t1 with
      | cons hd2 t2 =>
        cases t2 with
        | cons hd3 t3 =>
          cases t3
          rename_i x y z
          refine ⟨p, _, rfl, SqT.of hx, rfl, _, _, rfl, _, _, rfl, _, _, rfl, rfl, ?_⟩
          rw [wiped_three hij hil hjl]
          refine ⟨wipe_three hij hil hjl _ _ _, ?_⟩
          exact lc_tail nd h0 hs hk hD ha hl hi S hE (((S.set i (d := .dat d) hd1).set j (d := .dat e) hd2).set l (d := .dat f) hd3) q
/-- [tb for i, j in ta if tt], ta a list (k = true), a tuple (k = false) of pairs -/
def dLcU2 (isL : Bool) (i j : Nat) (ta : DT) (tt : DTB) (tb : DT) : DT := fun env n R => i ≠ j ∧ ta env n fun d n1 => ∃ ds, d = (if isL = true then LV ds else TV ds) ∧ ds.length ≤ 1000 ∧ ∃ I : Nat → List PyData → Nat → Prop, I 0 [] n1 ∧
      (∀ k d, ds[k]? = some d → ∃ x y, d = .tuple [x, y] ∧ dLcStep (I k) (I (k + 1)) tt tb ((env.set i (some (.dat x))).set j (some (.dat y)))) ∧ (∀ acc m, I ds.length acc m → R (LV acc) m)
def dLcU3 (isL : Bool) (i j l : Nat) (ta : DT) (tt : DTB) (tb : DT) : DT := fun env n R => (i ≠ j ∧ i ≠ l ∧ j ≠ l) ∧ ta env n fun d n1 => ∃ ds, d = (if isL = true then LV ds else TV ds) ∧ ds.length ≤ 1000 ∧ ∃ I : Nat → List PyData → Nat → Prop, I 0 [] n1 ∧
      (∀ k d, ds[k]? = some d → ∃ x y z, d = .tuple [x, y, z] ∧ dLcStep (I k) (I (k + 1)) tt tb (((env.set i (some (.dat x))).set j (some (.dat y))).set l (some (.dat z)))) ∧ (∀ acc m, I ds.length acc m → R (LV acc) m)
section
variable {X : Cx} {e : Expr} {ta : DT} {tt : DTB} {tb : DT}
theorem rd_lcU2L {K0 : PySem.W.Frag} {i j : Nat} : RdE (tLc (iList K0 (cE ta)) (gTup K0 2 (gAll [i, j])) (cT tt) (cE tb) [i, j]) (dLcU2 true i j ta tt tb) := fun c M σ H env n R S q => by
  obtain ⟨hij, q⟩ := q
  refine goE S q fun v H1 d n1 e1 w1 m1 q1 => ?_
  obtain ⟨ds, rfl, hlen, I, i0, iS, iE⟩ := q1
  have m1' : Dm M H1 v (.list ds) := m1
  cases m1' with
  | lst hm ha hd =>
    rename_i p xs
    have S1 := S.step e1 w1
    refine ⟨p, rfl, ⟨xs, SqL.of ha⟩, fun D hD => ?_⟩
    have nd : ¬ dr c.ω D := fun z => w1.dom z hD
    have h0 : c.H0 D = none := by
      cases y : c.H0 D with
      | none => rfl
      | some o => rw [S1.keep D o y nd] at hD; cases hD
    have hs := slots_ne S1 hD
    have keep : ∀ {k H}, LcP c M σ env D H1 I k H → H p = some (.lst xs) ∧ DmA (fun a => M a ∨ a = D) H xs ds := fun {k H} P => by
      obtain ⟨_, _, _, _, _, _, _, S', hE⟩ := P
      have x1 : Ext (fun a => M a ∨ a = D) H1 H := hE.weak fun a z => z.imp (S1.dM a) id
      exact ⟨x1 _ _ ha fun z => z.elim hm (ne_of_none ha hD), (DmA.more hD hd).mono x1⟩
    refine lc_list (K := K0) (a := p) (xs := xs) (LcP c M σ env D H1 I) ⟨[], [], n1, upd_same, .nil, Nat.le_refl _, i0, S1.fresh hD, Ext.new hD⟩ (fun k H' _ P => SqL.of (keep P).1) (fun k x H' hx P => ?_) fun H' P => ?_
    · obtain ⟨d, hd1, hd2⟩ := (keep P).2.getV hx
      have hk : k < ds.length := by
        obtain ⟨z, _⟩ := List.getElem?_eq_some_iff.1 hd1
        exact z
      obtain ⟨dx, dy, rfl, q2⟩ := iS k d hd1
      exact lc_stepU2 hij nd h0 hs (by omega) P hd2 q2
    · rw [hd.length] at P
      exact lc_end S1 hD e1 P iE
theorem fe_lcU2L {i j : Nat} (h : PE X e (tLc (iList X.K (cE ta)) (gTup X.K 2 (gAll [i, j])) (cT tt) (cE tb) [i, j])) : FE X e (dLcU2 true i j ta tt tb) := FE.of h fun c M σ H env n R S q => rd_lcU2L (K0 := X.K) c M σ H env n R S q
theorem rd_lcU3L {K0 : PySem.W.Frag} {i j l : Nat} : RdE (tLc (iList K0 (cE ta)) (gTup K0 3 (gAll [i, j, l])) (cT tt) (cE tb) [i, j, l]) (dLcU3 true i j l ta tt tb) := fun c M σ H env n R S q => by
  obtain ⟨⟨hij, hil, hjl⟩, q⟩ := q
  refine goE S q fun v H1 d n1 e1 w1 m1 q1 => ?_
  obtain ⟨ds, rfl, hlen, I, i0, iS, iE⟩ := q1
  have m1' : Dm M H1 v (.list ds) := m1
  cases m1' with
  | lst hm ha hd =>
    rename_i p xs
    have S1 := S.step e1 w1
    refine ⟨p, rfl, ⟨xs, SqL.of ha⟩, fun D hD => ?_⟩
    have nd : ¬ dr c.ω D := fun z => w1.dom z hD
    have h0 : c.H0 D = none := by
      cases y : c.H0 D with
      | none => rfl
      | some o => rw [S1.keep D o y nd] at hD; cases hD
    have hs := slots_ne S1 hD
    have keep : ∀ {k H}, LcP c M σ env D H1 I k H → H p = some (.lst xs) ∧ DmA (fun a => M a ∨ a = D) H xs ds := fun {k H} P => by
      obtain ⟨_, _, _, _, _, _, _, S', hE⟩ := P
      have x1 : Ext (fun a => M a ∨ a = D) H1 H := hE.weak fun a z => z.imp (S1.dM a) id
      exact ⟨x1 _ _ ha fun z => z.elim hm (ne_of_none ha hD), (DmA.more hD hd).mono x1⟩
    refine lc_list (K := K0) (a := p) (xs := xs) (LcP c M σ env D H1 I) ⟨[], [], n1, upd_same, .nil, Nat.le_refl _, i0, S1.fresh hD, Ext.new hD⟩ (fun k H' _ P => SqL.of (keep P).1) (fun k x H' hx P => ?_) fun H' P => ?_
    · obtain ⟨d, hd1, hd2⟩ := (keep P).2.getV hx
      have hk : k < ds.length := by
        obtain ⟨z, _⟩ := List.getElem?_eq_some_iff.1 hd1
        exact z
      obtain ⟨dx, dy, dz, rfl, q2⟩ := iS k d hd1
      exact lc_stepU3 hij hil hjl nd h0 hs (by omega) P hd2 q2
    · rw [hd.length] at P
      exact lc_end S1 hD e1 P iE
theorem fe_lcU3L {i j l : Nat} (h : PE X e (tLc (iList X.K (cE ta)) (gTup X.K 3 (gAll [i, j, l])) (cT tt) (cE tb) [i, j, l])) : FE X e (dLcU3 true i j l ta tt tb) := FE.of h fun c M σ H env n R S q => rd_lcU3L (K0 := X.K) c M σ H env n R S q
end
end Sx

set_option Elab.async false
set_option linter.all false
set_option maxRecDepth 100000
set_option maxHeartbeats 2000000
/-! Sx21: keywords in other orders; isinstance that is so; lcm of four -/
namespace Sx
open PySem L2 PySem.Calls
def pR3 {α : Type} : List α → List α
  | [a, b, c] => [c, b, a]
  | l => l
def pR4 {α : Type} : List α → List α
  | [a, b, c, d] => [d, c, b, a]
  | l => l
def pR5 {α : Type} : List α → List α
  | [a, b, c, d, e] => [e, d, c, b, a]
  | l => l
theorem pr3_ok : Perm' @pR3 := ⟨fun h => by
  cases h with
  | nil => exact .nil
  | cons h1 t => cases t with
    | nil => exact .cons h1 .nil
    | cons h2 t => cases t with
      | nil => exact .cons h1 (.cons h2 .nil)
      | cons h3 t => cases t with
        | nil => exact .cons h3 (.cons h2 (.cons h1 .nil))
        | cons h4 t => exact .cons h1 (.cons h2 (.cons h3 (.cons h4 t)))⟩
theorem pr4_ok : Perm' @pR4 := ⟨fun h => by
  cases h with
  | nil => exact .nil
  | cons h1 t => cases t with
    | nil => exact .cons h1 .nil
    | cons h2 t => cases t with
      | nil => exact .cons h1 (.cons h2 .nil)
      | cons h3 t => cases t with
        | nil => exact .cons h1 (.cons h2 (.cons h3 .nil))
        | cons h4 t => cases t with
          | nil => exact .cons h4 (.cons h3 (.cons h2 (.cons h1 .nil)))
          | cons h5 t => exact .cons h1 (.cons h2 (.cons h3 (.cons h4 (.cons h5 t))))⟩
theorem pr5_ok : Perm' @pR5 := ⟨fun h => by
  cases h with
  | nil => exact .nil
  | cons h1 t => cases t with
    | nil => exact .cons h1 .nil
    | cons h2 t => cases t with
      | nil => exact .cons h1 (.cons h2 .nil)
      | cons h3 t => cases t with
        | nil => exact .cons h1 (.cons h2 (.cons h3 .nil))
        | cons h4 t => cases t with
          | nil => exact .cons h1 (.cons h2 (.cons h3 (.cons h4 .nil)))
          | cons h5 t => cases t with
            | nil => exact .cons h5 (.cons h4 (.cons h3 (.cons h2 (.cons h1 .nil))))
            | cons h6 t => exact .cons h1 (.cons h2 (.cons h3 (.cons h4 (.cons h5 (.cons h6 t)))))⟩
section
variable {X : Cx} {e : Expr} {pos : Pos} {ta : DT} {T : String}
/-! ### isinstance(x, T), T a built-in class, x just of it -/
theorem tyx_of {K : PySem.W.Frag} {M : Addr → Prop} {H : Hp} {v : V} {d : PyData} (h : Dm M H v d) : TyX K H v (.type (tyD d)) := by
  cases h with
  | non => exact .base .non
  | bl b => exact .base (.bl b)
  | int i => exact .base (.int i)
  | str x => exact .base (.str x)
  | lst hm ha hd => exact .base (.lst ha)
  | tup hm ha hd => exact .base (.tup ha)
/-- yes: just of that class -/
def dIsi (T : String) (ta : DT) : DT := fun env n R => ta env n fun d n1 => match d with
  | .dat d => tyD d = T ∧ R (BV true) n1
  | _ => False
theorem fe_isi (h : PE X e (tCB (rIsi X.K) (tCons (cE ta) (tCons (tC (.ty T)) tNil)))) : FE X e (dIsi T ta) := FE.of h fun c M σ H env n R S q =>
  goE S q fun v H1 d n1 e1 w1 m1 q1 => by
    cases d with
    | draws => exact q1.elim
    | own ds => exact q1.elim
    | dat d =>
      obtain ⟨rfl, q2⟩ := q1
      refine ⟨v, .ty (tyD d), .type (tyD d), .type (tyD d), true, rfl, .ty _, tyx_of m1, ?_, BV true, n1, e1, w1, Dm.bl _, q2⟩
      unfold PySem.W.kitOne
      rw [if_pos (by exact beq_self_eq_true _)]
/-! ### lcm of four -/
theorem args_lcm4 (a b c d : Value) : argsOk "math.lcm" ⟨[a, b, c, d], []⟩ := by unfold argsOk; kernel_rfl
theorem run_lcm4 (a : Int) (t : Tok) (b : Int) (u : Tok) (c : Int) (v : Tok) (d : Int) (w : Tok)
    (h1 : ¬(max 1 a.natAbs).log2 / 30 + 1 > 450) (h2 : ¬(max (Nat.lcm 1 a.natAbs) b.natAbs).log2 / 30 + 1 > 450) (h3 : ¬(max ((Nat.lcm 1 a.natAbs).lcm b.natAbs) c.natAbs).log2 / 30 + 1 > 450)
    (h4 : ¬(max (((Nat.lcm 1 a.natAbs).lcm b.natAbs).lcm c.natAbs) d.natAbs).log2 / 30 + 1 > 450) (hsz : ((((((Nat.lcm 1 a.natAbs).lcm b.natAbs).lcm c.natAbs).lcm d.natAbs : Nat) : Int)).natAbs.log2 < bitsLine) :
    Gives (Builtin.«math.lcm» ⟨[.int a t, .int b u, .int c v, .int d w], []⟩) (.int (((((Nat.lcm 1 a.natAbs).lcm b.natAbs).lcm c.natAbs).lcm d.natAbs : Nat) : Int)) :=
  .of_wp fun M A E s Q h => by
    obtain ⟨hp, g, dd, tk, os⟩ := s
    wp_walk
    repeat (first
      | exact ⟨_, rfl, h⟩
      | (refine wpAny_ite_false (decide_eq_false h2) ?_; wp_walk)
      | (refine wpAny_ite_false (decide_eq_false h3) ?_; wp_walk)
      | (refine wpAny_ite_false (decide_eq_false h4) ?_; wp_walk)
      | (refine wpAny_ite_false (decide_eq_false (Nat.not_le.mpr hsz)) ?_; wp_walk))
def L4 (a b c d : Int) : Nat := ((a.natAbs.lcm b.natAbs).lcm c.natAbs).lcm d.natAbs
theorem log_lt {k n : Nat} (h : n < 2 ^ (k + 1)) : n.log2 ≤ k := PySem.W.mg_log h
theorem lcm_lt {a b i j : Nat} (h : a < 2 ^ i) (g : b < 2 ^ j) : a.lcm b < 2 ^ (i + j) := by
  by_cases z : a = 0
  · subst z; rw [Nat.lcm_zero_left]; exact Nat.pow_pos (by decide)
  by_cases z2 : b = 0
  · subst z2; rw [Nat.lcm_zero_right]; exact Nat.pow_pos (by decide)
  refine Nat.lt_of_le_of_lt (Nat.le_of_dvd (Nat.mul_pos (by omega) (by omega)) (Nat.lcm_dvd_mul a b)) ?_
  rw [Nat.pow_add]
  exact Nat.mul_lt_mul'' h g
def rLcm4 : List V → Hp → VK → Prop := fun vs H Q => ∃ a b c d : Int, vs = [.int a, .int b, .int c, .int d] ∧ (a.natAbs < 2 ^ 500 ∧ b.natAbs < 2 ^ 500 ∧ c.natAbs < 2 ^ 500 ∧ d.natAbs < 2 ^ 500) ∧ Q (.int (L4 a b c d : Nat)) H
theorem cr_lcm4 : CallR X (.builtin "math.lcm") rLcm4 := by
  intro pins s σ H vs us Q I r h
  obtain ⟨a, b, c, d, rfl, ⟨ha, hb, hc, hd⟩, q⟩ := h
  cases r with
  | cons r1 r => cases r with
    | cons r2 r => cases r with
      | cons r3 r => cases r with
        | cons r4 r =>
          cases r
          obtain ⟨t1, rfl⟩ := r1
          obtain ⟨t2, rfl⟩ := r2
          obtain ⟨t3, rfl⟩ := r3
          obtain ⟨t4, rfl⟩ := r4
          have o1 : Nat.lcm 1 a.natAbs = a.natAbs := Nat.lcm_one_left _
          have l2 := lcm_lt ha hb
          have l3 := lcm_lt l2 hc
          have l4 := lcm_lt l3 hd
          have m0 : (2 : Nat) ^ 500 ≤ 2 ^ 2000 := Nat.pow_le_pow_right (by decide) (by decide)
          have m1 : (2 : Nat) ^ (500 + 500) ≤ 2 ^ 2000 := Nat.pow_le_pow_right (by decide) (by decide)
          have m2 : (2 : Nat) ^ (500 + 500 + 500) ≤ 2 ^ 2000 := Nat.pow_le_pow_right (by decide) (by decide)
          have m3 : (2 : Nat) ^ (500 + 500 + 500 + 500) ≤ 2 ^ 2000 := Nat.pow_le_pow_right (by decide) (by decide)
          have p1 : (1 : Nat) < 2 ^ 2000 := Nat.one_lt_two_pow (by decide)
          have g : ∀ x y : Nat, x < 2 ^ 2000 → y < 2 ^ 2000 → ¬ (max x y).log2 / 30 + 1 > 450 := fun x y hx hy => by
            have := log_lt (k := 1999) (n := max x y) (Nat.max_lt.2 ⟨hx, hy⟩)
            omega
          have w := run_lcm4 a t1 b t2 c t3 d t4 (g _ _ p1 (by omega)) (g _ _ (by rw [o1]; omega) (by omega)) (g _ _ (by rw [o1]; omega) (by omega)) (g _ _ (by rw [o1]; omega) (by omega)) (by
            rw [o1]
            have := log_lt (k := 1999) (n := (((a.natAbs).lcm b.natAbs).lcm c.natAbs).lcm d.natAbs) (by omega)
            show _ < bitsLine
            have e : (((((a.natAbs).lcm b.natAbs).lcm c.natAbs).lcm d.natAbs : Nat) : Int).natAbs = (((a.natAbs).lcm b.natAbs).lcm c.natAbs).lcm d.natAbs := by simp
            rw [e]
            exact Nat.lt_of_le_of_lt this (by decide))
          rw [o1] at w
          exact call_function_meets PySem.W.MGF.kind_lcm PySem.W.MGF.plain_lcm PySem.W.MGF.entry_lcm (args_lcm4 _ _ _ _) w.meets ⟨.int _, H, I.tok _, ⟨_, rfl⟩, q⟩
def oLcm4 : DOC := fun xs R => match xs with
  | [.dat (.int a), .dat (.int b), .dat (.int c), .dat (.int d)] => (a.natAbs < 2 ^ 500 ∧ b.natAbs < 2 ^ 500 ∧ c.natAbs < 2 ^ 500 ∧ d.natAbs < 2 ^ 500) ∧ R (IV (L4 a b c d : Nat))
  | _ => False
theorem ok_lcm4 : OkC rLcm4 oLcm4 := fun c M H vs ds n R Q hd hr w m h k => by
  unfold oLcm4 at h
  split at h
  · cases m with
    | cons m1 m => cases m with
      | cons m2 m => cases m with
        | cons m3 m => cases m with
          | cons m4 m =>
            cases m
            cases m1
            cases m2
            cases m3
            cases m4
            exact ⟨_, _, _, _, rfl, h.1, k _ H (IV _) (Ext.rfl' H) w (Dm.int _) h.2⟩
  · exact h.elim
end
end Sx

set_option Elab.async false
set_option linter.all false
set_option maxRecDepth 100000
set_option maxHeartbeats 2000000
/-! Sx22: a name for a comprehension; zip of tuples; sums and slices of any tuples -/
namespace Sx
open PySem L2
def MonoI (wi : TI) : Prop := ∀ (σ : St) (H : Hp) (R R' : It → Hp → Prop), (∀ J H, R J H → R' J H) → wi σ H R → wi σ H R'
theorem cE_mono {t : DT} {σ : St} {H : Hp} {Q Q' : VK} (k : ∀ v H, Q v H → Q' v H) (h : cE t σ H Q) : cE t σ H Q' := by
  obtain ⟨c, M, env, n, R, S, h1, h2⟩ := h
  exact ⟨c, M, env, n, R, S, h1, fun v H' d n' e w m r => k _ _ (h2 v H' d n' e w m r)⟩
theorem cA_mono {t : DTA} {σ : St} {H : Hp} {Q Q' : List V → Hp → Prop} (k : ∀ v H, Q v H → Q' v H) (h : cA t σ H Q) : cA t σ H Q' := by
  obtain ⟨c, M, env, n, R, S, h1, h2⟩ := h
  exact ⟨c, M, env, n, R, S, h1, fun v H' d n' e w m r => k _ _ (h2 v H' d n' e w m r)⟩
section
variable {K : PySem.W.Frag} {ta : DT} {tl : DTA}
theorem mi_L : MonoI (iList K (cE ta)) := fun σ H R R' k h => cE_mono (fun v H ⟨a, h1, h2, h3⟩ => ⟨a, h1, h2, k _ _ h3⟩) h
theorem mi_T : MonoI (iTup K (cE ta)) := fun σ H R R' k h => cE_mono (fun v H ⟨a, h1, h2, h3⟩ => ⟨a, h1, h2, k _ _ h3⟩) h
theorem mi_R : MonoI (iRng1 (tCons (cE ta) tNil)) := fun σ H R R' k h => cE_mono (fun v H h => by
  obtain ⟨j, h1, h2, h3, h4⟩ := h
  exact ⟨j, h1, h2, h3, k _ _ h4⟩) h
theorem mi_R2 : MonoI (iRng2 (cA tl)) := fun σ H R R' k h => cA_mono (fun v H ⟨i, j, h1, h2, h3⟩ => ⟨i, j, h1, h2, k _ _ h3⟩) h
theorem mi_E : MonoI (iEnum K (cA tl)) := fun σ H R R' k h => cA_mono (fun v H ⟨i, j, h1, h2, h3⟩ => ⟨i, j, h1, h2, k _ _ h3⟩) h
theorem mi_Z : MonoI (RZ.iZipA K (cA tl)) := fun σ H R R' k h => cA_mono (fun v H ⟨a, b, xs, ys, h1, h2⟩ => ⟨a, b, xs, ys, h1, h2.imp (fun ⟨x, y, z⟩ => ⟨x, y, k _ _ z⟩) fun ⟨x, y, z⟩ => ⟨x, y, k _ _ z⟩⟩) h
end
theorem tLc_mono {wi : TI} (m : MonoI wi) {g : TG} {tt : TT} {te : TE} {vs : List Nat} {σ : St} {H : Hp} {Q Q' : VK} (k : ∀ v H, Q v H → Q' v H) (h : tLc wi g tt te vs σ H Q) : tLc wi g tt te vs σ H Q' :=
  m σ H _ _ (fun J H1 h D hD => by
    obtain ⟨W, h1, h2⟩ := h D hD
    exact ⟨W, h1, fun i m H w => (h2 i m H w).imp (fun z => ⟨z.1, k _ _ z.2⟩) id⟩) h
theorem fs_setLc {X : Cx} {st : Stmt} {i : Nat} {wi : TI} {g : TG} {tt : TT} {te : TE} {vs : List Nat} {t : DT} (m : MonoI wi) (rd : RdE (tLc wi g tt te vs) t) (h : PS X st (tAsg (tLc wi g tt te vs) (gName i))) : FS X st (dAsg i t) :=
  FS.of h fun c M σ H env n F E S q k => tLc_mono m (Q := OutE c M H fun d n1 => F.nx (env.set i (some d)) n1) (fun v H1 o => by
    obtain ⟨d, n1, e1, w1, m1, q1⟩ := o
    exact k.nx M _ H1 _ n1 ((S.step e1 w1).set i m1) q1) (rd c M σ H env n _ S q)
theorem lc_zipT {K : PySem.W.Frag} {a b : Addr} {xs ys : List V} {g : TG} {tt : TT} {te : TE} {vs : List Nat} {σ : St} {H1 : Hp} {D : Addr} {Qd : Hp → Prop} (Pv : Nat → Hp → Prop) (h0 : Pv 0 (upd H1 D (.lst []))) (hl : ∀ i H, Pv i H → SqT K H a xs ∧ SqT K H b ys)
    (hs : ∀ i x y T H, xs[i]? = some x → ys[i]? = some y → Pv i H → H T = none → g (.ref T) (wipe σ vs) (upd H T (.tup [x, y])) fun σ2 H2 => wipe σ2 vs = wipe σ vs ∧ tt σ2 H2 fun b H3 =>
      if b = true then te σ2 H3 fun y H4 => ∃ acc, H4 D = some (.lst acc) ∧ acc.length < sizeLine ∧ Pv (i + 1) (upd H4 D (.lst (acc ++ [y]))) else Pv (i + 1) H3) (hd : ∀ H, Pv (min xs.length ys.length) H → Qd H) :
    ∃ W : Nat → Nat → Hp → Prop, (∃ m, W 0 m (upd H1 D (.lst []))) ∧ ∀ i m H, W i m H →
      ((RZ.ItzT K a b).stop i H ∧ Qd H) ∨ ((RZ.ItzT K a b).go i H ∧ ∃ Nx : Hp → Prop, (∀ H', Nx H' → ∃ m', m' < m ∧ W (i + 1) m' H') ∧ ∀ x H', (RZ.ItzT K a b).yld i H x H' → g x (wipe σ vs) H' fun σ2 H2 => wipe σ2 vs = wipe σ vs ∧ tt σ2 H2 fun b H3 =>
        if b = true then te σ2 H3 fun y H4 => ∃ acc, H4 D = some (.lst acc) ∧ acc.length < sizeLine ∧ Nx (upd H4 D (.lst (acc ++ [y]))) else Nx H3) := by
  refine ⟨fun i m H => m = min xs.length ys.length - i ∧ i ≤ min xs.length ys.length ∧ Pv i H, ⟨min xs.length ys.length, by simp, Nat.zero_le _, h0⟩, ?_⟩
  rintro i m H ⟨rfl, hi, p⟩
  obtain ⟨qx, qy⟩ := hl i H p
  by_cases hlt : i < min xs.length ys.length
  · have h1 : i < xs.length := by omega
    have h2 : i < ys.length := by omega
    have hx : xs[i]? = some xs[i] := List.getElem?_eq_getElem h1
    have hy : ys[i]? = some ys[i] := List.getElem?_eq_getElem h2
    refine .inr ⟨⟨xs, ys, _, _, qx, qy, hx, hy⟩, Pv (i + 1), fun H' p' => ⟨min xs.length ys.length - (i + 1), by omega, rfl, by omega, p'⟩, fun v H' y => ?_⟩
    obtain ⟨T, x', y', rfl, hT, rfl, f1, f2⟩ := y
    exact hs i x' y' T H (f1 xs qx) (f2 ys qy) p hT
  · have e : i = min xs.length ys.length := by omega
    subst e
    refine .inl ⟨⟨xs, ys, qx, qy, ?_⟩, hd H p⟩
    by_cases w : xs.length ≤ ys.length
    · left; omega
    · right; omega
/-- [tb for i, j in zip(a, b) if tt], a and b tuples -/
def dLcZT (i j : Nat) (tl : DTA) (tt : DTB) (tb : DT) : DT := fun env n R => i ≠ j ∧ tl env n fun xs n1 => match xs with
  | [.dat (.tuple ds), .dat (.tuple es)] => ds.length ≤ 1000 ∧ ∃ I : Nat → List PyData → Nat → Prop, I 0 [] n1 ∧
      (∀ k d e, ds[k]? = some d → es[k]? = some e → dLcStep (I k) (I (k + 1)) tt tb ((env.set i (some (.dat d))).set j (some (.dat e)))) ∧ (∀ acc m, I (min ds.length es.length) acc m → R (LV acc) m)
  | _ => False
theorem rd_lcZT {K0 : PySem.W.Frag} {tl : DTA} {tt : DTB} {tb : DT} {i j : Nat} : RdE (tLc (RZ.iZipA K0 (cA tl)) (gTup K0 2 (gAll [i, j])) (cT tt) (cE tb) [i, j]) (dLcZT i j tl tt tb) := fun c M σ H env n R S q => by
  obtain ⟨hij, q⟩ := q
  refine goA S q fun vs H1 xs n1 e1 w1 m1 q1 => ?_
  split at q1
  · rename_i ds es
    obtain ⟨hlen, I, i0, iS, iE⟩ := q1
    cases m1 with
    | cons ma mb =>
      cases mb with
      | cons mb mc =>
        cases mc
        rename_i va vb
        have ma' : Dm M H1 va (.tuple ds) := ma
        have mb' : Dm M H1 vb (.tuple es) := mb
        cases ma' with
        | tup hm ha hd =>
          cases mb' with
          | tup hm2 ha2 hd2 =>
            rename_i p xs p2 ys
            have S1 := S.step e1 w1
            refine ⟨p, p2, xs, ys, rfl, .inr ⟨SqT.of ha, SqT.of ha2, fun D hD => ?_⟩⟩
            have nd : ¬ dr c.ω D := fun z => w1.dom z hD
            have h0 : c.H0 D = none := by
              cases y : c.H0 D with
              | none => rfl
              | some o => rw [S1.keep D o y nd] at hD; cases hD
            have hs := slots_ne S1 hD
            have keep : ∀ {k H}, LcP c M σ env D H1 I k H → (H p = some (.tup xs) ∧ DmA (fun a => M a ∨ a = D) H xs ds) ∧ (H p2 = some (.tup ys) ∧ DmA (fun a => M a ∨ a = D) H ys es) := fun {k H} P => by
              obtain ⟨_, _, _, _, _, _, _, S', hE⟩ := P
              have x1 : Ext (fun a => M a ∨ a = D) H1 H := hE.weak fun a z => z.imp (S1.dM a) id
              exact ⟨⟨x1 _ _ ha fun z => z.elim hm (ne_of_none ha hD), (DmA.more hD hd).mono x1⟩, ⟨x1 _ _ ha2 fun z => z.elim hm2 (ne_of_none ha2 hD), (DmA.more hD hd2).mono x1⟩⟩
            refine lc_zipT (K := K0) (a := p) (b := p2) (xs := xs) (ys := ys) (LcP c M σ env D H1 I) ⟨[], [], n1, upd_same, .nil, Nat.le_refl _, i0, S1.fresh hD, Ext.new hD⟩ (fun k H' P => ⟨SqT.of (keep P).1.1, SqT.of (keep P).2.1⟩) (fun k x y T H' hx hy P hT => ?_) fun H' P => ?_
            · obtain ⟨d, hd1, hd3⟩ := (keep P).1.2.getV hx
              obtain ⟨e, he1, he3⟩ := (keep P).2.2.getV hy
              have hk : k < ds.length := by
                obtain ⟨z, _⟩ := List.getElem?_eq_some_iff.1 hd1
                exact z
              exact lc_step2 (d := .dat d) (e := .dat e) hij hT nd h0 hs (by omega) P hd3 he3 (iS k d e hd1 he1)
            · rw [hd.length, hd2.length] at P
              exact lc_end S1 hD e1 P iE
  · exact q1.elim
theorem fe_lcZT {X : Cx} {e : Expr} {tl : DTA} {tt : DTB} {tb : DT} {i j : Nat} (h : PE X e (tLc (RZ.iZipA X.K (cA tl)) (gTup X.K 2 (gAll [i, j])) (cT tt) (cE tb) [i, j])) : FE X e (dLcZT i j tl tt tb) := FE.of h fun c M σ H env n R S q => rd_lcZT (K0 := X.K) c M σ H env n R S q
section
variable {X : Cx} {e a b : Expr} {pos p2 : Pos} {ta tb : DT} {lo hi : Option Expr} {dl du : DTO}
theorem cut_whole {xs : List PyData} {l u : Option Int} (h : HT.sIx xs.length 0 l = 0 ∧ HT.sIx xs.length xs.length u = xs.length) : cutD xs l u = xs := by
  unfold cutD
  rw [h.1, h.2]
  simp
/-- any slice of a tuple -/
def dSliceA (t : DT) (lo hi : DTO) : DT := fun env n R => t env n fun d n1 => lo env n1 fun l n2 => hi env n2 fun u n3 => match d with
  | .dat (.tuple ds) => R (TV (cutD ds l u)) n3
  | _ => False
theorem fe_sliceA (he : FE X e ta) (hl : FO X lo dl) (hu : FO X hi du) : FE X (.Subscript e (.Slice lo hi none p2) pos) (dSliceA ta dl du) := FE.of (pe_slice sl_tupA he hl hu) fun c M σ H env n R S q =>
  goE S q fun x H1 d1 n1 e1 w1 m1 q1 => ⟨c, M, env, n1, _, S.step e1 w1, q1, fun l H2 n2 e2 w2 q2 => ⟨c, M, env, n2, _, S.step (e1.trans e2) w2, q2, fun u H3 n3 e3 w3 q3 => by
    split at q3
    · have m3 : Dm M H3 x _ := Dm.mono ((e2.trans e3).weak S.dM) m1
      cases m3 with
      | tup hm ha hd =>
        have S3 := S.step ((e1.trans e2).trans e3) w3
        refine ⟨_, _, rfl, SqT.of ha, fun hw => ?_, fun hw p hp => ⟨TV _, n3, ((e1.trans e2).trans e3).trans (Ext.new hp), w3.new hp, Dm.tup (fun z => S3.dom p z hp) upd_same ((hd.cut l u).mono (Ext.new hp)), q3⟩⟩
        rw [hd.length] at hw
        rw [cut_whole hw] at q3
        exact ⟨TV _, n3, (e1.trans e2).trans e3, w3, Dm.tup hm ha hd, q3⟩
    · exact q3.elim⟩⟩
/-- the sum of any two tuples -/
def oCatA : DO2 := fun x y R => match x, y with
  | .dat (.tuple ds), .dat (.tuple fs) => ds.length ≤ 100000 ∧ fs.length ≤ 100000 ∧ R (TV (ds ++ fs))
  | _, _ => False
theorem ok_catA (K : PySem.W.Frag) : OkO (rCatA K) oCatA := fun c M H x y d f n R Q hd hr w hx hy h k => by
  unfold oCatA at h
  split at h
  · rename_i ds fs
    have hx' : Dm M H x (.tuple ds) := hx
    have hy' : Dm M H y (.tuple fs) := hy
    cases hx' with
    | tup hm ha hds =>
      cases hy' with
      | tup hm2 ha2 hds2 =>
        obtain ⟨h1, h2, h3⟩ := h
        have sz : sizeLine = 16777216 := sizeLine_eq
        refine ⟨_, _, _, _, rfl, rfl, SqT.of ha, SqT.of ha2, by rw [hds.length, hds2.length]; omega, fun e => ?_, fun e e2 => ?_, fun _ _ p hp => ?_⟩
        · subst e
          cases hds
          exact k _ H (TV fs) (Ext.rfl' H) w (Dm.tup hm2 ha2 hds2) (by simpa using h3)
        · subst e2
          cases hds2
          exact k _ H (TV ds) (Ext.rfl' H) w (Dm.tup hm ha hds) (by simpa using h3)
        · exact k _ _ (TV (ds ++ fs)) (Ext.new hp) (w.new hp) (Dm.tup (fun z => hd p z hp) upd_same ((hds.append hds2).mono (Ext.new hp))) h3
  · exact h.elim
end
end Sx

set_option Elab.async false
set_option linter.all false
set_option maxRecDepth 100000
set_option maxHeartbeats 2000000
/-! Sx23: enumerate(list, start=k) -/
namespace Sx
open PySem L2 PySem.Spec
open PyProof.Rows hiding St
/-- the list at a at each turn, counted from c0 -/
def ItS (K : PySem.W.Frag) (c0 : Int) (a : Addr) : It :=
  ⟨fun i H => ∃ (xs : List V) (x : V), SqL K H a xs ∧ xs[i]? = some x, fun i H v H' => ∃ T x, v = .ref T ∧ H T = none ∧ H' = upd H T (.tup [.int (c0 + (i : Nat)), x]) ∧ ∀ xs, SqL K H a xs → xs[i]? = some x, fun i H => ∃ xs : List V, SqL K H a xs ∧ xs.length ≤ i⟩
theorem draws_end {prog : Program} {w : World} {A : Around} (hh : A.handled = none) (it l : Addr) (i : Nat) (items : Array Value) (hx : items[i]? = none) :
    PySem.Draws prog w A it [it, l] 0 (fun _ _ => True) (fun _ h => h.IsListIter it l i ∧ h.IsList l items) where
  live := fun _ _ st => let ⟨o, ho, _⟩ := st.1; ⟨o, ho⟩
  frame := fun _ _ _ st hk => ⟨st.1.at fun o e => hk it (by simp) o e, st.2.at fun o e => hk l (by simp) o e⟩
  item := fun i s Q E hi st hQ => absurd hi (Nat.not_lt_zero _)
  done := fun s Q E st hE => wpAny_nextOf_list_end hh st.1 st.2 hx hE
theorem turn_enumS {P : Program} {w : World} {K : PySem.W.Frag} {elts : List Expr} {kk : Nat} {tpos : Pos} (c0 : Int) (a e it : Addr) :
    Turn P w K (.Tuple elts kk tpos) (ItS K c0 a) [e, it] e (fun i h => (∃ old, IsEnum h e it (c0 + ((i : Nat) : Int)) old) ∧ h.IsListIter it a i ∧ e ≠ it ∧ a ≠ it ∧ e ≠ a) where
  mem := by simp
  obj := fun i h st b hb => by
    obtain ⟨⟨old, he⟩, ⟨o, ho, hc, hd⟩, _⟩ := st
    have e' : b = e ∨ b = it := by simpa using hb
    rcases e' with z | z
    · rw [z]; exact ⟨_, he, fun v q => nomatch q⟩
    · rw [z]; exact ⟨o, ho, fun v q => by rw [hd] at q; cases q⟩
  keep := fun i h h' st k => let ⟨⟨old, he⟩, hi, hne⟩ := st; ⟨⟨old, k e (by simp) _ he⟩, hi.at fun o q => k it (by simp) o q, hne⟩
  item := by
    intro X hP hw hK hc i pins s σ H E I hf st hg
    subst hP hw hK
    obtain ⟨⟨old, he⟩, hit, hne, hai, hea⟩ := st
    obtain ⟨xs, x, hq, hx⟩ := hg
    obtain ⟨its, rv, p, hz⟩ := I.list hq
    obtain ⟨u, hu, ru⟩ := rv.get hx
    have hel : e < s.heap.objs.size := Heap.lt_size he
    have hil : it < s.heap.objs.size := by obtain ⟨_, q, _⟩ := hit; exact Heap.lt_size q
    have hlt : i < its.toArray.size := by
      have : its.toArray[i]? = some u := by simpa using hu
      exact (Array.getElem?_eq_some_iff.1 this).1
    refine wpAny_pyNext_enum_itemC (PySem.Draws.list (A := X.A.in1) (show X.A.in1.handled = none from I.ok.hd hc) it a hai its.toArray) he ⟨hit, p.isList⟩ hlt hne (by simp; exact ⟨hne, hea⟩) fun u' h' tk hP ho hst hT hsz hk => ?_
    have eu : u' = u := by
      have h1 : its.toArray[i]? = some u' := hP
      have h2 : its.toArray[i]? = some u := by simpa using hu
      rw [h1] at h2; exact Option.some.inj h2
    subst eu
    have hit' := hst.1
    refine ⟨_, rfl, wpAny_letOwnedTupleGo_enum (s := { s with heap := h', toks := tk + 1 }) ho fun h'' he' sb => ?_⟩
    have hT2 : h''.get? s.heap.objs.size = some { cls := .type "tuple", data := .seq #[.int (c0 + (i : Nat)) tk, u'] } := (sb.2 _ (Nat.ne_of_gt hel)).trans hT
    have new : ObjOk X.prog X.w (upd H s.heap.objs.size (.tup [.int (c0 + (i : Nat)), x])) h'' s.heap.objs.size (.tup [.int (c0 + (i : Nat)), x]) :=
      ⟨by show 2 ≤ sizeLine; decide, [.int (c0 + (i : Nat)) tk, u'], .cons ⟨_, rfl⟩ (.cons ru .nil), ⟨_, hT2, rfl, _, rfl⟩⟩
    have I1 : Inv X pins σ (upd H s.heap.objs.size (.tup [.int (c0 + (i : Nat)), x])) { s with heap := h'', toks := tk + 1 } :=
      I.turnedNew (ch := [e, it]) (fun b ob hb q => (sb.2 b (fun z => hb (by simp [z]))).trans (hk b ob (fun z => hb (by simp [z])) (fun z => hb (by simp [z])) q)) hf (Nat.le_refl _) new
    refine ⟨.ref s.heap.objs.size, _, I1, rfl, ⟨_, x, rfl, I.hok.fresh (Nat.le_refl _), rfl, fun ys hy => by rw [I.list_inj hy hq]; exact hx⟩, ⟨⟨u', ?_⟩, hit'.at fun o q => (sb.2 it (Ne.symm hne)).trans q, hne, hai, hea⟩, fun b hb => ?_⟩
    · have e1 : c0 + ((i + 1 : Nat) : Int) = c0 + (i : Int) + 1 := by omega
      rw [e1]; exact he'
    · have hb' : b < s.heap.objs.size := by
        have e' : b = e ∨ b = it := by simpa using hb
        rcases e' with z | z
        · rw [z]; exact hel
        · rw [z]; exact hil
      rw [upd_ne (Nat.ne_of_lt hb')]
      exact (hf b hb).1
  done := by
    intro X hP hw hK hc i pins s σ H E I hf st hg
    subst hP hw hK
    obtain ⟨⟨old, he⟩, hit, hne, hai, hea⟩ := st
    obtain ⟨xs, hq, hx⟩ := hg
    obtain ⟨its, rv, p, hz⟩ := I.list hq
    obtain ⟨f0, f1, f2, f3, f4, f5⟩ := hf it (by simp)
    have hl := rv.length
    exact wpAny_pyNext_enum_endD (n := 0) (draws_end (A := X.A.in1) (show X.A.in1.handled = none from I.ok.hd hc) it a i its.toArray (by simp; omega)) he ⟨hit, p.isList⟩ fun h' eb => ⟨rfl, I.turned (t' := s.toks) (fun b o hb q => eb b o hb q) f0 f1 f3 f4 f5⟩
  self := fun A i s Q E st h => let ⟨⟨_, he⟩, _⟩ := st; wpAny_pyIter_enum he h
theorem callWith_type_kw {M : Model} {A : Around} {E : Value → Shared → Prop} {s : Shared} {pos : Pos} {T : String} {first : List Value} {args : List (Bool × Sem Value)} {keywords : List (Option Str × Sem Value)} {Q : Value → Shared → Prop} (hplain : args.any (·.1) = false) (hkw : keywords.any (·.1.isNone) = false)
    (h : wpAny M A (evalArgs (.type T) true args keywords) (fun a s₁ => wpAny M A (call (.type T) (first ++ a.pos) a.kw) Q E s₁) E s) :
    wpAny M A (callWith pos (.type T) first args keywords) Q E s := by
  unfold callWith
  refine wpAny_bind (wpAny_holding (wpAny_mono h (fun a s₁ h₁ => wpAny_bind (wpAny_standAt ?_)) fun _ _ x => x))
  simp only [hplain, hkw, Bool.or_false]
  refine wpAny_bind (wpAny_pure ?_)
  exact wpAny_bind (wpAny_mono h₁ (fun r s₂ hr => wpAny_bind (wpAny_holding (wpAny_point (wpAny_pure hr)))) fun _ _ x => x)
def iEnumS (K : PySem.W.Frag) (c0 : Int) (ta : TA) : TI := fun σ H R => ta σ H fun vs H1 => ∃ a xs, vs = [.ref a] ∧ SqL K H1 a xs ∧ R (ItS K c0 a) H1
theorem pi_enumS {X : Cx} {e : Expr} {ta : TA} {p pos tpos p2 p3 : Pos} {elts : List Expr} {kk : Nat} {c0 : Int} {j : Nat} (hc0 : -(2 ^ 62) ≤ c0 ∧ c0 < 2 ^ 62) (hg : Gl X "enumerate") (hm : X.mg "enumerate" = none) (ha : PA X [e] ta)
    (hs : backTo pos (starEach [e] X.env) = (false, eval e X.env) :: backTo pos (starEach [] X.env) := by rfl) :
    PI X (.Tuple elts kk tpos) (.Call (.Name "enumerate" p) [e] [⟨some "start", .Constant (.int c0) j p2, p3⟩] pos) (iEnumS X.K c0 ta) := by
  refine ⟨fun pins s σ H R I h => ?_⟩
  refine wpAny_Call_Name_kw (ld_blt I hg hm boot_enumerate (callWith_type_kw (by rw [hs]; rfl) rfl ?_))
  rw [hs]
  refine evalArgs_kwB rfl ?_
  rw [← hs]
  refine thn (ha.run pos pins s σ H _ I h) fun us s1 ⟨vs, H1, I1, r1, q1⟩ => ?_
  obtain ⟨a, xs, ex, hq, q⟩ := q1
  subst ex
  cases r1 with
  | cons r rr =>
    cases rr
    cases r
    refine thn ((pk_cons (X := X) (nm := some "start") (kpos := p3) (pe_int (i := c0) (j := j) (pos := p2)) pk_nil).run pos pins s1 σ H1 (fun vs H2 => vs = [.int c0] ∧ H2 = H1) I1 ⟨rfl, rfl⟩) fun ws s2 ⟨zs, H2, I2, r2, q2⟩ => ?_
    obtain ⟨rfl, rfl⟩ := q2
    cases r2 with
    | cons r2 rr2 =>
      cases rr2
      obtain ⟨t, rfl⟩ := r2
      obtain ⟨its, rv, p', hz⟩ := I2.list hq
      refine enum_begins_start (B := begins_list a its.toArray) p'.isList (by omega) (by omega) fun h' he hit hsz hk => wpAny_pyIter_enum he ?_
      have hal : a < s2.heap.objs.size := by obtain ⟨o, q, _⟩ := p'.isList; exact Heap.lt_size q
      have I3 : Inv X pins σ H2 { s2 with heap := h' } := I2.kept (t' := s2.toks) hk
      refine ⟨s2.heap.objs.size + 1, [s2.heap.objs.size + 1, s2.heap.objs.size], _, _, H2, rfl, I3, turn_enumS c0 a (s2.heap.objs.size + 1) s2.heap.objs.size, ⟨⟨.none, by simpa using he⟩, ⟨_, hit, rfl, rfl⟩, Nat.succ_ne_self _, Nat.ne_of_lt hal, Nat.ne_of_gt (Nat.lt_succ_of_lt hal)⟩, fun b hb => ?_, q⟩
      have e' : b = s2.heap.objs.size + 1 ∨ b = s2.heap.objs.size := by simpa using hb
      have hle : s2.heap.objs.size ≤ b := by
        rcases e' with z | z
        · rw [z]; exact Nat.le_add_right _ _
        · rw [z]; exact Nat.le_refl _
      exact I2.fpOk hle (I2.hok.fresh hle)

theorem lc_enumS {K : PySem.W.Frag} {c0 : Int} {a : Addr} {xs : List V} {g : TG} {tt : TT} {te : TE} {vs : List Nat} {σ : L2.St} {H1 : Hp} {D : Addr} {Qd : Hp → Prop} (Pv : Nat → Hp → Prop) (h0 : Pv 0 (upd H1 D (.lst []))) (hl : ∀ i H, Pv i H → SqL K H a xs)
    (hs : ∀ (i : Nat) x T H, xs[i]? = some x → Pv i H → H T = none → g (.ref T) (wipe σ vs) (upd H T (.tup [.int (c0 + (i : Nat)), x])) fun σ2 H2 => wipe σ2 vs = wipe σ vs ∧ tt σ2 H2 fun b H3 =>
      if b = true then te σ2 H3 fun y H4 => ∃ acc, H4 D = some (.lst acc) ∧ acc.length < sizeLine ∧ Pv (i + 1) (upd H4 D (.lst (acc ++ [y]))) else Pv (i + 1) H3) (hd : ∀ H, Pv xs.length H → Qd H) :
    ∃ W : Nat → Nat → Hp → Prop, (∃ m, W 0 m (upd H1 D (.lst []))) ∧ ∀ i m H, W i m H →
      ((ItS K c0 a).stop i H ∧ Qd H) ∨ ((ItS K c0 a).go i H ∧ ∃ Nx : Hp → Prop, (∀ H', Nx H' → ∃ m', m' < m ∧ W (i + 1) m' H') ∧ ∀ x H', (ItS K c0 a).yld i H x H' → g x (wipe σ vs) H' fun σ2 H2 => wipe σ2 vs = wipe σ vs ∧ tt σ2 H2 fun b H3 =>
        if b = true then te σ2 H3 fun y H4 => ∃ acc, H4 D = some (.lst acc) ∧ acc.length < sizeLine ∧ Nx (upd H4 D (.lst (acc ++ [y]))) else Nx H3) := by
  refine ⟨fun i m H => m = xs.length - i ∧ i ≤ xs.length ∧ Pv i H, ⟨xs.length, by simp, Nat.zero_le _, h0⟩, ?_⟩
  rintro i m H ⟨rfl, hi, p⟩
  have qx := hl i H p
  by_cases hlt : i < xs.length
  · have hx : xs[i]? = some xs[i] := List.getElem?_eq_getElem hlt
    refine .inr ⟨⟨xs, _, qx, hx⟩, Pv (i + 1), fun H' p' => ⟨xs.length - (i + 1), by omega, rfl, by omega, p'⟩, fun v H' y => ?_⟩
    obtain ⟨T, x', rfl, hT, rfl, f1⟩ := y
    exact hs i x' T H (f1 xs qx) p hT
  · have e : i = xs.length := by omega
    subst e
    exact .inl ⟨⟨xs, qx, Nat.le_refl _⟩, hd H p⟩
/-- i, (j, l) = the pair at T -/
def gNest (K : PySem.W.Frag) (i j l : Nat) : TG := gTup K 2 (gCons (gName i) (gCons (gTup K 2 (gAll [j, l])) gNil))
theorem lc_stepN {c : Cw} {M : Addr → Prop} {σ : L2.St} {env : En} {D : Addr} {H1 : Hp} {I : Nat → List PyData → Nat → Prop} {k i j l : Nat} {H : Hp} {z : Int} {v : V} {d e : PyData} {T : Addr} {K : PySem.W.Frag} {tt : DTB} {tb : DT}
    (hij : i ≠ j) (hil : i ≠ l) (hjl : j ≠ l) (hT : H T = none) (nd : ¬ dr c.ω D) (h0 : c.H0 D = none) (hs : ∀ (j : Nat) (xs : List PyData), env[j]? = some (some (DV.own xs)) → σ[j]? ≠ some (some (V.ref D))) (hk : k < 1000)
    (P : LcP c M σ env D H1 I k H) (hv : Dm (fun a => M a ∨ a = D) H v (.tuple [d, e])) (q : dLcStep (I k) (I (k + 1)) tt tb (((env.set i (some (IV z))).set j (some (.dat d))).set l (some (.dat e)))) :
    gNest K i j l (.ref T) (wipe σ [i, j, l]) (upd H T (.tup [.int z, v])) fun σ2 H2 => wipe σ2 [i, j, l] = wipe σ [i, j, l] ∧ cT tt σ2 H2 fun b H3 =>
      if b = true then cE tb σ2 H3 fun y H4 => ∃ acc, H4 D = some (.lst acc) ∧ acc.length < sizeLine ∧ LcP c M σ env D H1 I (k + 1) (upd H4 D (.lst (acc ++ [y]))) else LcP c M σ env D H1 I (k + 1) H3 := by
  have P2 := P.ext (o := .tup [.int z, v]) hT
  have eX : Ext (fun a => M a ∨ a = D) H (upd H T (.tup [.int z, v])) := Ext.new hT
  have hv2 := hv.mono eX
  obtain ⟨acc, accv, m, hD, ha, hl, hi, S, hE⟩ := P2
  cases hv2 with
  | tup hm hx hd =>
    rename_i p xs
    cases hd with
    | cons hd1 t1 =>
      cases t1 with
      | cons hd2 t2 =>
        cases t2
        rename_i x y
        refine ⟨T, [.int z, .ref p], rfl, SqT.of upd_same, rfl, _, _, rfl, _, _, rfl, p, [x, y], rfl, SqT.of hx, rfl, _, _, rfl, _, _, rfl, rfl, ?_⟩
        refine ⟨rfl, ?_⟩
        rw [wiped_three hij hil hjl]
        refine ⟨wipe_three hij hil hjl _ _ _, ?_⟩
        exact lc_tail nd h0 hs hk hD ha hl hi S hE (((S.set i (d := IV z) (Dm.int z)).set j (d := .dat d) hd1).set l (d := .dat e) hd2) q
/-- [tb for i, (j, l) in enumerate(ta, start=c0) if tt], ta a list of pairs -/
def dLcES (c0 : Int) (i j l : Nat) (tl : DTA) (tt : DTB) (tb : DT) : DT := fun env n R => (i ≠ j ∧ i ≠ l ∧ j ≠ l) ∧ tl env n fun xs n1 => ∃ ds, xs = [LV ds] ∧ ds.length ≤ 1000 ∧ ∃ I : Nat → List PyData → Nat → Prop, I 0 [] n1 ∧
      (∀ (k : Nat) d, ds[k]? = some d → ∃ x y, d = .tuple [x, y] ∧ dLcStep (I k) (I (k + 1)) tt tb (((env.set i (some (IV (c0 + (k : Int))))).set j (some (.dat x))).set l (some (.dat y)))) ∧ (∀ acc m, I ds.length acc m → R (LV acc) m)
section
variable {X : Cx} {e : Expr} {tl : DTA} {tt : DTB} {tb : DT}
theorem rd_lcES {K0 : PySem.W.Frag} {c0 : Int} {i j l : Nat} : RdE (tLc (iEnumS K0 c0 (cA tl)) (gNest K0 i j l) (cT tt) (cE tb) [i, j, l]) (dLcES c0 i j l tl tt tb) := fun c M σ H env n R S q => by
  obtain ⟨⟨hij, hil, hjl⟩, q⟩ := q
  refine goA S q fun vs H1 xs n1 e1 w1 m1 q1 => ?_
  obtain ⟨ds, rfl, hlen, I, i0, iS, iE⟩ := q1
  cases m1 with
  | cons ma mb =>
    cases mb
    rename_i va
    have ma' : Dm M H1 va (.list ds) := ma
    cases ma' with
    | lst hm ha hd =>
      rename_i p xs
      have S1 := S.step e1 w1
      refine ⟨p, xs, rfl, SqL.of ha, fun D hD => ?_⟩
      have nd : ¬ dr c.ω D := fun z => w1.dom z hD
      have h0 : c.H0 D = none := by
        cases y : c.H0 D with
        | none => rfl
        | some o => rw [S1.keep D o y nd] at hD; cases hD
      have hs := slots_ne S1 hD
      have keep : ∀ {k H}, LcP c M σ env D H1 I k H → H p = some (.lst xs) ∧ DmA (fun a => M a ∨ a = D) H xs ds := fun {k H} P => by
        obtain ⟨_, _, _, _, _, _, _, S', hE⟩ := P
        have x1 : Ext (fun a => M a ∨ a = D) H1 H := hE.weak fun a z => z.imp (S1.dM a) id
        exact ⟨x1 _ _ ha fun z => z.elim hm (ne_of_none ha hD), (DmA.more hD hd).mono x1⟩
      refine lc_enumS (K := K0) (a := p) (xs := xs) (LcP c M σ env D H1 I) ⟨[], [], n1, upd_same, .nil, Nat.le_refl _, i0, S1.fresh hD, Ext.new hD⟩ (fun k H' P => SqL.of (keep P).1) (fun k x T H' hx P hT => ?_) fun H' P => ?_
      · obtain ⟨d, hd1, hd3⟩ := (keep P).2.getV hx
        have hk : k < ds.length := by
          obtain ⟨z, _⟩ := List.getElem?_eq_some_iff.1 hd1
          exact z
        obtain ⟨dx, dy, rfl, q2⟩ := iS k d hd1
        exact lc_stepN hij hil hjl hT nd h0 hs (by omega) P hd3 q2
      · rw [hd.length] at P
        exact lc_end S1 hD e1 P iE
theorem fe_lcES {c0 : Int} {i j l : Nat} (h : PE X e (tLc (iEnumS X.K c0 (cA tl)) (gNest X.K i j l) (cT tt) (cE tb) [i, j, l])) : FE X e (dLcES c0 i j l tl tt tb) := FE.of h fun c M σ H env n R S q => rd_lcES (K0 := X.K) c M σ H env n R S q
end
end Sx

set_option Elab.async false
set_option linter.all false
set_option maxRecDepth 100000
set_option maxHeartbeats 2000000
/-! Sx24: x, y = e, [..] with a list to be appended to -/
namespace Sx
open PySem L2
theorem Sta.fresh_ownX {c : Cw} {M : Addr → Prop} {σ : St} {H : Hp} {env : En} {n : Nat} (S : Sta c M σ H env n) {p : Addr} (hp : H p = none) (i : Nat) {vs : List V} {ds : List PyData} (hd : DmA M H vs ds) :
    Sta c (fun a => M a ∨ a = p) (σ.set i (some (.ref p))) (upd H p (.lst vs)) (env.set i (some (.own ds))) n := by
  have S2 := S.fresh (o := .lst vs) hp
  have nd : ¬ dr c.ω p := fun z => S.wr.dom z hp
  have h0 : c.H0 p = none := by
    cases y : c.H0 p with
    | none => rfl
    | some o => rw [S.keep p o y nd] at hp; cases hp
  have m0 : ¬ c.M0 p := fun z => S.dom p (S.m0 p z) hp
  have z1 : DmA (fun a => M a ∨ a = p) H vs ds := hd.more hp
  exact S2.setOwn i (p := p) (vs := vs) (ds := ds) (.inr rfl) m0 h0 upd_same (z1.mono (Ext.new hp)) (slots_ne S hp)
section
variable {X : Cx} {ta : DT} {tl : DTA} {st : Stmt}
/-- x, y = e, [..] -/
def dParDX (i j : Nat) (ta : DT) (tl : DTA) : DTS := fun F env n => ta env n fun d n1 => tl env n1 fun xs n2 => match allD xs with
  | some ds => ds.length ≤ 1000 ∧ F.nx ((env.set i (some d)).set j (some (.own ds))) n2
  | none => False
theorem fs_parDX {i j : Nat} (h : PS X st (tPar i j (tCons (cE ta) (tCons (tLst (cA tl)) tNil)))) : FS X st (dParDX i j ta tl) := FS.of h fun c M σ H env n F E S q k =>
  goE S q fun v H1 d n1 e1 w1 m1 q1 => goA (S.step e1 w1) q1 fun vs H2 xs n2 e2 w2 m2 q2 => by
    cases z : allD xs with
    | none => rw [z] at q2; exact q2.elim
    | some ds =>
      rw [z] at q2
      have m3 := allD_reps m2 z
      have S2 := (S.step e1 w1).step e2 w2
      refine ⟨by rw [m3.length]; exact sz1000 q2.1, fun p hp => ⟨_, _, rfl, ?_⟩⟩
      exact k.nx _ _ _ _ n2 ((S2.set i (m1.mono (e2.weak S.dM))).fresh_ownX hp j m3) q2.2
theorem dParDX_ap (i j : Nat) (ta : DT) (tl : DTA) (F : DEnds) (env : En) (n : Nat) : dParDX i j ta tl F env n = ta env n fun d n1 => tl env n1 fun xs n2 => match allD xs with
  | some ds => ds.length ≤ 1000 ∧ F.nx ((env.set i (some d)).set j (some (.own ds))) n2
  | none => False := propext Iff.rfl
end
end Sx

set_option Elab.async false
set_option linter.all false
set_option maxRecDepth 100000
set_option maxHeartbeats 2000000
/-! Sx25: two names at once; whether a list is empty; an own list made longer by a sum; tuples repeated -/
namespace Sx
open PySem L2
section
variable {X : Cx} {e a b : Expr} {ta tb : DT} {st : Stmt} {pos : Pos}
/-- x = y = e -/
def dAsg2 (i j : Nat) (t : DT) : DTS := fun F env n => t env n fun d n1 => F.nx ((env.set i (some d)).set j (some d)) n1
theorem fs_set2 {i j : Nat} {st : Stmt} (h : PS X st (tAsg2 (cE ta) (gName i) (gName j))) : FS X st (dAsg2 i j ta) := FS.of h fun c M σ H env n F E S q k =>
  goE S q fun v H1 d n1 e1 w1 m1 q1 => k.nx M _ H1 _ n1 (((S.step e1 w1).set i m1).set j m1) q1
theorem dAsg2_ap (i j : Nat) (t : DT) (F : DEnds) (env : En) (n : Nat) : dAsg2 i j t F env n = t env n fun d n1 => F.nx ((env.set i (some d)).set j (some d)) n1 := propext Iff.rfl
/-- a list, a tuple as a test -/
def dTru (t : DT) : DTB := fun env n R => t env n fun d n1 => match d with
  | .dat (.list ds) => R (!ds.isEmpty) n1
  | .dat (.tuple ds) => R (!ds.isEmpty) n1
  | _ => False
theorem emptyA {M : Addr → Prop} {H : Hp} {vs : List V} {ds : List PyData} (h : DmA M H vs ds) : vs.isEmpty = ds.isEmpty := by cases h <;> rfl
theorem ft_tru (h : FE X a ta) (he : ∀ whole, isTrue a X.env whole = (do let v ← whole; standAt a.pos; holding [v] (truthy v)) := by intro _; rfl) : FT X a (dTru ta) := FT.of (pt_truth h he) fun c M σ H env n R S q =>
  goE S q fun v H1 d n1 e1 w1 m1 q1 => by
    cases d with
    | draws => exact q1.elim
    | own ds => exact q1.elim
    | dat d =>
      cases d with
      | list ds =>
        have m1' : Dm M H1 v (.list ds) := m1
        cases m1' with
        | lst hm ha hd => exact ⟨_, .inl ⟨_, SqL.of ha, rfl⟩, n1, e1, w1, by rw [emptyA hd]; exact q1⟩
      | tuple ds =>
        have m1' : Dm M H1 v (.tuple ds) := m1
        cases m1' with
        | tup hm ha hd => exact ⟨_, .inr (.inl ⟨_, SqT.of ha, rfl⟩), n1, e1, w1, by rw [emptyA hd]; exact q1⟩
      | _ => exact q1.elim
theorem dTruL_ap (t : DT) (env : En) (n : Nat) (R : Bool → Nat → Prop) : dTru t env n R = t env n fun d n1 => match d with
  | .dat (.list ds) => R (!ds.isEmpty) n1
  | .dat (.tuple ds) => R (!ds.isEmpty) n1
  | _ => False := propext Iff.rfl
/-- x = x + e, x an own list before and behind -/
def dCatOwn (i : Nat) (tb : DT) : DTS := fun F env n => match env[i]? with
  | some (some (.own ds)) => tb env n fun d n1 => match d with
    | .dat (.list es) => ds.length ≤ 100000 ∧ es.length ≤ 100000 ∧ F.nx (env.set i (some (.own (ds ++ es)))) n1
    | _ => False
  | _ => False
theorem fs_catOwn {i : Nat} {st : Stmt} (h : PS X st (tAsg (tOp rCat (tVar i) (cE tb)) (gName i))) : FS X st (dCatOwn i tb) := FS.of h fun c M σ H env n F E S q k => by
  unfold dCatOwn at q
  split at q
  · rename_i ds0 e0
    obtain ⟨v, hv, a0, xs0, rfl, _, _, _, ha0, _⟩ := S.slot i _ e0
    refine ⟨_, hv, goE S q fun y H1 d n1 e1 w1 m1 q1 => ?_⟩
    split at q1
    · rename_i es
      obtain ⟨l1, l2, q3⟩ := q1
      have S1 := S.step e1 w1
      obtain ⟨v', hv', a, xs, ev', hm, h0, hH, ha, hd⟩ := S1.slot i _ e0
      rw [hv] at hv'
      cases hv'
      have ea : a = a0 := by cases ev'; rfl
      subst ea
      have m1' : Dm M H1 y (.list es) := m1
      cases m1' with
      | lst hm2 ha2 hd2 =>
        have sz : sizeLine = 16777216 := sizeLine_eq
        refine ⟨_, _, _, _, rfl, rfl, ha, ha2, by rw [hd.length, hd2.length]; omega, fun p hp => ?_⟩
        have hdd := hd.append hd2
        exact k.nx _ _ _ _ n1 (S1.fresh_ownX hp i hdd) q3
    · exact q1.elim
  · exact q.elim
/-- a tuple told several times -/
def oRepT : DO2 := fun x y R => match x, y with
  | .dat (.tuple ds), .dat (.int k) => ds ≠ [] ∧ 2 ≤ k ∧ k ≤ 1000 ∧ ds.length ≤ 1000 ∧ R (TV (List.replicate k.toNat ds).flatten)
  | _, _ => False
theorem ok_repT {K : PySem.W.Frag} : OkO (rRepT K) oRepT := fun c M H x y d f n R Q hd hr w hx hy h k => by
  unfold oRepT at h
  split at h
  · rename_i ds j
    have hx' : Dm M H x (.tuple ds) := hx
    cases hx' with
    | tup hm ha hds =>
      cases hy
      obtain ⟨h1, h2, h3, h4, h5⟩ := h
      exact ⟨_, _, _, rfl, rfl, SqT.of ha, hds.ne_nil h1, h2, h3, by rw [hds.length]; exact h4, fun p hp => k _ _ (TV _) (Ext.new hp) (w.new hp) (Dm.tup (fun z => hd p z hp) upd_same ((hds.rep j.toNat).mono (Ext.new hp))) h5⟩
  · exact h.elim
theorem oRepT_ap (ds : List PyData) (k : Int) (R : DV → Prop) : oRepT (.dat (.tuple ds)) (.dat (.int k)) R = (ds ≠ [] ∧ 2 ≤ k ∧ k ≤ 1000 ∧ ds.length ≤ 1000 ∧ R (TV (List.replicate k.toNat ds).flatten)) := propext Iff.rfl
theorem dCatOwn_ap (i : Nat) (tb : DT) (F : DEnds) (env : En) (n : Nat) : dCatOwn i tb F env n = (match env[i]? with
  | some (some (.own ds)) => tb env n fun d n1 => match d with
    | .dat (.list es) => ds.length ≤ 100000 ∧ es.length ≤ 100000 ∧ F.nx (env.set i (some (.own (ds ++ es)))) n1
    | _ => False
  | _ => False) := propext Iff.rfl
end
end Sx

set_option Elab.async false
set_option linter.all false
set_option maxRecDepth 100000
set_option maxHeartbeats 2000000
/-! Sx26: enumerate(tuple) -/
namespace Sx
open PySem L2 PySem.Spec
open PyProof.Rows hiding St
/-- the tuple at a at each turn, counted -/
def ItT (K : PySem.W.Frag) (c0 : Int) (a : Addr) : It :=
  ⟨fun i H => ∃ (xs : List V) (x : V), SqT K H a xs ∧ xs[i]? = some x, fun i H v H' => ∃ T x, v = .ref T ∧ H T = none ∧ H' = upd H T (.tup [.int (c0 + (i : Nat)), x]) ∧ ∀ xs, SqT K H a xs → xs[i]? = some x, fun i H => ∃ xs : List V, SqT K H a xs ∧ xs.length ≤ i⟩
theorem draws_endT {prog : Program} {w : World} {A : Around} (hh : A.handled = none) (it l : Addr) (i : Nat) (items : Array Value) (hx : items[i]? = none) :
    PySem.Draws prog w A it [it, l] 0 (fun _ _ => True) (fun _ h => h.IsTupleIter it l i ∧ h.IsTuple l items) where
  live := fun _ _ st => let ⟨o, ho, _⟩ := st.1; ⟨o, ho⟩
  frame := fun _ _ _ st hk => ⟨st.1.at fun o e => hk it (by simp) o e, st.2.at fun o e => hk l (by simp) o e⟩
  item := fun i s Q E hi st hQ => absurd hi (Nat.not_lt_zero _)
  done := fun s Q E st hE => wpAny_nextOf_tuple_end hh st.1 st.2 hx hE
theorem turn_enumT {P : Program} {w : World} {K : PySem.W.Frag} {elts : List Expr} {kk : Nat} {tpos : Pos} (c0 : Int) (a e it : Addr) :
    Turn P w K (.Tuple elts kk tpos) (ItT K c0 a) [e, it] e (fun i h => (∃ old, IsEnum h e it (c0 + ((i : Nat) : Int)) old) ∧ h.IsTupleIter it a i ∧ e ≠ it ∧ a ≠ it ∧ e ≠ a) where
  mem := by simp
  obj := fun i h st b hb => by
    obtain ⟨⟨old, he⟩, ⟨o, ho, hc, hd⟩, _⟩ := st
    have e' : b = e ∨ b = it := by simpa using hb
    rcases e' with z | z
    · rw [z]; exact ⟨_, he, fun v q => nomatch q⟩
    · rw [z]; exact ⟨o, ho, fun v q => by rw [hd] at q; cases q⟩
  keep := fun i h h' st k => let ⟨⟨old, he⟩, hi, hne⟩ := st; ⟨⟨old, k e (by simp) _ he⟩, hi.at fun o q => k it (by simp) o q, hne⟩
  item := by
    intro X hP hw hK hc i pins s σ H E I hf st hg
    subst hP hw hK
    obtain ⟨⟨old, he⟩, hit, hne, hai, hea⟩ := st
    obtain ⟨xs, x, hq, hx⟩ := hg
    obtain ⟨its, rv, p, hz⟩ := I.tuple hq
    obtain ⟨u, hu, ru⟩ := rv.get hx
    have hel : e < s.heap.objs.size := Heap.lt_size he
    have hil : it < s.heap.objs.size := by obtain ⟨_, q, _⟩ := hit; exact Heap.lt_size q
    have hlt : i < its.toArray.size := by
      have : its.toArray[i]? = some u := by simpa using hu
      exact (Array.getElem?_eq_some_iff.1 this).1
    refine wpAny_pyNext_enum_itemC (PySem.Draws.tuple (A := X.A.in1) (show X.A.in1.handled = none from I.ok.hd hc) it a hai its.toArray) he ⟨hit, p⟩ hlt hne (by simp; exact ⟨hne, hea⟩) fun u' h' tk hP ho hst hT hsz hk => ?_
    have eu : u' = u := by
      have h1 : its.toArray[i]? = some u' := hP
      have h2 : its.toArray[i]? = some u := by simpa using hu
      rw [h1] at h2; exact Option.some.inj h2
    subst eu
    have hit' := hst.1
    refine ⟨_, rfl, wpAny_letOwnedTupleGo_enum (s := { s with heap := h', toks := tk + 1 }) ho fun h'' he' sb => ?_⟩
    have hT2 : h''.get? s.heap.objs.size = some { cls := .type "tuple", data := .seq #[.int (c0 + (i : Nat)) tk, u'] } := (sb.2 _ (Nat.ne_of_gt hel)).trans hT
    have new : ObjOk X.prog X.w (upd H s.heap.objs.size (.tup [.int (c0 + (i : Nat)), x])) h'' s.heap.objs.size (.tup [.int (c0 + (i : Nat)), x]) :=
      ⟨by show 2 ≤ sizeLine; decide, [.int (c0 + (i : Nat)) tk, u'], .cons ⟨_, rfl⟩ (.cons ru .nil), ⟨_, hT2, rfl, _, rfl⟩⟩
    have I1 : Inv X pins σ (upd H s.heap.objs.size (.tup [.int (c0 + (i : Nat)), x])) { s with heap := h'', toks := tk + 1 } :=
      I.turnedNew (ch := [e, it]) (fun b ob hb q => (sb.2 b (fun z => hb (by simp [z]))).trans (hk b ob (fun z => hb (by simp [z])) (fun z => hb (by simp [z])) q)) hf (Nat.le_refl _) new
    refine ⟨.ref s.heap.objs.size, _, I1, rfl, ⟨_, x, rfl, I.hok.fresh (Nat.le_refl _), rfl, fun ys hy => by rw [I.tuple_inj hy hq]; exact hx⟩, ⟨⟨u', ?_⟩, hit'.at fun o q => (sb.2 it (Ne.symm hne)).trans q, hne, hai, hea⟩, fun b hb => ?_⟩
    · have e1 : c0 + ((i + 1 : Nat) : Int) = c0 + (i : Int) + 1 := by omega
      rw [e1]; exact he'
    · have hb' : b < s.heap.objs.size := by
        have e' : b = e ∨ b = it := by simpa using hb
        rcases e' with z | z
        · rw [z]; exact hel
        · rw [z]; exact hil
      rw [upd_ne (Nat.ne_of_lt hb')]
      exact (hf b hb).1
  done := by
    intro X hP hw hK hc i pins s σ H E I hf st hg
    subst hP hw hK
    obtain ⟨⟨old, he⟩, hit, hne, hai, hea⟩ := st
    obtain ⟨xs, hq, hx⟩ := hg
    obtain ⟨its, rv, p, hz⟩ := I.tuple hq
    obtain ⟨f0, f1, f2, f3, f4, f5⟩ := hf it (by simp)
    have hl := rv.length
    exact wpAny_pyNext_enum_endD (n := 0) (draws_endT (A := X.A.in1) (show X.A.in1.handled = none from I.ok.hd hc) it a i its.toArray (by simp; omega)) he ⟨hit, p⟩ fun h' eb => ⟨rfl, I.turned (t' := s.toks) (fun b o hb q => eb b o hb q) f0 f1 f3 f4 f5⟩
  self := fun A i s Q E st h => let ⟨⟨_, he⟩, _⟩ := st; wpAny_pyIter_enum he h

set_option maxHeartbeats 1000000 in
theorem meets_enumerate_new1 {v : Value} {o : Obj} {H : Heap → Prop} (B : Begins v o H) :
    Meets (Builtin.«enumerate.__new__» ⟨[.type "enumerate", v], []⟩) (fun _ R s => H s.heap ∧
      R (.ok (.ret (.ref (s.heap.push o).objs.size))) { s with heap := (s.heap.push o).push { cls := .type "enumerate", data := .fields #[.none, .bool false, .ref s.heap.objs.size, rawInt 0, .none, .none] } }) :=
  .of_wp fun prog w A R s h => by
    obtain ⟨hp, g, d, tk, os⟩ := s; obtain ⟨h1, h⟩ := h
    have hsub := sub_enumerate
    have q1 : ∀ {A' : Around} {E : Value → Shared → Prop} {Q : Value → Shared → Prop}, Q (.ref hp.objs.size) ⟨hp.push o, g, d, tk, os⟩ → wpAny (model prog w) A' (pyIter v) Q E ⟨hp, g, d, tk, os⟩ :=
      fun q => B.iter prog w _ _ ⟨hp, g, d, tk, os⟩ _ h1 q
    wp_walk using q1
    refine wpAny_stack_any fun st => wpAny_pure ?_
    split
    · rename_i c _ _ _ _ _
      cases (c == Value.type "enumerate")
      · wp_walk using q1
        exact ⟨_, rfl, h⟩
      · wp_walk using q1
        exact ⟨_, rfl, h⟩
    · wp_walk using q1
      exact ⟨_, rfl, h⟩
theorem enum_begins1 {prog : Program} {w : World} {A : Around} {E : Value → Shared → Prop} {s : Shared} {v : Value} {o : Obj} {H : Heap → Prop} {Q : Value → Shared → Prop} (B : Begins v o H) (h1 : H s.heap)
    (h : ∀ h', IsEnum h' (s.heap.objs.size + 1) s.heap.objs.size 0 .none → h'.get? s.heap.objs.size = some o → h'.objs.size = s.heap.objs.size + 2 →
      (∀ b o, s.heap.get? b = some o → h'.get? b = some o) → Q (.ref (s.heap.objs.size + 1)) { s with heap := h' }) :
    wpAny (model prog w) A (call (.type "enumerate") [v]) Q E s := by
  refine callType_new F.called_enumerate (by decide) (F.typeCall_enumerate_1 _) (F.newCall_enumerate_1 _) (fun obj => F.args_object_init_2 obj _) F.entry_enumerate_new
    (meets_enumerate_new1 B) ⟨h1, ?_⟩
  have hz : (s.heap.push o).objs.size = s.heap.objs.size + 1 := Heap.size_push ..
  show _ ∧ _
  rw [hz]
  have he : IsEnum ((s.heap.push o).push { cls := .type "enumerate", data := .fields #[.none, .bool false, .ref s.heap.objs.size, rawInt 0, .none, .none] }) (s.heap.objs.size + 1) s.heap.objs.size 0 .none := by
    have := Heap.get?_push_size (s.heap.push o) (o := { cls := .type "enumerate", data := .fields #[.none, .bool false, .ref s.heap.objs.size, rawInt 0, .none, .none] }) rfl
    rw [hz] at this; exact this
  refine ⟨⟨_, he, rfl⟩, h _ he (Heap.get?_push_of_some _ (Heap.get?_push_size _ B.free)) (by rw [Heap.size_push, hz]) fun b o x => Heap.get?_push_of_some _ (Heap.get?_push_of_some _ x)⟩
def iEnumT (K : PySem.W.Frag) (ta : TA) : TI := fun σ H R => ta σ H fun vs H1 => ∃ a xs, vs = [.ref a] ∧ SqT K H1 a xs ∧ R (ItT K 0 a) H1
theorem mi_ET {K : PySem.W.Frag} {tl : DTA} : MonoI (iEnumT K (cA tl)) := fun σ H R R' k h => cA_mono (fun v H ⟨i, j, h1, h2, h3⟩ => ⟨i, j, h1, h2, k _ _ h3⟩) h
theorem pi_enumT {X : Cx} {e : Expr} {ta : TA} {p pos tpos : Pos} {elts : List Expr} {kk : Nat} (hg : Gl X "enumerate") (hm : X.mg "enumerate" = none) (ha : PA X [e] ta) (hs : starEach [e] X.env = [(false, eval e X.env)] := by rfl) :
    PI X (.Tuple elts kk tpos) (.Call (.Name "enumerate" p) [e] [] pos) (iEnumT X.K ta) := by
  refine ⟨fun pins s σ H R I h => ?_⟩
  refine Call_ (ld_blt I hg hm boot_enumerate (PyProof.Rows.callWith_type1 (thn (ha.run pos pins s σ H _ I h) fun us s1 ⟨vs, H1, I1, r1, q1⟩ => ?_) hs rfl))
  obtain ⟨a, xs, ex, hq, q⟩ := q1
  subst ex
  cases r1 with
  | cons r rr =>
    cases rr
    cases r
    obtain ⟨its, rv, p', hz⟩ := I1.tuple hq
    refine enum_begins1 (B := begins_tuple a its.toArray) p' fun h' he hit hsz hk => wpAny_pyIter_enum he ?_
    have hal : a < s1.heap.objs.size := by obtain ⟨o, q, _⟩ := p'; exact Heap.lt_size q
    have I2 : Inv X pins σ H1 { s1 with heap := h' } := I1.kept (t' := s1.toks) hk
    refine ⟨s1.heap.objs.size + 1, [s1.heap.objs.size + 1, s1.heap.objs.size], _, _, H1, rfl, I2, turn_enumT 0 a (s1.heap.objs.size + 1) s1.heap.objs.size, ⟨⟨.none, by simpa using he⟩, ⟨_, hit, rfl, rfl⟩, Nat.succ_ne_self _, Nat.ne_of_lt hal, Nat.ne_of_gt (Nat.lt_succ_of_lt hal)⟩, fun b hb => ?_, q⟩
    have e' : b = s1.heap.objs.size + 1 ∨ b = s1.heap.objs.size := by simpa using hb
    have hle : s1.heap.objs.size ≤ b := by
      rcases e' with z | z
      · rw [z]; exact Nat.le_add_right _ _
      · rw [z]; exact Nat.le_refl _
    exact I1.fpOk hle (I1.hok.fresh hle)
theorem lc_enumT {K : PySem.W.Frag} {c0 : Int} {a : Addr} {xs : List V} {g : TG} {tt : TT} {te : TE} {vs : List Nat} {σ : L2.St} {H1 : Hp} {D : Addr} {Qd : Hp → Prop} (Pv : Nat → Hp → Prop) (h0 : Pv 0 (upd H1 D (.lst []))) (hl : ∀ i H, Pv i H → SqT K H a xs)
    (hs : ∀ (i : Nat) x T H, xs[i]? = some x → Pv i H → H T = none → g (.ref T) (wipe σ vs) (upd H T (.tup [.int (c0 + (i : Nat)), x])) fun σ2 H2 => wipe σ2 vs = wipe σ vs ∧ tt σ2 H2 fun b H3 =>
      if b = true then te σ2 H3 fun y H4 => ∃ acc, H4 D = some (.lst acc) ∧ acc.length < sizeLine ∧ Pv (i + 1) (upd H4 D (.lst (acc ++ [y]))) else Pv (i + 1) H3) (hd : ∀ H, Pv xs.length H → Qd H) :
    ∃ W : Nat → Nat → Hp → Prop, (∃ m, W 0 m (upd H1 D (.lst []))) ∧ ∀ i m H, W i m H →
      ((ItT K c0 a).stop i H ∧ Qd H) ∨ ((ItT K c0 a).go i H ∧ ∃ Nx : Hp → Prop, (∀ H', Nx H' → ∃ m', m' < m ∧ W (i + 1) m' H') ∧ ∀ x H', (ItT K c0 a).yld i H x H' → g x (wipe σ vs) H' fun σ2 H2 => wipe σ2 vs = wipe σ vs ∧ tt σ2 H2 fun b H3 =>
        if b = true then te σ2 H3 fun y H4 => ∃ acc, H4 D = some (.lst acc) ∧ acc.length < sizeLine ∧ Nx (upd H4 D (.lst (acc ++ [y]))) else Nx H3) := by
  refine ⟨fun i m H => m = xs.length - i ∧ i ≤ xs.length ∧ Pv i H, ⟨xs.length, by simp, Nat.zero_le _, h0⟩, ?_⟩
  rintro i m H ⟨rfl, hi, p⟩
  have qx := hl i H p
  by_cases hlt : i < xs.length
  · have hx : xs[i]? = some xs[i] := List.getElem?_eq_getElem hlt
    refine .inr ⟨⟨xs, _, qx, hx⟩, Pv (i + 1), fun H' p' => ⟨xs.length - (i + 1), by omega, rfl, by omega, p'⟩, fun v H' y => ?_⟩
    obtain ⟨T, x', rfl, hT, rfl, f1⟩ := y
    exact hs i x' T H (f1 xs qx) p hT
  · have e : i = xs.length := by omega
    subst e
    exact .inl ⟨⟨xs, qx, Nat.le_refl _⟩, hd H p⟩

/-- [tb for i, j in enumerate(ta) if tt], ta a tuple -/
def dLcET (i j : Nat) (tl : DTA) (tt : DTB) (tb : DT) : DT := fun env n R => i ≠ j ∧ tl env n fun xs n1 => match xs with
  | [.dat (.tuple ds)] => ds.length ≤ 1000 ∧ ∃ I : Nat → List PyData → Nat → Prop, I 0 [] n1 ∧
      (∀ (k : Nat) d, ds[k]? = some d → dLcStep (I k) (I (k + 1)) tt tb ((env.set i (some (IV (k : Int)))).set j (some (.dat d)))) ∧ (∀ acc m, I ds.length acc m → R (LV acc) m)
  | _ => False
section
variable {X : Cx} {e : Expr} {tl : DTA} {tt : DTB} {tb : DT}
theorem rd_lcET {K0 : PySem.W.Frag} {i j : Nat} : RdE (tLc (iEnumT K0 (cA tl)) (gTup K0 2 (gAll [i, j])) (cT tt) (cE tb) [i, j]) (dLcET i j tl tt tb) := fun c M σ H env n R S q => by
  obtain ⟨hij, q⟩ := q
  refine goA S q fun vs H1 xs n1 e1 w1 m1 q1 => ?_
  split at q1
  · rename_i ds
    obtain ⟨hlen, I, i0, iS, iE⟩ := q1
    cases m1 with
    | cons ma mb =>
      cases mb
      rename_i va
      have ma' : Dm M H1 va (.tuple ds) := ma
      cases ma' with
      | tup hm ha hd =>
        rename_i p xs
        have S1 := S.step e1 w1
        refine ⟨p, xs, rfl, SqT.of ha, fun D hD => ?_⟩
        have nd : ¬ dr c.ω D := fun z => w1.dom z hD
        have h0 : c.H0 D = none := by
          cases y : c.H0 D with
          | none => rfl
          | some o => rw [S1.keep D o y nd] at hD; cases hD
        have hs := slots_ne S1 hD
        have keep : ∀ {k H}, LcP c M σ env D H1 I k H → H p = some (.tup xs) ∧ DmA (fun a => M a ∨ a = D) H xs ds := fun {k H} P => by
          obtain ⟨_, _, _, _, _, _, _, S', hE⟩ := P
          have x1 : Ext (fun a => M a ∨ a = D) H1 H := hE.weak fun a z => z.imp (S1.dM a) id
          exact ⟨x1 _ _ ha fun z => z.elim hm (ne_of_none ha hD), (DmA.more hD hd).mono x1⟩
        refine lc_enumT (c0 := 0) (K := K0) (a := p) (xs := xs) (LcP c M σ env D H1 I) ⟨[], [], n1, upd_same, .nil, Nat.le_refl _, i0, S1.fresh hD, Ext.new hD⟩ (fun k H' P => SqT.of (keep P).1) (fun k x T H' hx P hT => ?_) fun H' P => ?_
        · obtain ⟨d, hd1, hd3⟩ := (keep P).2.getV hx
          have hk : k < ds.length := by
            obtain ⟨z, _⟩ := List.getElem?_eq_some_iff.1 hd1
            exact z
          have e0 : (0 : Int) + (k : Int) = (k : Int) := by omega
          rw [e0]
          exact lc_step2 (d := IV (k : Int)) (e := .dat d) hij hT nd h0 hs (by omega) P (Dm.int _) hd3 (iS k d hd1)
        · rw [hd.length] at P
          exact lc_end S1 hD e1 P iE
  · exact q1.elim
theorem fe_lcET {i j : Nat} (h : PE X e (tLc (iEnumT X.K (cA tl)) (gTup X.K 2 (gAll [i, j])) (cT tt) (cE tb) [i, j])) : FE X e (dLcET i j tl tt tb) := FE.of h fun c M σ H env n R S q => rd_lcET (K0 := X.K) c M σ H env n R S q
end
end Sx

set_option Elab.async false
set_option linter.all false
set_option maxRecDepth 100000
set_option maxHeartbeats 2000000
/-! Sx27: while; the last binary place, half -/
namespace Sx
open PySem L2
/-- while tt: tb, a measure going down -/
def dWhile (tt : DTB) (tb : DTS) : DTS := fun F env n => ∃ I : Nat → En → Nat → Prop, (∃ m, I m env n) ∧
  ∀ m env n, I m env n → tt env n fun b n1 => if b = true then tb { F with nx := fun env' n' => ∃ m', m' < m ∧ I m' env' n', ct := fun env' n' => ∃ m', m' < m ∧ I m' env' n', bk := F.nx } env n1 else F.nx env n1
section
variable {X : Cx} {tt : DTB} {ts : DTS}
theorem fs_while {st : Stmt} (h : PS X st (tWhile (cT tt) (cS ts))) : FS X st (dWhile tt ts) := FS.of h fun c M σ H env n F E S q k => by
  obtain ⟨I, ⟨m0, i0⟩, iS⟩ := q
  refine ⟨fun m σ H => ∃ M env n, Sta c M σ H env n ∧ I m env n, ⟨m0, M, env, n, S, i0⟩, ?_⟩
  rintro m σ' H' ⟨M', env', n', S', hI⟩
  refine goT S' (iS m env' n' hI) fun b H1 n1 e1 w1 q1 => ?_
  cases b with
  | true =>
    rw [if_pos rfl] at q1 ⊢
    refine ⟨fun σ2 H2 => ∃ m', m' < m ∧ ∃ M env n, Sta c M σ2 H2 env n ∧ I m' env n, fun σ2 H2 h => h, ?_⟩
    exact goS (S'.step e1 w1) q1 ⟨fun M2 σ2 H2 env2 n2 S2 ⟨m', hm, h2⟩ => ⟨m', hm, M2, env2, n2, S2, h2⟩, k.nx, fun M2 σ2 H2 env2 n2 S2 ⟨m', hm, h2⟩ => ⟨m', hm, M2, env2, n2, S2, h2⟩, k.rt⟩
  | false =>
    rw [if_neg Bool.false_ne_true] at q1 ⊢
    exact k.nx M' σ' H1 env' n1 (S'.step e1 w1) q1
end
def oOdd : DO2 := fun x y R => match x, y with
  | .dat (.int i), .dat (.int j) => 0 ≤ i ∧ j = 1 ∧ R (IV (i % 2))
  | _, _ => False
def oHalf : DO2 := fun x y R => match x, y with
  | .dat (.int i), .dat (.int j) => 0 ≤ i ∧ j = 1 ∧ R (IV (i / 2))
  | _, _ => False
theorem ok_odd : OkO (fun x y H Q => ∃ n : Nat, x = .int (n : Int) ∧ y = .int 1 ∧ Q (.int ((n % 2 : Nat) : Int)) H) oOdd := fun c M H x y d f n R Q hd hr w hx hy h k => by
  unfold oOdd at h
  split at h
  · rename_i i j
    cases hx
    cases hy
    obtain ⟨h0, rfl, q⟩ := h
    obtain ⟨m, rfl⟩ := Int.eq_ofNat_of_zero_le h0
    exact ⟨m, rfl, rfl, k _ H (IV ((m % 2 : Nat) : Int)) (Ext.rfl' H) w (.int _) (by rw [Int.natCast_emod]; exact q)⟩
  · exact h.elim
theorem ok_half : OkO (fun x y H Q => ∃ n : Nat, x = .int (n : Int) ∧ y = .int 1 ∧ Q (.int ((n / 2 : Nat) : Int)) H) oHalf := fun c M H x y d f n R Q hd hr w hx hy h k => by
  unfold oHalf at h
  split at h
  · rename_i i j
    cases hx
    cases hy
    obtain ⟨h0, rfl, q⟩ := h
    obtain ⟨m, rfl⟩ := Int.eq_ofNat_of_zero_le h0
    exact ⟨m, rfl, rfl, k _ H (IV ((m / 2 : Nat) : Int)) (Ext.rfl' H) w (.int _) (by rw [Int.natCast_ediv]; exact q)⟩
  · exact h.elim
section
variable {X : Cx} {a b : Expr} {ta tb : DT} {pos : Pos}
theorem fe_odd (ha : FE X a ta) (hb : FE X b tb) : FE X (.BinOp a .BitAnd b pos) (dOp oOdd ta tb) := fe_op op_odd ok_odd ha hb
theorem fe_half (ha : FE X a ta) (hb : FE X b tb) : FE X (.BinOp a .RShift b pos) (dOp oHalf ta tb) := fe_op op_halfN ok_half ha hb
end
theorem oOdd_ap (i j : Int) (R : DV → Prop) : oOdd (.dat (.int i)) (.dat (.int j)) R = (0 ≤ i ∧ j = 1 ∧ R (IV (i % 2))) := propext Iff.rfl
theorem oHalf_ap (i j : Int) (R : DV → Prop) : oHalf (.dat (.int i)) (.dat (.int j)) R = (0 ≤ i ∧ j = 1 ∧ R (IV (i / 2))) := propext Iff.rfl
end Sx

/-! Fr: fractions as Rat, sizes by powers of two. Core Lean. -/
namespace Sx
/-- below 2 ^ k -/
def B (k n : Nat) : Prop := n < 2 ^ k
theorem B.mono {k l n : Nat} (h : B k n) (e : k ≤ l) : B l n := Nat.lt_of_lt_of_le h (Nat.pow_le_pow_right (by decide) e)
theorem B.le {k m n : Nat} (h : B k n) (e : m ≤ n) : B k m := Nat.lt_of_le_of_lt e h
theorem B.mul {a b m n : Nat} (h : B a m) (g : B b n) : B (a + b) (m * n) := by
  unfold B at *
  rw [Nat.pow_add]
  exact Nat.mul_lt_mul'' h g
theorem B.add {a b m n : Nat} (h : B a m) (g : B b n) : B (a + b + 1) (m + n) := by
  unfold B at *
  have h1 : 2 ^ a ≤ 2 ^ (a + b) := Nat.pow_le_pow_right (by decide) (by omega)
  have h2 : 2 ^ b ≤ 2 ^ (a + b) := Nat.pow_le_pow_right (by decide) (by omega)
  rw [Nat.pow_succ]
  omega
theorem B.add2 {k m n : Nat} (h : B k m) (g : B k n) : B (k + 1) (m + n) := by
  unfold B at *
  rw [Nat.pow_succ]
  omega
theorem B.of {k n : Nat} (h : n < 2 ^ k) : B k n := h
/-- a quotient in lowest terms -/
theorem red {a b : Int} (hb : 0 < b) : ((a : Rat) / (b : Rat)).num = a / (Nat.gcd a.natAbs b.natAbs : Nat) ∧ ((((a : Rat) / (b : Rat)).den : Nat) : Int) = b / (Nat.gcd a.natAbs b.natAbs : Nat) := by
  obtain ⟨n, rfl⟩ : ∃ n : Nat, b = (n : Int) := ⟨b.toNat, by omega⟩
  have e : (a : Rat) / ((n : Int) : Rat) = mkRat a n := by rw [Rat.mkRat_eq_div]; rfl
  have nz : n ≠ 0 := by omega
  rw [e]
  have e2 : mkRat a n = Rat.normalize a n nz := by rw [Rat.mkRat_def, dif_neg nz]
  rw [e2, Rat.normalize_eq]
  refine ⟨rfl, ?_⟩
  simp only [Int.natAbs_natCast]
  rw [Int.natCast_ediv]
theorem den_pos (q : Rat) : 0 < (q.den : Int) := by have := q.den_pos; omega
theorem den_ne (q : Rat) : ((q.den : Int) : Rat) ≠ 0 := by
  intro z
  have := den_pos q
  have z2 : (q.den : Int) = 0 := by exact_mod_cast z
  omega
theorem as_div (q : Rat) : q = ((q.num : Int) : Rat) / ((q.den : Int) : Rat) := by
  have h := Rat.mkRat_self q
  rw [Rat.mkRat_eq_div] at h
  exact h.symm
theorem add_div' (p q : Rat) : ((p.num * q.den + q.num * p.den : Int) : Rat) / ((p.den * q.den : Int) : Rat) = p + q := by
  have h1 := den_ne p
  have h2 := den_ne q
  have e1 := as_div p
  have e2 := as_div q
  rw [Rat.intCast_add, Rat.intCast_mul, Rat.intCast_mul, Rat.intCast_mul]
  generalize ((p.num : Int) : Rat) = a at *
  generalize ((p.den : Int) : Rat) = b at *
  generalize ((q.num : Int) : Rat) = c at *
  generalize ((q.den : Int) : Rat) = d at *
  subst e1 e2
  grind
theorem sub_div' (p q : Rat) : ((p.num * q.den - q.num * p.den : Int) : Rat) / ((p.den * q.den : Int) : Rat) = p - q := by
  have h1 := den_ne p
  have h2 := den_ne q
  have e1 := as_div p
  have e2 := as_div q
  rw [Rat.intCast_sub, Rat.intCast_mul, Rat.intCast_mul, Rat.intCast_mul]
  generalize ((p.num : Int) : Rat) = a at *
  generalize ((p.den : Int) : Rat) = b at *
  generalize ((q.num : Int) : Rat) = c at *
  generalize ((q.den : Int) : Rat) = d at *
  subst e1 e2
  grind
theorem mul_div' (p q : Rat) : ((p.num * q.num : Int) : Rat) / ((p.den * q.den : Int) : Rat) = p * q := by
  have h1 := den_ne p
  have h2 := den_ne q
  have e1 := as_div p
  have e2 := as_div q
  rw [Rat.intCast_mul, Rat.intCast_mul]
  generalize ((p.num : Int) : Rat) = a at *
  generalize ((p.den : Int) : Rat) = b at *
  generalize ((q.num : Int) : Rat) = c at *
  generalize ((q.den : Int) : Rat) = d at *
  subst e1 e2
  grind
theorem num_pos_iff (q : Rat) : 0 < q.num ↔ 0 < q := by
  rw [Rat.lt_iff]
  simp
theorem div_div' (p q : Rat) (hq : 0 < q) : ((p.num * q.den : Int) : Rat) / ((p.den * q.num : Int) : Rat) = p / q := by
  have h1 := den_ne p
  have h2 := den_ne q
  have h3 : ((q.num : Int) : Rat) ≠ 0 := by
    intro z
    have := (num_pos_iff q).2 hq
    have z2 : q.num = 0 := by exact_mod_cast z
    omega
  have e1 := as_div p
  have e2 := as_div q
  clear hq
  rw [Rat.intCast_mul, Rat.intCast_mul]
  generalize ((p.num : Int) : Rat) = a at *
  generalize ((p.den : Int) : Rat) = b at *
  generalize ((q.num : Int) : Rat) = c at *
  generalize ((q.den : Int) : Rat) = d at *
  subst e1 e2
  grind
/-- a fraction of fewer than k bits above and below -/
structure Sz (k : Nat) (q : Rat) : Prop where
  n : B k q.num.natAbs
  d : B k q.den
theorem Sz.mono {k l : Nat} {q : Rat} (h : Sz k q) (e : k ≤ l) : Sz l q := ⟨h.n.mono e, h.d.mono e⟩
theorem ediv_natAbs_le (a : Int) (g : Nat) : (a / (g : Int)).natAbs ≤ a.natAbs := by
  cases g with
  | zero => simp
  | succ g =>
    have h := Int.natAbs_ediv_le_natAbs a ((g + 1 : Nat) : Int)
    exact h
theorem Sz.of_div {k : Nat} {a b : Int} (hb : 0 < b) (ha : B k a.natAbs) (h : B k b.natAbs) : Sz k ((a : Rat) / (b : Rat)) := by
  obtain ⟨e1, e2⟩ := red (a := a) hb
  constructor
  · rw [e1]; exact ha.le (ediv_natAbs_le _ _)
  · refine h.le ?_
    have := ediv_natAbs_le b (Nat.gcd a.natAbs b.natAbs)
    rw [← e2] at this
    omega
theorem mul_pos' {a b : Int} (h : 0 < a) (g : 0 < b) : 0 < a * b := Int.mul_pos h g
theorem natAbs_mul_B {a b : Nat} {x y : Int} (h : B a x.natAbs) (g : B b y.natAbs) : B (a + b) (x * y).natAbs := by rw [Int.natAbs_mul]; exact h.mul g
theorem natAbs_add_B {a b : Nat} {x y : Int} (h : B a x.natAbs) (g : B b y.natAbs) : B (a + b + 1) (x + y).natAbs := (h.add g).le (by omega)
theorem natAbs_sub_B {a b : Nat} {x y : Int} (h : B a x.natAbs) (g : B b y.natAbs) : B (a + b + 1) (x - y).natAbs := (h.add g).le (by omega)
theorem den_B {k : Nat} {q : Rat} (h : Sz k q) : B k ((q.den : Nat) : Int).natAbs := by simpa using h.d
theorem Sz.mul {a b : Nat} {p q : Rat} (h : Sz a p) (g : Sz b q) : Sz (a + b) (p * q) := by
  rw [← mul_div']
  exact Sz.of_div (mul_pos' (den_pos p) (den_pos q)) (natAbs_mul_B h.n g.n) (natAbs_mul_B (den_B h) (den_B g))
theorem natAbs_add_B2 {k : Nat} {x y : Int} (h : B k x.natAbs) (g : B k y.natAbs) : B (k + 1) (x + y).natAbs := (h.add2 g).le (by omega)
theorem natAbs_sub_B2 {k : Nat} {x y : Int} (h : B k x.natAbs) (g : B k y.natAbs) : B (k + 1) (x - y).natAbs := (h.add2 g).le (by omega)
theorem Sz.add {a b : Nat} {p q : Rat} (h : Sz a p) (g : Sz b q) : Sz (a + b + 1) (p + q) := by
  rw [← add_div']
  refine Sz.of_div (mul_pos' (den_pos p) (den_pos q)) (natAbs_add_B2 (natAbs_mul_B h.n (den_B g)) ((natAbs_mul_B g.n (den_B h)).mono (by omega))) ((natAbs_mul_B (den_B h) (den_B g)).mono (by omega))
theorem Sz.sub {a b : Nat} {p q : Rat} (h : Sz a p) (g : Sz b q) : Sz (a + b + 1) (p - q) := by
  rw [← sub_div']
  refine Sz.of_div (mul_pos' (den_pos p) (den_pos q)) (natAbs_sub_B2 (natAbs_mul_B h.n (den_B g)) ((natAbs_mul_B g.n (den_B h)).mono (by omega))) ((natAbs_mul_B (den_B h) (den_B g)).mono (by omega))
theorem Sz.div {a b : Nat} {p q : Rat} (h : Sz a p) (g : Sz b q) (hq : 0 < q) : Sz (a + b) (p / q) := by
  rw [← div_div' p q hq]
  exact Sz.of_div (mul_pos' (den_pos p) ((num_pos_iff q).2 hq)) (natAbs_mul_B h.n (den_B g)) (natAbs_mul_B (den_B h) g.n)
theorem Sz.neg {a : Nat} {p : Rat} (h : Sz a p) : Sz a (-p) := ⟨by rw [Rat.neg_num]; simpa using h.n, by rw [Rat.neg_den]; exact h.d⟩
theorem lt_num (p q : Rat) : p.num * q.den < q.num * p.den ↔ p < q := (Rat.lt_iff p q).symm
theorem mul_code (p q : Rat) : (p * q).num = p.num / ((Nat.gcd p.num.natAbs q.den : Nat) : Int) * (q.num / ((Nat.gcd q.num.natAbs p.den : Nat) : Int)) ∧ (((p * q).den : Nat) : Int) = (p.den : Int) / ((Nat.gcd q.num.natAbs p.den : Nat) : Int) * ((q.den : Int) / ((Nat.gcd p.num.natAbs q.den : Nat) : Int)) := by
  have e : p * q = Rat.mul p q := rfl
  rw [e]
  unfold Rat.mul
  simp only [Int.divExact_eq_ediv, Nat.divExact_eq_div]
  refine ⟨trivial, ?_⟩
  rw [Int.natCast_mul, Int.natCast_ediv, Int.natCast_ediv]
theorem sum_code (p q : Rat) :
   (p + q).num = (p.num * ((q.den / (Nat.gcd p.den q.den) : Nat) : Int) + q.num * ((p.den / (Nat.gcd p.den q.den) : Nat) : Int)) / ((Nat.gcd (p.num * ((q.den / (Nat.gcd p.den q.den) : Nat) : Int) + q.num * ((p.den / (Nat.gcd p.den q.den) : Nat) : Int)).natAbs (Nat.gcd p.den q.den) : Nat) : Int)
   ∧ (p + q).den = (p.den / (Nat.gcd p.den q.den)) * (q.den / (Nat.gcd (p.num * ((q.den / (Nat.gcd p.den q.den) : Nat) : Int) + q.num * ((p.den / (Nat.gcd p.den q.den) : Nat) : Int)).natAbs (Nat.gcd p.den q.den) : Nat)) := by
  have e : p + q = Rat.add p q := rfl
  rw [e]
  unfold Rat.add
  by_cases h : p.den.gcd q.den = 1
  · simp only [dif_pos h]
    simp [h]
  · simp only [dif_neg h]
    rw [Rat.maybeNormalize_eq]
    refine ⟨?_, ?_⟩
    · simp only [Int.divExact_eq_ediv]
    · simp only [Nat.divExact_eq_div]
      rw [Nat.mul_div_assoc]
      exact Nat.dvd_trans (Nat.gcd_dvd_right _ _) (Nat.gcd_dvd_right _ _)
theorem inv_num (q : Rat) (h : 0 < q) : (q⁻¹).num = q.den ∧ (((q⁻¹).den : Nat) : Int) = q.num := by
  have hn := (num_pos_iff q).2 h
  have e : q⁻¹ = Rat.inv q := rfl
  rw [e]
  unfold Rat.inv
  rw [dif_neg (by omega), dif_pos hn]
  exact ⟨rfl, by simp; omega⟩
theorem div_inv (p q : Rat) : p / q = p * q⁻¹ := Rat.div_def p q
end Sx

set_option Elab.async false
set_option linter.all false
set_option maxRecDepth 100000
set_option maxHeartbeats 4000000
namespace Sx
open PySem PySem.Spec L2
theorem atI_0 {α : Type} (x : α) (r : List α) : atI (x :: r) 0 = some x := atI_nat (j := 0) rfl
theorem atI_1 {α : Type} (x y : α) (r : List α) : atI (x :: y :: r) 1 = some y := atI_nat (j := 1) rfl
theorem atI_2 {α : Type} (x y z : α) (r : List α) : atI (x :: y :: z :: r) 2 = some z := atI_nat (j := 2) rfl
theorem atI_3 {α : Type} (x y z u : α) (r : List α) : atI (x :: y :: z :: u :: r) 3 = some u := atI_nat (j := 3) rfl
/-- a fraction -/
def fr (q : Rat) : PyData := .tuple [.int q.num, .int q.den]
abbrev FV (q : Rat) : DV := .dat (fr q)
theorem ixT_tup (ds : List PyData) (i : Int) (f : DV → Prop) : oIxT (.dat (.tuple ds)) (.dat (.int i)) f = (match atI ds i with | some d => f (.dat d) | none => False) := rfl
theorem ixL_lst (ds : List PyData) (i : Int) (f : DV → Prop) : oIxL (.dat (.list ds)) (.dat (.int i)) f = (match atI ds i with | some d => f (.dat d) | none => False) := rfl
theorem isNone_fr (q : Rat) : isNone (fr q) = false := rfl
theorem isNone_non : isNone .none = true := rfl
theorem isNone_tup (ds : List PyData) : isNone (.tuple ds) = false := rfl
theorem isNone_list (ds : List PyData) : isNone (.list ds) = false := rfl
theorem isNone_int (i : Int) : isNone (.int i) = false := rfl
theorem isNone_bool (i : Bool) : isNone (.bool i) = false := rfl
theorem fr_at0 (q : Rat) (f : DV → Prop) : oIxT (.dat (fr q)) (.dat (.int 0)) f = f (IV q.num) := by
  show (match atI [PyData.int q.num, PyData.int q.den] 0 with | some d => f (.dat d) | none => False) = _
  rw [atI_0]
theorem fr_at1 (q : Rat) (f : DV → Prop) : oIxT (.dat (fr q)) (.dat (.int 1)) f = f (IV q.den) := by
  show (match atI [PyData.int q.num, PyData.int q.den] 1 with | some d => f (.dat d) | none => False) = _
  rw [atI_1]
/-- ints that are multiplied, divided by -/
theorem mulB {a b : Nat} {i j : Int} (h : B a i.natAbs) (g : B b j.natAbs) (e : a + b ≤ 900000) : CMulW i j := wide_mul (Nat.lt_of_lt_of_le h (Nat.pow_le_pow_right (by decide) (Nat.le_succ a))) (Nat.lt_of_lt_of_le g (Nat.pow_le_pow_right (by decide) (Nat.le_succ b))) (Nat.succ_pos _) (Nat.succ_pos _) (by omega)
theorem logB {k n : Nat} (h : B k n) (e : k < 9000) : n.log2 < 9000 := by
  by_cases z : n = 0
  · subst z; decide
  · exact (Nat.log2_lt z).2 (Nat.lt_of_lt_of_le h (Nat.pow_le_pow_right (by decide) (by omega)))
theorem divB {b : Nat} {i j : Int} (h : 0 < j) (g : B b j.natAbs) (e : b < 9000) : CDivW i j := ⟨h, logB g e⟩
theorem eqv_int (i j : Int) : PyData.eqv (.int i) (.int j) = (i == j) := by simp only [PyData.eqv]
theorem shaped_int (i : Int) : SeqAt.shaped (.int i) = true := by
  unfold SeqAt.shaped
  simp only [PyData.canLay0, PyData.depth]
  rfl
/-! ### the program's fractions -/
def s_reduced : DSp := fun ds n R => ∃ a b : Int, ds = [IV a, IV b] ∧ 0 < b ∧ B 8500 a.natAbs ∧ B 8500 b.natAbs ∧ R (FV ((a : Rat) / (b : Rat))) n
/-- reduced. Slots: above, below, divisor -/
def t_reduced : DTS :=
  (dSeq (dAsg 2 (dCB oGcd (dCons (dVar 0) (dCons (dVar 1) dNil))))
  (dSeq (dIfS (dTest (dOp oLt (dVar 1) (dC (.int 0)))) (dAsg 2 (dUn oNeg (dVar 2))) dNext)
  (dRet (dTup (dCons (dOp oDiv (dVar 0) (dVar 2)) (dCons (dOp oDiv (dVar 1) (dVar 2)) dNil))))))
theorem gcd_pos {a b : Int} (h : 0 < b) : 0 < ((Nat.gcd a.natAbs b.natAbs : Nat) : Int) := by
  have := Nat.gcd_pos_of_pos_right a.natAbs (show 0 < b.natAbs by omega)
  omega
theorem gcd_B {k : Nat} {a b : Int} (h : 0 < b) (g : B k b.natAbs) : B k (((Nat.gcd a.natAbs b.natAbs : Nat) : Int)).natAbs := by
  refine g.le ?_
  have := Nat.gcd_le_right a.natAbs (show 0 < b.natAbs by omega)
  simpa using this
theorem p_reduced (ds : List DV) (n : Nat) (R : DV → Nat → Prop) (h : s_reduced ds n R) : t_reduced { nx := fun _ n => R (.dat .none) n, rt := R } (entry 3 ds) n := by
  obtain ⟨a, b, rfl, hb, ha, hb2, q⟩ := h
  have nb : ¬ b < 0 := by omega
  simp only [t_reduced, dSliceA, oCatA, dIsi, pR3, pR4, pR5, dSeq, dAsg, dVar, dC, dOp, dUn, dCB, dCall, dCallK, pId, pRev, dCons, dNil, dTup, dLst, dRet, dRetN, dIfS, dTest, dNot, dAnd, dOr, dIf, dAndV, dOrV, dNotV, dNext, dDrop, dUnp, setAll, dPar, dPar3, dTy, tyD, dChain, dChain3, oI, oI0, oGcd, oLen, oAbs, oInt, ixT_tup, ixL_lst, fr_at0, fr_at1, oNeg, oEq, oNe, oRepr, oEqS, oCat, oRepL, allD, dSliceL, dSliceT, oCatT, oIsN, oNotN, isNone_fr, isNone_non, isNone_tup, isNone_list, isNone_int, isNone_bool, dPart, dNoPart, dAsgOwn, dFreeze, dParO2, dParO3, dPeekT, dPeekI, dYes, oSum, oTupOf, oMin, oIsB, oNotB, oMax, oMinL, dParOD, dParDO, dAppend, entry, atI_0, atI_1, atI_2, atI_3, List.map_cons, List.map_nil, List.length_cons, List.length_nil, List.set_cons_zero, List.set_cons_succ, List.getElem?_cons_zero, List.getElem?_cons_succ, List.cons_append, List.nil_append, Nat.reduceAdd, Nat.reduceSub, Nat.reduceLeDiff, List.replicate, Bool.false_eq_true, if_false, if_true, ite_true, ite_false, true_and, and_true, Bool.not_true, Bool.not_false, decide_true, decide_false, nb]
  have g0 := gcd_pos (a := a) hb
  have gB := gcd_B (a := a) hb hb2
  refine ⟨divB g0 gB (by decide), divB g0 gB (by decide), ?_⟩
  obtain ⟨e1, e2⟩ := red (a := a) hb
  rw [← e1, ← e2]
  exact q
abbrev Goal (t : DTS) (m : Nat) (ds : List DV) (n : Nat) (R : DV → Nat → Prop) : Prop := t { nx := fun _ n => R (.dat .none) n, rt := R } (entry m ds) n
def s_sum_of : DSp := fun ds n R => ∃ p q : Rat, ds = [FV p, FV q] ∧ Sz 8000 p ∧ Sz 8000 q ∧ R (FV (p + q)) n
def s_difference_of : DSp := fun ds n R => ∃ p q : Rat, ds = [FV p, FV q] ∧ Sz 8000 p ∧ Sz 8000 q ∧ R (FV (p - q)) n
def s_product_of : DSp := fun ds n R => ∃ p q : Rat, ds = [FV p, FV q] ∧ Sz 8000 p ∧ Sz 8000 q ∧ R (FV (p * q)) n
def s_quotient_of : DSp := fun ds n R => ∃ p q : Rat, ds = [FV p, FV q] ∧ Sz 8000 p ∧ Sz 8000 q ∧ 0 < q ∧ R (FV (p / q)) n
def s_negative_of : DSp := fun ds n R => ∃ p : Rat, ds = [FV p] ∧ R (FV (-p)) n
def s_is_less : DSp := fun ds n R => ∃ a b c d : Int, ds = [TV [.int a, .int b], TV [.int c, .int d]] ∧ (B 400000 a.natAbs ∧ B 400000 b.natAbs ∧ B 400000 c.natAbs ∧ B 400000 d.natAbs) ∧ R (BV (decide (a * d < c * b))) n
/-- sum_of. Slots: one, other, shared, part, above, common -/
def t_sum_of : DTS :=
  (dSeq (dAsg 2 (dCB oGcd (dCons (dOp oIxT (dVar 0) (dC (.int 1))) (dCons (dOp oIxT (dVar 1) (dC (.int 1))) dNil))))
  (dSeq (dAsg 3 (dOp oDiv (dOp oIxT (dVar 0) (dC (.int 1))) (dVar 2)))
  (dSeq (dAsg 4 (dOp oAdd (dOp oMul (dOp oIxT (dVar 0) (dC (.int 0))) (dOp oDiv (dOp oIxT (dVar 1) (dC (.int 1))) (dVar 2))) (dOp oMul (dOp oIxT (dVar 1) (dC (.int 0))) (dVar 3))))
  (dSeq (dAsg 5 (dCB oGcd (dCons (dVar 4) (dCons (dVar 2) dNil))))
  (dRet (dTup (dCons (dOp oDiv (dVar 4) (dVar 5)) (dCons (dOp oMul (dVar 3) (dOp oDiv (dOp oIxT (dVar 1) (dC (.int 1))) (dVar 5))) dNil))))))))
/-- difference_of. Slots: one, other -/
def t_difference_of : DTS :=
  (dRet (dCall s_sum_of (dCons (dVar 0) (dCons (dCall s_negative_of (dCons (dVar 1) dNil)) dNil))))
/-- product_of. Slots: one, other, first, second -/
def t_product_of : DTS :=
  (dSeq (dAsg 2 (dCB oGcd (dCons (dOp oIxT (dVar 0) (dC (.int 0))) (dCons (dOp oIxT (dVar 1) (dC (.int 1))) dNil))))
  (dSeq (dAsg 3 (dCB oGcd (dCons (dOp oIxT (dVar 1) (dC (.int 0))) (dCons (dOp oIxT (dVar 0) (dC (.int 1))) dNil))))
  (dRet (dTup (dCons (dOp oMul (dOp oDiv (dOp oIxT (dVar 0) (dC (.int 0))) (dVar 2)) (dOp oDiv (dOp oIxT (dVar 1) (dC (.int 0))) (dVar 3))) (dCons (dOp oMul (dOp oDiv (dOp oIxT (dVar 0) (dC (.int 1))) (dVar 3)) (dOp oDiv (dOp oIxT (dVar 1) (dC (.int 1))) (dVar 2))) dNil))))))
/-- quotient_of. Slots: one, other, above, below -/
def t_quotient_of : DTS :=
  (dSeq (dUnp [2, 3] (dVar 1))
  (dSeq (dIfS (dTest (dOp oLt (dVar 2) (dC (.int 0)))) (dPar 2 3 (dCons (dUn oNeg (dVar 2)) (dCons (dUn oNeg (dVar 3)) dNil))) dNext)
  (dRet (dCall s_product_of (dCons (dVar 0) (dCons (dTup (dCons (dVar 3) (dCons (dVar 2) dNil))) dNil))))))
/-- negative_of. Slots: one -/
def t_negative_of : DTS :=
  (dRet (dTup (dCons (dUn oNeg (dOp oIxT (dVar 0) (dC (.int 0)))) (dCons (dOp oIxT (dVar 0) (dC (.int 1))) dNil))))
/-- is_less. Slots: one, other -/
def t_is_less : DTS :=
  (dRet (dOp oLt (dOp oMul (dOp oIxT (dVar 0) (dC (.int 0))) (dOp oIxT (dVar 1) (dC (.int 1)))) (dOp oMul (dOp oIxT (dVar 1) (dC (.int 0))) (dOp oIxT (dVar 0) (dC (.int 1))))))
theorem p_negative_of (ds : List DV) (n : Nat) (R : DV → Nat → Prop) (h : s_negative_of ds n R) : Goal t_negative_of 1 ds n R := by
  obtain ⟨p, rfl, k⟩ := h
  simp only [Goal, t_negative_of, fr, dSliceA, oCatA, dIsi, pR3, pR4, pR5, dSeq, dAsg, dVar, dC, dOp, dUn, dCB, dCall, dCallK, pId, pRev, dCons, dNil, dTup, dLst, dRet, dRetN, dIfS, dTest, dNot, dAnd, dOr, dIf, dAndV, dOrV, dNotV, dNext, dDrop, dUnp, setAll, dPar, dPar3, dTy, tyD, dChain, dChain3, oI, oI0, oGcd, oLen, oAbs, oInt, ixT_tup, ixL_lst, fr_at0, fr_at1, oNeg, oEq, oNe, oRepr, oEqS, oCat, oRepL, allD, dSliceL, dSliceT, oCatT, oIsN, oNotN, isNone_fr, isNone_non, isNone_tup, isNone_list, isNone_int, isNone_bool, dPart, dNoPart, dAsgOwn, dFreeze, dParO2, dParO3, dPeekT, dPeekI, dYes, oSum, oTupOf, oMin, oIsB, oNotB, oMax, oMinL, dParOD, dParDO, dAppend, entry, atI_0, atI_1, atI_2, atI_3, List.map_cons, List.map_nil, List.length_cons, List.length_nil, List.set_cons_zero, List.set_cons_succ, List.getElem?_cons_zero, List.getElem?_cons_succ, List.cons_append, List.nil_append, Nat.reduceAdd, Nat.reduceSub, Nat.reduceLeDiff, List.replicate, Bool.false_eq_true, if_false, if_true, ite_true, ite_false, true_and, and_true, Bool.not_true, Bool.not_false, decide_true, decide_false]
  exact k
theorem gcdN_pos {m n : Nat} (h : 0 < n) : 0 < ((Nat.gcd m n : Nat) : Int) := by
  have := Nat.gcd_pos_of_pos_right m h
  omega
theorem gcdN_B {k m n : Nat} (h : 0 < n) (g : B k n) : B k (((Nat.gcd m n : Nat) : Int)).natAbs := by
  refine g.le ?_
  have := Nat.gcd_le_right m h
  simpa using this
theorem natB {k m : Nat} (h : B k m) : B k ((m : Nat) : Int).natAbs := by rw [Int.natAbs_natCast]; exact h
theorem p_sum_of (ds : List DV) (n : Nat) (R : DV → Nat → Prop) (h : s_sum_of ds n R) : Goal t_sum_of 6 ds n R := by
  obtain ⟨p, q, rfl, hp, hq, k⟩ := h
  have dp := p.den_pos
  have dq := q.den_pos
  have g0 : 0 < ((Nat.gcd p.den q.den : Nat) : Int) := gcdN_pos dq
  have gB : B 8000 ((Nat.gcd p.den q.den : Nat) : Int).natAbs := gcdN_B dq hq.d
  have sc := sum_code p q
  have e1 : (q.den : Int) / ((Nat.gcd p.den q.den : Nat) : Int) = ((q.den / Nat.gcd p.den q.den : Nat) : Int) := (Int.natCast_ediv _ _).symm
  have e2 : (p.den : Int) / ((Nat.gcd p.den q.den : Nat) : Int) = ((p.den / Nat.gcd p.den q.den : Nat) : Int) := (Int.natCast_ediv _ _).symm
  have b1 : B 8000 ((q.den / Nat.gcd p.den q.den : Nat) : Int).natAbs := natB (hq.d.le (Nat.div_le_self _ _))
  have b2 : B 8000 ((p.den / Nat.gcd p.den q.den : Nat) : Int).natAbs := natB (hp.d.le (Nat.div_le_self _ _))
  simp only [Goal, t_sum_of, fr, dSliceA, oCatA, dIsi, pR3, pR4, pR5, dSeq, dAsg, dVar, dC, dOp, dUn, dCB, dCall, dCallK, pId, pRev, dCons, dNil, dTup, dLst, dRet, dRetN, dIfS, dTest, dNot, dAnd, dOr, dIf, dAndV, dOrV, dNotV, dNext, dDrop, dUnp, setAll, dPar, dPar3, dTy, tyD, dChain, dChain3, oI, oI0, oGcd, oLen, oAbs, oInt, ixT_tup, ixL_lst, fr_at0, fr_at1, oNeg, oEq, oNe, oRepr, oEqS, oCat, oRepL, allD, dSliceL, dSliceT, oCatT, oIsN, oNotN, isNone_fr, isNone_non, isNone_tup, isNone_list, isNone_int, isNone_bool, dPart, dNoPart, dAsgOwn, dFreeze, dParO2, dParO3, dPeekT, dPeekI, dYes, oSum, oTupOf, oMin, oIsB, oNotB, oMax, oMinL, dParOD, dParDO, dAppend, entry, atI_0, atI_1, atI_2, atI_3, List.map_cons, List.map_nil, List.length_cons, List.length_nil, List.set_cons_zero, List.set_cons_succ, List.getElem?_cons_zero, List.getElem?_cons_succ, List.cons_append, List.nil_append, Nat.reduceAdd, Nat.reduceSub, Nat.reduceLeDiff, List.replicate, Bool.false_eq_true, if_false, if_true, ite_true, ite_false, true_and, and_true, Bool.not_true, Bool.not_false, decide_true, decide_false, Int.natAbs_natCast, e1, e2]
  generalize ha : p.num * ((q.den / Nat.gcd p.den q.den : Nat) : Int) + q.num * ((p.den / Nat.gcd p.den q.den : Nat) : Int) = a at *
  have gp : 0 < Nat.gcd p.den q.den := by omega
  have h0 : 0 < ((Nat.gcd a.natAbs (Nat.gcd p.den q.den) : Nat) : Int) := gcdN_pos gp
  have hB : B 8000 ((Nat.gcd a.natAbs (Nat.gcd p.den q.den) : Nat) : Int).natAbs := gcdN_B gp (by simpa using gB)
  have e3 : (q.den : Int) / ((Nat.gcd a.natAbs (Nat.gcd p.den q.den) : Nat) : Int) = ((q.den / Nat.gcd a.natAbs (Nat.gcd p.den q.den) : Nat) : Int) := (Int.natCast_ediv _ _).symm
  have b3 : B 8000 ((q.den / Nat.gcd a.natAbs (Nat.gcd p.den q.den) : Nat) : Int).natAbs := natB (hq.d.le (Nat.div_le_self _ _))
  rw [e3]
  refine ⟨divB g0 gB (by decide), divB g0 gB (by decide), mulB hp.n b1 (by decide), mulB hq.n b2 (by decide), divB h0 hB (by decide), divB h0 hB (by decide), mulB b2 b3 (by decide), ?_⟩
  rw [← Int.natCast_mul, ← sc.1, ← sc.2]
  exact k
theorem p_product_of (ds : List DV) (n : Nat) (R : DV → Nat → Prop) (h : s_product_of ds n R) : Goal t_product_of 4 ds n R := by
  obtain ⟨p, q, rfl, hp, hq, k⟩ := h
  simp only [Goal, t_product_of, fr, dSliceA, oCatA, dIsi, pR3, pR4, pR5, dSeq, dAsg, dVar, dC, dOp, dUn, dCB, dCall, dCallK, pId, pRev, dCons, dNil, dTup, dLst, dRet, dRetN, dIfS, dTest, dNot, dAnd, dOr, dIf, dAndV, dOrV, dNotV, dNext, dDrop, dUnp, setAll, dPar, dPar3, dTy, tyD, dChain, dChain3, oI, oI0, oGcd, oLen, oAbs, oInt, ixT_tup, ixL_lst, fr_at0, fr_at1, oNeg, oEq, oNe, oRepr, oEqS, oCat, oRepL, allD, dSliceL, dSliceT, oCatT, oIsN, oNotN, isNone_fr, isNone_non, isNone_tup, isNone_list, isNone_int, isNone_bool, dPart, dNoPart, dAsgOwn, dFreeze, dParO2, dParO3, dPeekT, dPeekI, dYes, oSum, oTupOf, oMin, oIsB, oNotB, oMax, oMinL, dParOD, dParDO, dAppend, entry, atI_0, atI_1, atI_2, atI_3, List.map_cons, List.map_nil, List.length_cons, List.length_nil, List.set_cons_zero, List.set_cons_succ, List.getElem?_cons_zero, List.getElem?_cons_succ, List.cons_append, List.nil_append, Nat.reduceAdd, Nat.reduceSub, Nat.reduceLeDiff, List.replicate, Bool.false_eq_true, if_false, if_true, ite_true, ite_false, true_and, and_true, Bool.not_true, Bool.not_false, decide_true, decide_false, Int.natAbs_natCast]
  have dp := p.den_pos
  have dq := q.den_pos
  have g0 : 0 < ((Nat.gcd p.num.natAbs q.den : Nat) : Int) := gcdN_pos dq
  have gB : B 8000 ((Nat.gcd p.num.natAbs q.den : Nat) : Int).natAbs := gcdN_B dq hq.d
  have h0 : 0 < ((Nat.gcd q.num.natAbs p.den : Nat) : Int) := gcdN_pos dp
  have hB : B 8000 ((Nat.gcd q.num.natAbs p.den : Nat) : Int).natAbs := gcdN_B dp hp.d
  obtain ⟨m1, m2⟩ := mul_code p q
  refine ⟨divB g0 gB (by decide), divB h0 hB (by decide), mulB (hp.n.le (ediv_natAbs_le _ _)) (hq.n.le (ediv_natAbs_le _ _)) (by decide), divB h0 hB (by decide), divB g0 gB (by decide), mulB ((den_B hp).le (ediv_natAbs_le _ _)) ((den_B hq).le (ediv_natAbs_le _ _)) (by decide), ?_⟩
  rw [← m1, ← m2]
  exact k
theorem p_difference_of (ds : List DV) (n : Nat) (R : DV → Nat → Prop) (h : s_difference_of ds n R) : Goal t_difference_of 2 ds n R := by
  obtain ⟨p, q, rfl, hp, hq, k⟩ := h
  simp only [Goal, t_difference_of, dSliceA, oCatA, dIsi, pR3, pR4, pR5, dSeq, dAsg, dVar, dC, dOp, dUn, dCB, dCall, dCallK, pId, pRev, dCons, dNil, dTup, dLst, dRet, dRetN, dIfS, dTest, dNot, dAnd, dOr, dIf, dAndV, dOrV, dNotV, dNext, dDrop, dUnp, setAll, dPar, dPar3, dTy, tyD, dChain, dChain3, oI, oI0, oGcd, oLen, oAbs, oInt, ixT_tup, ixL_lst, fr_at0, fr_at1, oNeg, oEq, oNe, oRepr, oEqS, oCat, oRepL, allD, dSliceL, dSliceT, oCatT, oIsN, oNotN, isNone_fr, isNone_non, isNone_tup, isNone_list, isNone_int, isNone_bool, dPart, dNoPart, dAsgOwn, dFreeze, dParO2, dParO3, dPeekT, dPeekI, dYes, oSum, oTupOf, oMin, oIsB, oNotB, oMax, oMinL, dParOD, dParDO, dAppend, entry, atI_0, atI_1, atI_2, atI_3, List.map_cons, List.map_nil, List.length_cons, List.length_nil, List.set_cons_zero, List.set_cons_succ, List.getElem?_cons_zero, List.getElem?_cons_succ, List.cons_append, List.nil_append, Nat.reduceAdd, Nat.reduceSub, Nat.reduceLeDiff, List.replicate, Bool.false_eq_true, if_false, if_true, ite_true, ite_false, true_and, and_true, Bool.not_true, Bool.not_false, decide_true, decide_false]
  refine ⟨q, rfl, p, -q, rfl, hp, hq.neg, ?_⟩
  rw [← Rat.sub_eq_add_neg]
  exact k
theorem p_quotient_of (ds : List DV) (n : Nat) (R : DV → Nat → Prop) (h : s_quotient_of ds n R) : Goal t_quotient_of 4 ds n R := by
  obtain ⟨p, q, rfl, hp, hq, q0, k⟩ := h
  have n0 := (num_pos_iff q).2 q0
  have nn : ¬ q.num < 0 := by omega
  obtain ⟨i1, i2⟩ := inv_num q q0
  simp only [Goal, t_quotient_of, fr, dSliceA, oCatA, dIsi, pR3, pR4, pR5, dSeq, dAsg, dVar, dC, dOp, dUn, dCB, dCall, dCallK, pId, pRev, dCons, dNil, dTup, dLst, dRet, dRetN, dIfS, dTest, dNot, dAnd, dOr, dIf, dAndV, dOrV, dNotV, dNext, dDrop, dUnp, setAll, dPar, dPar3, dTy, tyD, dChain, dChain3, oI, oI0, oGcd, oLen, oAbs, oInt, ixT_tup, ixL_lst, fr_at0, fr_at1, oNeg, oEq, oNe, oRepr, oEqS, oCat, oRepL, allD, dSliceL, dSliceT, oCatT, oIsN, oNotN, isNone_fr, isNone_non, isNone_tup, isNone_list, isNone_int, isNone_bool, dPart, dNoPart, dAsgOwn, dFreeze, dParO2, dParO3, dPeekT, dPeekI, dYes, oSum, oTupOf, oMin, oIsB, oNotB, oMax, oMinL, dParOD, dParDO, dAppend, entry, atI_0, atI_1, atI_2, atI_3, List.map_cons, List.map_nil, List.length_cons, List.length_nil, List.set_cons_zero, List.set_cons_succ, List.getElem?_cons_zero, List.getElem?_cons_succ, List.cons_append, List.nil_append, Nat.reduceAdd, Nat.reduceSub, Nat.reduceLeDiff, List.replicate, Bool.false_eq_true, if_false, if_true, ite_true, ite_false, true_and, and_true, Bool.not_true, Bool.not_false, decide_true, decide_false, nn]
  refine ⟨p, q⁻¹, by simp only [FV, fr, i1, i2], hp, ⟨by rw [i1]; simpa using hq.d, by have := hq.n; unfold B at *; omega⟩, ?_⟩
  rw [← div_inv]
  exact k
theorem p_is_less (ds : List DV) (n : Nat) (R : DV → Nat → Prop) (h : s_is_less ds n R) : Goal t_is_less 2 ds n R := by
  obtain ⟨a, b, c, d, rfl, ⟨ha, hb, hc, hd⟩, k⟩ := h
  simp only [Goal, t_is_less, dSliceA, oCatA, dIsi, pR3, pR4, pR5, dSeq, dAsg, dVar, dC, dOp, dUn, dCB, dCall, dCallK, pId, pRev, dCons, dNil, dTup, dLst, dRet, dRetN, dIfS, dTest, dNot, dAnd, dOr, dIf, dAndV, dOrV, dNotV, dNext, dDrop, dUnp, setAll, dPar, dPar3, dTy, tyD, dChain, dChain3, oI, oI0, oGcd, oLen, oAbs, oInt, ixT_tup, ixL_lst, fr_at0, fr_at1, oNeg, oEq, oNe, oRepr, oEqS, oCat, oRepL, allD, dSliceL, dSliceT, oCatT, oIsN, oNotN, isNone_fr, isNone_non, isNone_tup, isNone_list, isNone_int, isNone_bool, dPart, dNoPart, dAsgOwn, dFreeze, dParO2, dParO3, dPeekT, dPeekI, dYes, oSum, oTupOf, oMin, oIsB, oNotB, oMax, oMinL, dParOD, dParDO, dAppend, entry, atI_0, atI_1, atI_2, atI_3, List.map_cons, List.map_nil, List.length_cons, List.length_nil, List.set_cons_zero, List.set_cons_succ, List.getElem?_cons_zero, List.getElem?_cons_succ, List.cons_append, List.nil_append, Nat.reduceAdd, Nat.reduceSub, Nat.reduceLeDiff, List.replicate, Bool.false_eq_true, if_false, if_true, ite_true, ite_false, true_and, and_true, Bool.not_true, Bool.not_false, decide_true, decide_false]
  exact ⟨mulB ha hd (by decide), mulB hc hb (by decide), k⟩
theorem is_less_go {n : Nat} {R : DV → Nat → Prop} (p q : Rat) (hp : Sz 2000 p) (hq : Sz 2000 q) (k : R (BV (decide (p < q))) n) : s_is_less [FV p, FV q] n R :=
  ⟨p.num, p.den, q.num, q.den, rfl, ⟨hp.n.mono (by decide), (den_B hp).mono (by decide), hq.n.mono (by decide), (den_B hq).mono (by decide)⟩, by simp only [lt_num]; exact k⟩
/-! ### what may be handed in -/
structure Bd (q : Rat) : Prop where
  lo : -1000000000000000000000000000000 ≤ q.num
  hi : q.num ≤ 1000000000000000000000000000000
  d : (q.den : Int) ≤ 1000000000000000000000000000000
theorem Bd.sz {q : Rat} (h : Bd q) : Sz 100 q := by
  have e : (2 : Nat) ^ 100 = 1267650600228229401496703205376 := by decide
  obtain ⟨h1, h2, h3⟩ := h
  constructor
  · unfold B
    rw [e]
    omega
  · unfold B
    rw [e]
    omega
theorem Sz.bd {q : Rat} (h : Sz 99 q) : Bd q := by
  have e : (2 : Nat) ^ 99 = 633825300114114700748351602688 := by decide
  obtain ⟨h1, h2⟩ := h
  unfold B at h1 h2
  rw [e] at h1 h2
  exact ⟨by omega, by omega, by omega⟩
def s_is_integer : DSp := fun ds n R => ∃ i : Int, ds = [IV i] ∧ R (BV true) n
def s_is_fraction : DSp := fun ds n R => ∃ q : Rat, ds = [FV q] ∧ Bd q ∧ R (BV true) n
def s_need_fraction : DSp := fun ds n R => ∃ q : Rat, ds = [FV q] ∧ Bd q ∧ R (FV q) n
/-- is_integer. Slots: value -/
def t_is_integer : DTS :=
  (dRet (dTy "int" true (dVar 0)))
/-- is_fraction. Slots: value, above, below -/
def t_is_fraction : DTS :=
  (dSeq (dIfS (dOr (dTest (dTy "tuple" false (dVar 0))) (dTest (dOp oNe (dCB oLen (dCons (dVar 0) dNil)) (dC (.int 2))))) (dRet (dC (.bool false))) dNext)
  (dSeq (dUnp [1, 2] (dVar 0))
  (dSeq (dIfS (dOr (dNot (dTest (dCall s_is_integer (dCons (dVar 1) dNil)))) (dNot (dTest (dCall s_is_integer (dCons (dVar 2) dNil))))) (dRet (dC (.bool false))) dNext)
  (dRet (dAndV (dChain oLe oLe (dUn oNeg (dC (.int 1000000000000000000000000000000))) (dVar 1) (dC (.int 1000000000000000000000000000000))) (dAndV (dChain oLe oLe (dC (.int 1)) (dVar 2) (dC (.int 1000000000000000000000000000000))) (dOp oEq (dCB oGcd (dCons (dVar 1) (dCons (dVar 2) dNil))) (dC (.int 1)))))))))
/-- need_fraction. Slots: value -/
def t_need_fraction : DTS :=
  (dSeq (dIfS (dNot (dTest (dCall s_is_fraction (dCons (dVar 0) dNil)))) dNever dNext)
  (dRet (dVar 0)))
theorem p_is_integer (ds : List DV) (n : Nat) (R : DV → Nat → Prop) (h : s_is_integer ds n R) : Goal t_is_integer 1 ds n R := by
  obtain ⟨i, rfl, k⟩ := h
  simp only [Goal, t_is_integer, dSliceA, oCatA, dIsi, pR3, pR4, pR5, dSeq, dAsg, dVar, dC, dOp, dUn, dCB, dCall, dCallK, pId, pRev, dCons, dNil, dTup, dLst, dRet, dRetN, dIfS, dTest, dNot, dAnd, dOr, dIf, dAndV, dOrV, dNotV, dNext, dDrop, dUnp, setAll, dPar, dPar3, dTy, tyD, dChain, dChain3, oI, oI0, oGcd, oLen, oAbs, oInt, ixT_tup, ixL_lst, fr_at0, fr_at1, oNeg, oEq, oNe, oRepr, oEqS, oCat, oRepL, allD, dSliceL, dSliceT, oCatT, oIsN, oNotN, isNone_fr, isNone_non, isNone_tup, isNone_list, isNone_int, isNone_bool, dPart, dNoPart, dAsgOwn, dFreeze, dParO2, dParO3, dPeekT, dPeekI, dYes, oSum, oTupOf, oMin, oIsB, oNotB, oMax, oMinL, dParOD, dParDO, dAppend, entry, atI_0, atI_1, atI_2, atI_3, List.map_cons, List.map_nil, List.length_cons, List.length_nil, List.set_cons_zero, List.set_cons_succ, List.getElem?_cons_zero, List.getElem?_cons_succ, List.cons_append, List.nil_append, Nat.reduceAdd, Nat.reduceSub, Nat.reduceLeDiff, List.replicate, Bool.false_eq_true, if_false, if_true, ite_true, ite_false, true_and, and_true, Bool.not_true, Bool.not_false, decide_true, decide_false]
  exact k
theorem gcd_one (q : Rat) : Nat.gcd q.num.natAbs ((q.den : Nat) : Int).natAbs = 1 := by
  have h := q.reduced
  simpa using h
theorem p_is_fraction (ds : List DV) (n : Nat) (R : DV → Nat → Prop) (h : s_is_fraction ds n R) : Goal t_is_fraction 3 ds n R := by
  obtain ⟨q, rfl, b, k⟩ := h
  have dp : (1 : Int) ≤ q.den := den_pos q
  simp only [Goal, t_is_fraction, fr, dSliceA, oCatA, dIsi, pR3, pR4, pR5, dSeq, dAsg, dVar, dC, dOp, dUn, dCB, dCall, dCallK, pId, pRev, dCons, dNil, dTup, dLst, dRet, dRetN, dIfS, dTest, dNot, dAnd, dOr, dIf, dAndV, dOrV, dNotV, dNext, dDrop, dUnp, setAll, dPar, dPar3, dTy, tyD, dChain, dChain3, oI, oI0, oGcd, oLen, oAbs, oInt, ixT_tup, ixL_lst, fr_at0, fr_at1, oNeg, oEq, oNe, oRepr, oEqS, oCat, oRepL, allD, dSliceL, dSliceT, oCatT, oIsN, oNotN, isNone_fr, isNone_non, isNone_tup, isNone_list, isNone_int, isNone_bool, dPart, dNoPart, dAsgOwn, dFreeze, dParO2, dParO3, dPeekT, dPeekI, dYes, oSum, oTupOf, oMin, oIsB, oNotB, oMax, oMinL, dParOD, dParDO, dAppend, entry, atI_0, atI_1, atI_2, atI_3, List.map_cons, List.map_nil, List.length_cons, List.length_nil, List.set_cons_zero, List.set_cons_succ, List.getElem?_cons_zero, List.getElem?_cons_succ, List.cons_append, List.nil_append, Nat.reduceAdd, Nat.reduceSub, Nat.reduceLeDiff, List.replicate, Bool.false_eq_true, if_false, if_true, ite_true, ite_false, true_and, and_true, Bool.not_true, Bool.not_false, decide_true, decide_false, shaped_int, eqv_int]
  refine ⟨_, rfl, ?_⟩
  simp only [dSliceA, oCatA, dIsi, pR3, pR4, pR5, dSeq, dAsg, dVar, dC, dOp, dUn, dCB, dCall, dCallK, pId, pRev, dCons, dNil, dTup, dLst, dRet, dRetN, dIfS, dTest, dNot, dAnd, dOr, dIf, dAndV, dOrV, dNotV, dNext, dDrop, dUnp, setAll, dPar, dPar3, dTy, tyD, dChain, dChain3, oI, oI0, oGcd, oLen, oAbs, oInt, ixT_tup, ixL_lst, fr_at0, fr_at1, oNeg, oEq, oNe, oRepr, oEqS, oCat, oRepL, allD, dSliceL, dSliceT, oCatT, oIsN, oNotN, isNone_fr, isNone_non, isNone_tup, isNone_list, isNone_int, isNone_bool, dPart, dNoPart, dAsgOwn, dFreeze, dParO2, dParO3, dPeekT, dPeekI, dYes, oSum, oTupOf, oMin, oIsB, oNotB, oMax, oMinL, dParOD, dParDO, dAppend, entry, atI_0, atI_1, atI_2, atI_3, List.map_cons, List.map_nil, List.length_cons, List.length_nil, List.set_cons_zero, List.set_cons_succ, List.getElem?_cons_zero, List.getElem?_cons_succ, List.cons_append, List.nil_append, Nat.reduceAdd, Nat.reduceSub, Nat.reduceLeDiff, List.replicate, Bool.false_eq_true, if_false, if_true, ite_true, ite_false, true_and, and_true, Bool.not_true, Bool.not_false, decide_true, decide_false]
  refine ⟨_, rfl, ?_⟩
  simp only [dSliceA, oCatA, dIsi, pR3, pR4, pR5, dSeq, dAsg, dVar, dC, dOp, dUn, dCB, dCall, dCallK, pId, pRev, dCons, dNil, dTup, dLst, dRet, dRetN, dIfS, dTest, dNot, dAnd, dOr, dIf, dAndV, dOrV, dNotV, dNext, dDrop, dUnp, setAll, dPar, dPar3, dTy, tyD, dChain, dChain3, oI, oI0, oGcd, oLen, oAbs, oInt, ixT_tup, ixL_lst, fr_at0, fr_at1, oNeg, oEq, oNe, oRepr, oEqS, oCat, oRepL, allD, dSliceL, dSliceT, oCatT, oIsN, oNotN, isNone_fr, isNone_non, isNone_tup, isNone_list, isNone_int, isNone_bool, dPart, dNoPart, dAsgOwn, dFreeze, dParO2, dParO3, dPeekT, dPeekI, dYes, oSum, oTupOf, oMin, oIsB, oNotB, oMax, oMinL, dParOD, dParDO, dAppend, entry, atI_0, atI_1, atI_2, atI_3, List.map_cons, List.map_nil, List.length_cons, List.length_nil, List.set_cons_zero, List.set_cons_succ, List.getElem?_cons_zero, List.getElem?_cons_succ, List.cons_append, List.nil_append, Nat.reduceAdd, Nat.reduceSub, Nat.reduceLeDiff, List.replicate, Bool.false_eq_true, if_false, if_true, ite_true, ite_false, true_and, and_true, Bool.not_true, Bool.not_false, decide_true, decide_false, b.lo, b.hi, b.d, dp, gcd_one, shaped_int, eqv_int]
  exact k
theorem p_need_fraction (ds : List DV) (n : Nat) (R : DV → Nat → Prop) (h : s_need_fraction ds n R) : Goal t_need_fraction 1 ds n R := by
  obtain ⟨q, rfl, b, k⟩ := h
  simp only [Goal, t_need_fraction, dSliceA, oCatA, dIsi, pR3, pR4, pR5, dSeq, dAsg, dVar, dC, dOp, dUn, dCB, dCall, dCallK, pId, pRev, dCons, dNil, dTup, dLst, dRet, dRetN, dIfS, dTest, dNot, dAnd, dOr, dIf, dAndV, dOrV, dNotV, dNext, dDrop, dUnp, setAll, dPar, dPar3, dTy, tyD, dChain, dChain3, oI, oI0, oGcd, oLen, oAbs, oInt, ixT_tup, ixL_lst, fr_at0, fr_at1, oNeg, oEq, oNe, oRepr, oEqS, oCat, oRepL, allD, dSliceL, dSliceT, oCatT, oIsN, oNotN, isNone_fr, isNone_non, isNone_tup, isNone_list, isNone_int, isNone_bool, dPart, dNoPart, dAsgOwn, dFreeze, dParO2, dParO3, dPeekT, dPeekI, dYes, oSum, oTupOf, oMin, oIsB, oNotB, oMax, oMinL, dParOD, dParDO, dAppend, entry, atI_0, atI_1, atI_2, atI_3, List.map_cons, List.map_nil, List.length_cons, List.length_nil, List.set_cons_zero, List.set_cons_succ, List.getElem?_cons_zero, List.getElem?_cons_succ, List.cons_append, List.nil_append, Nat.reduceAdd, Nat.reduceSub, Nat.reduceLeDiff, List.replicate, Bool.false_eq_true, if_false, if_true, ite_true, ite_false, true_and, and_true, Bool.not_true, Bool.not_false, decide_true, decide_false]
  refine ⟨q, rfl, b, ?_⟩
  simp only [dSliceA, oCatA, dIsi, pR3, pR4, pR5, dSeq, dAsg, dVar, dC, dOp, dUn, dCB, dCall, dCallK, pId, pRev, dCons, dNil, dTup, dLst, dRet, dRetN, dIfS, dTest, dNot, dAnd, dOr, dIf, dAndV, dOrV, dNotV, dNext, dDrop, dUnp, setAll, dPar, dPar3, dTy, tyD, dChain, dChain3, oI, oI0, oGcd, oLen, oAbs, oInt, ixT_tup, ixL_lst, fr_at0, fr_at1, oNeg, oEq, oNe, oRepr, oEqS, oCat, oRepL, allD, dSliceL, dSliceT, oCatT, oIsN, oNotN, isNone_fr, isNone_non, isNone_tup, isNone_list, isNone_int, isNone_bool, dPart, dNoPart, dAsgOwn, dFreeze, dParO2, dParO3, dPeekT, dPeekI, dYes, oSum, oTupOf, oMin, oIsB, oNotB, oMax, oMinL, dParOD, dParDO, dAppend, entry, atI_0, atI_1, atI_2, atI_3, List.map_cons, List.map_nil, List.length_cons, List.length_nil, List.set_cons_zero, List.set_cons_succ, List.getElem?_cons_zero, List.getElem?_cons_succ, List.cons_append, List.nil_append, Nat.reduceAdd, Nat.reduceSub, Nat.reduceLeDiff, List.replicate, Bool.false_eq_true, if_false, if_true, ite_true, ite_false, true_and, and_true, Bool.not_true, Bool.not_false, decide_true, decide_false]
  exact k
end Sx

set_option Elab.async false
set_option linter.all false
set_option maxRecDepth 100000
set_option maxHeartbeats 4000000
namespace Sx
open PySem PySem.Spec L2
/-! ### settings -/
abbrev SV (l s c k : Rat) : DV := TV [fr l, fr s, fr c, fr k]
structure Rule (l s c k : Rat) : Prop where
  bl : Bd l
  bs : Bd s
  bc : Bd c
  bk : Bd k
  s0 : 0 < s
  c0 : 0 < c
  c1 : c < 1
  cd : (c.den : Int) ≤ 1000
  ok : c * (l + s) + k ≤ l
def s_is_above_nought : DSp := fun ds n R => ∃ q : Rat, ds = [FV q] ∧ Bd q ∧ 0 < q ∧ R (BV true) n
def s_is_part : DSp := fun ds n R => ∃ q : Rat, ds = [FV q] ∧ Bd q ∧ 0 < q ∧ q < 1 ∧ (q.den : Int) ≤ 1000 ∧ R (BV true) n
def s_is_spot : DSp := fun ds n R => ∃ q : Rat, ds = [FV q] ∧ Bd q ∧ 0 < q ∧ q ≤ 1 ∧ R (BV true) n
def s_need_part : DSp := fun ds n R => ∃ q : Rat, ds = [FV q] ∧ Bd q ∧ 0 < q ∧ q < 1 ∧ (q.den : Int) ≤ 1000 ∧ R (FV q) n
def s_need_height : DSp := fun ds n R => ∃ c h : Rat, ds = [FV c, FV h] ∧ Bd c ∧ Bd h ∧ c ≤ h ∧ R (FV h) n
def s_level_cut : DSp := fun ds n R => ∃ c k l : Rat, ds = [FV c, FV k, FV l] ∧ Sz 500 c ∧ Sz 500 k ∧ Sz 7000 l ∧ R (FV (c * l + k)) n
def s_is_cut_within : DSp := fun ds n R => ∃ l s c k : Rat, ds = [SV l s c k] ∧ Rule l s c k ∧ R (BV true) n
def s_need_setting : DSp := fun ds n R => ∃ l s c k : Rat, ds = [SV l s c k] ∧ Rule l s c k ∧ R (SV l s c k) n
def s_height_of : DSp := fun ds n R => ∃ l s c k : Rat, ds = [SV l s c k] ∧ Rule l s c k ∧ R (FV ((l - c * l - k) / s)) n
def s_setting_of : DSp := fun ds n R => ∃ c h : Rat, ds = [FV c, FV h] ∧ Bd c ∧ 0 < c ∧ c < 1 ∧ (c.den : Int) ≤ 1000 ∧ Bd h ∧ c ≤ h ∧ R (SV 0 1 c (-h)) n
def s_spot_level : DSp := fun ds n R => ∃ l s c k p : Rat, ds = [SV l s c k, FV p] ∧ Rule l s c k ∧ Bd p ∧ 0 < p ∧ p ≤ 1 ∧ R (FV (l + p * s)) n
def s_level_spot : DSp := fun ds n R => ∃ l s c k v : Rat, ds = [SV l s c k, FV v] ∧ Rule l s c k ∧ Bd v ∧ l < v ∧ v ≤ l + s ∧ R (FV ((v - l) / s)) n
/-- is_above_nought. Slots: value -/
def t_is_above_nought : DTS :=
  (dRet (dAndV (dCall s_is_fraction (dCons (dVar 0) dNil)) (dOp oGt (dOp oIxT (dVar 0) (dC (.int 0))) (dC (.int 0)))))
/-- is_part. Slots: value -/
def t_is_part : DTS :=
  (dRet (dAndV (dCall s_is_fraction (dCons (dVar 0) dNil)) (dChain3 oLt oLt oLe (dC (.int 0)) (dOp oIxT (dVar 0) (dC (.int 0))) (dOp oIxT (dVar 0) (dC (.int 1))) (dC (.int 1000)))))
/-- is_spot. Slots: value -/
def t_is_spot : DTS :=
  (dRet (dAndV (dCall s_is_fraction (dCons (dVar 0) dNil)) (dChain oLt oLe (dC (.int 0)) (dOp oIxT (dVar 0) (dC (.int 0))) (dOp oIxT (dVar 0) (dC (.int 1))))))
/-- need_part. Slots: part -/
def t_need_part : DTS :=
  (dSeq (dIfS (dNot (dTest (dCall s_is_part (dCons (dVar 0) dNil)))) dNever dNext)
  (dRet (dVar 0)))
/-- need_height. Slots: part, height -/
def t_need_height : DTS :=
  (dSeq (dIfS (dOr (dNot (dTest (dCall s_is_fraction (dCons (dVar 1) dNil)))) (dTest (dCall s_is_less (dCons (dVar 1) (dCons (dVar 0) dNil))))) dNever dNext)
  (dRet (dVar 1)))
/-- level_cut. Slots: part, keep, level -/
def t_level_cut : DTS :=
  (dRet (dCall s_sum_of (dCons (dCall s_product_of (dCons (dVar 0) (dCons (dVar 2) dNil))) (dCons (dVar 1) dNil))))
/-- is_cut_within. Slots: setting, limit, step, part, keep -/
def t_is_cut_within : DTS :=
  (dSeq (dUnp [1, 2, 3, 4] (dVar 0))
  (dRet (dNotV (dCall s_is_less (dCons (dVar 1) (dCons (dCall s_level_cut (dCons (dVar 3) (dCons (dVar 4) (dCons (dCall s_sum_of (dCons (dVar 1) (dCons (dVar 2) dNil))) dNil)))) dNil))))))
/-- need_setting. Slots: setting, limit, step, part, keep -/
def t_need_setting : DTS :=
  (dSeq (dIfS (dOr (dTest (dTy "tuple" false (dVar 0))) (dTest (dOp oNe (dCB oLen (dCons (dVar 0) dNil)) (dC (.int 4))))) dNever dNext)
  (dSeq (dUnp [1, 2, 3, 4] (dVar 0))
  (dSeq (dIfS (dNot (dTest (dCall s_is_fraction (dCons (dVar 1) dNil)))) dNever dNext)
  (dSeq (dIfS (dNot (dTest (dCall s_is_above_nought (dCons (dVar 2) dNil)))) dNever dNext)
  (dSeq (dIfS (dNot (dTest (dCall s_is_part (dCons (dVar 3) dNil)))) dNever dNext)
  (dSeq (dIfS (dNot (dTest (dCall s_is_fraction (dCons (dVar 4) dNil)))) dNever dNext)
  (dSeq (dIfS (dNot (dTest (dCall s_is_cut_within (dCons (dVar 0) dNil)))) dNever dNext)
  (dRet (dVar 0)))))))))
/-- height_of. Slots: setting, limit, step, part, keep, rest -/
def t_height_of : DTS :=
  (dSeq (dUnp [1, 2, 3, 4] (dCall s_need_setting (dCons (dVar 0) dNil)))
  (dSeq (dAsg 5 (dCall s_difference_of (dCons (dVar 1) (dCons (dCall s_product_of (dCons (dVar 3) (dCons (dVar 1) dNil))) dNil))))
  (dRet (dCall s_quotient_of (dCons (dCall s_difference_of (dCons (dVar 5) (dCons (dVar 4) dNil))) (dCons (dVar 2) dNil))))))
/-- setting_of. Slots: part, height -/
def t_setting_of : DTS :=
  (dSeq (dDrop (dCall s_need_part (dCons (dVar 0) dNil)))
  (dSeq (dDrop (dCall s_need_height (dCons (dVar 0) (dCons (dVar 1) dNil))))
  (dRet (dTup (dCons (dTup (dCons (dC (.int 0)) (dCons (dC (.int 1)) dNil))) (dCons (dTup (dCons (dC (.int 1)) (dCons (dC (.int 1)) dNil))) (dCons (dVar 0) (dCons (dCall s_negative_of (dCons (dVar 1) dNil)) dNil))))))))
/-- spot_level. Slots: setting, spot -/
def t_spot_level : DTS :=
  (dSeq (dDrop (dCall s_need_setting (dCons (dVar 0) dNil)))
  (dSeq (dIfS (dNot (dTest (dCall s_is_spot (dCons (dVar 1) dNil)))) dNever dNext)
  (dRet (dCall s_sum_of (dCons (dOp oIxT (dVar 0) (dC (.int 0))) (dCons (dCall s_product_of (dCons (dVar 1) (dCons (dOp oIxT (dVar 0) (dC (.int 1))) dNil))) dNil))))))
/-- level_spot. Slots: setting, level, rise -/
def t_level_spot : DTS :=
  (dSeq (dDrop (dCall s_need_setting (dCons (dVar 0) dNil)))
  (dSeq (dDrop (dCall s_need_fraction (dCons (dVar 1) dNil)))
  (dSeq (dAsg 2 (dCall s_difference_of (dCons (dVar 1) (dCons (dOp oIxT (dVar 0) (dC (.int 0))) dNil))))
  (dSeq (dIfS (dOr (dTest (dOp oLe (dOp oIxT (dVar 2) (dC (.int 0))) (dC (.int 0)))) (dTest (dCall s_is_less (dCons (dOp oIxT (dVar 0) (dC (.int 1))) (dCons (dVar 2) dNil))))) dNever dNext)
  (dRet (dCall s_quotient_of (dCons (dVar 2) (dCons (dOp oIxT (dVar 0) (dC (.int 1))) dNil))))))))
theorem num_lt_den {q : Rat} (h : q < 1) : q.num < (q.den : Int) := by
  have z := (Rat.lt_iff q 1).1 h
  simpa using z
theorem num_le_den {q : Rat} (h : q ≤ 1) : q.num ≤ (q.den : Int) := by
  have z := (Rat.le_iff (a := q) (b := 1)).1 h
  simpa using z
theorem p_is_above_nought (ds : List DV) (n : Nat) (R : DV → Nat → Prop) (h : s_is_above_nought ds n R) : Goal t_is_above_nought 1 ds n R := by
  obtain ⟨q, rfl, b, q0, k⟩ := h
  have n0 := (num_pos_iff q).2 q0
  simp only [Goal, t_is_above_nought, dSliceA, oCatA, dIsi, pR3, pR4, pR5, dSeq, dAsg, dVar, dC, dOp, dUn, dCB, dCall, dCallK, pId, pRev, dCons, dNil, dTup, dLst, dRet, dRetN, dIfS, dTest, dNot, dAnd, dOr, dIf, dAndV, dOrV, dNotV, dNext, dDrop, dUnp, setAll, dPar, dPar3, dTy, tyD, dChain, dChain3, oI, oI0, oGcd, oLen, oAbs, oInt, ixT_tup, ixL_lst, fr_at0, fr_at1, oNeg, oEq, oNe, oRepr, oEqS, oCat, oRepL, allD, dSliceL, dSliceT, oCatT, oIsN, oNotN, isNone_fr, isNone_non, isNone_tup, isNone_list, isNone_int, isNone_bool, dPart, dNoPart, dAsgOwn, dFreeze, dParO2, dParO3, dPeekT, dPeekI, dYes, oSum, oTupOf, oMin, oIsB, oNotB, oMax, oMinL, dParOD, dParDO, dAppend, entry, atI_0, atI_1, atI_2, atI_3, List.map_cons, List.map_nil, List.length_cons, List.length_nil, List.set_cons_zero, List.set_cons_succ, List.getElem?_cons_zero, List.getElem?_cons_succ, List.cons_append, List.nil_append, Nat.reduceAdd, Nat.reduceSub, Nat.reduceLeDiff, List.replicate, Bool.false_eq_true, if_false, if_true, ite_true, ite_false, true_and, and_true, Bool.not_true, Bool.not_false, decide_true, decide_false]
  refine ⟨q, rfl, b, ?_⟩
  simp only [fr, dSliceA, oCatA, dIsi, pR3, pR4, pR5, dSeq, dAsg, dVar, dC, dOp, dUn, dCB, dCall, dCallK, pId, pRev, dCons, dNil, dTup, dLst, dRet, dRetN, dIfS, dTest, dNot, dAnd, dOr, dIf, dAndV, dOrV, dNotV, dNext, dDrop, dUnp, setAll, dPar, dPar3, dTy, tyD, dChain, dChain3, oI, oI0, oGcd, oLen, oAbs, oInt, ixT_tup, ixL_lst, fr_at0, fr_at1, oNeg, oEq, oNe, oRepr, oEqS, oCat, oRepL, allD, dSliceL, dSliceT, oCatT, oIsN, oNotN, isNone_fr, isNone_non, isNone_tup, isNone_list, isNone_int, isNone_bool, dPart, dNoPart, dAsgOwn, dFreeze, dParO2, dParO3, dPeekT, dPeekI, dYes, oSum, oTupOf, oMin, oIsB, oNotB, oMax, oMinL, dParOD, dParDO, dAppend, entry, atI_0, atI_1, atI_2, atI_3, List.map_cons, List.map_nil, List.length_cons, List.length_nil, List.set_cons_zero, List.set_cons_succ, List.getElem?_cons_zero, List.getElem?_cons_succ, List.cons_append, List.nil_append, Nat.reduceAdd, Nat.reduceSub, Nat.reduceLeDiff, List.replicate, Bool.false_eq_true, if_false, if_true, ite_true, ite_false, true_and, and_true, Bool.not_true, Bool.not_false, decide_true, decide_false, n0]
  exact k
theorem p_is_part (ds : List DV) (n : Nat) (R : DV → Nat → Prop) (h : s_is_part ds n R) : Goal t_is_part 1 ds n R := by
  obtain ⟨q, rfl, b, q0, q1, qd, k⟩ := h
  have n0 := (num_pos_iff q).2 q0
  have n1 := num_lt_den q1
  simp only [Goal, t_is_part, dSliceA, oCatA, dIsi, pR3, pR4, pR5, dSeq, dAsg, dVar, dC, dOp, dUn, dCB, dCall, dCallK, pId, pRev, dCons, dNil, dTup, dLst, dRet, dRetN, dIfS, dTest, dNot, dAnd, dOr, dIf, dAndV, dOrV, dNotV, dNext, dDrop, dUnp, setAll, dPar, dPar3, dTy, tyD, dChain, dChain3, oI, oI0, oGcd, oLen, oAbs, oInt, ixT_tup, ixL_lst, fr_at0, fr_at1, oNeg, oEq, oNe, oRepr, oEqS, oCat, oRepL, allD, dSliceL, dSliceT, oCatT, oIsN, oNotN, isNone_fr, isNone_non, isNone_tup, isNone_list, isNone_int, isNone_bool, dPart, dNoPart, dAsgOwn, dFreeze, dParO2, dParO3, dPeekT, dPeekI, dYes, oSum, oTupOf, oMin, oIsB, oNotB, oMax, oMinL, dParOD, dParDO, dAppend, entry, atI_0, atI_1, atI_2, atI_3, List.map_cons, List.map_nil, List.length_cons, List.length_nil, List.set_cons_zero, List.set_cons_succ, List.getElem?_cons_zero, List.getElem?_cons_succ, List.cons_append, List.nil_append, Nat.reduceAdd, Nat.reduceSub, Nat.reduceLeDiff, List.replicate, Bool.false_eq_true, if_false, if_true, ite_true, ite_false, true_and, and_true, Bool.not_true, Bool.not_false, decide_true, decide_false]
  refine ⟨q, rfl, b, ?_⟩
  simp only [fr, dSliceA, oCatA, dIsi, pR3, pR4, pR5, dSeq, dAsg, dVar, dC, dOp, dUn, dCB, dCall, dCallK, pId, pRev, dCons, dNil, dTup, dLst, dRet, dRetN, dIfS, dTest, dNot, dAnd, dOr, dIf, dAndV, dOrV, dNotV, dNext, dDrop, dUnp, setAll, dPar, dPar3, dTy, tyD, dChain, dChain3, oI, oI0, oGcd, oLen, oAbs, oInt, ixT_tup, ixL_lst, fr_at0, fr_at1, oNeg, oEq, oNe, oRepr, oEqS, oCat, oRepL, allD, dSliceL, dSliceT, oCatT, oIsN, oNotN, isNone_fr, isNone_non, isNone_tup, isNone_list, isNone_int, isNone_bool, dPart, dNoPart, dAsgOwn, dFreeze, dParO2, dParO3, dPeekT, dPeekI, dYes, oSum, oTupOf, oMin, oIsB, oNotB, oMax, oMinL, dParOD, dParDO, dAppend, entry, atI_0, atI_1, atI_2, atI_3, List.map_cons, List.map_nil, List.length_cons, List.length_nil, List.set_cons_zero, List.set_cons_succ, List.getElem?_cons_zero, List.getElem?_cons_succ, List.cons_append, List.nil_append, Nat.reduceAdd, Nat.reduceSub, Nat.reduceLeDiff, List.replicate, Bool.false_eq_true, if_false, if_true, ite_true, ite_false, true_and, and_true, Bool.not_true, Bool.not_false, decide_true, decide_false, n0, n1, qd]
  exact k
theorem p_is_spot (ds : List DV) (n : Nat) (R : DV → Nat → Prop) (h : s_is_spot ds n R) : Goal t_is_spot 1 ds n R := by
  obtain ⟨q, rfl, b, q0, q1, k⟩ := h
  have n0 := (num_pos_iff q).2 q0
  have n1 := num_le_den q1
  simp only [Goal, t_is_spot, dSliceA, oCatA, dIsi, pR3, pR4, pR5, dSeq, dAsg, dVar, dC, dOp, dUn, dCB, dCall, dCallK, pId, pRev, dCons, dNil, dTup, dLst, dRet, dRetN, dIfS, dTest, dNot, dAnd, dOr, dIf, dAndV, dOrV, dNotV, dNext, dDrop, dUnp, setAll, dPar, dPar3, dTy, tyD, dChain, dChain3, oI, oI0, oGcd, oLen, oAbs, oInt, ixT_tup, ixL_lst, fr_at0, fr_at1, oNeg, oEq, oNe, oRepr, oEqS, oCat, oRepL, allD, dSliceL, dSliceT, oCatT, oIsN, oNotN, isNone_fr, isNone_non, isNone_tup, isNone_list, isNone_int, isNone_bool, dPart, dNoPart, dAsgOwn, dFreeze, dParO2, dParO3, dPeekT, dPeekI, dYes, oSum, oTupOf, oMin, oIsB, oNotB, oMax, oMinL, dParOD, dParDO, dAppend, entry, atI_0, atI_1, atI_2, atI_3, List.map_cons, List.map_nil, List.length_cons, List.length_nil, List.set_cons_zero, List.set_cons_succ, List.getElem?_cons_zero, List.getElem?_cons_succ, List.cons_append, List.nil_append, Nat.reduceAdd, Nat.reduceSub, Nat.reduceLeDiff, List.replicate, Bool.false_eq_true, if_false, if_true, ite_true, ite_false, true_and, and_true, Bool.not_true, Bool.not_false, decide_true, decide_false]
  refine ⟨q, rfl, b, ?_⟩
  simp only [fr, dSliceA, oCatA, dIsi, pR3, pR4, pR5, dSeq, dAsg, dVar, dC, dOp, dUn, dCB, dCall, dCallK, pId, pRev, dCons, dNil, dTup, dLst, dRet, dRetN, dIfS, dTest, dNot, dAnd, dOr, dIf, dAndV, dOrV, dNotV, dNext, dDrop, dUnp, setAll, dPar, dPar3, dTy, tyD, dChain, dChain3, oI, oI0, oGcd, oLen, oAbs, oInt, ixT_tup, ixL_lst, fr_at0, fr_at1, oNeg, oEq, oNe, oRepr, oEqS, oCat, oRepL, allD, dSliceL, dSliceT, oCatT, oIsN, oNotN, isNone_fr, isNone_non, isNone_tup, isNone_list, isNone_int, isNone_bool, dPart, dNoPart, dAsgOwn, dFreeze, dParO2, dParO3, dPeekT, dPeekI, dYes, oSum, oTupOf, oMin, oIsB, oNotB, oMax, oMinL, dParOD, dParDO, dAppend, entry, atI_0, atI_1, atI_2, atI_3, List.map_cons, List.map_nil, List.length_cons, List.length_nil, List.set_cons_zero, List.set_cons_succ, List.getElem?_cons_zero, List.getElem?_cons_succ, List.cons_append, List.nil_append, Nat.reduceAdd, Nat.reduceSub, Nat.reduceLeDiff, List.replicate, Bool.false_eq_true, if_false, if_true, ite_true, ite_false, true_and, and_true, Bool.not_true, Bool.not_false, decide_true, decide_false, n0, n1]
  exact k
theorem p_need_part (ds : List DV) (n : Nat) (R : DV → Nat → Prop) (h : s_need_part ds n R) : Goal t_need_part 1 ds n R := by
  obtain ⟨q, rfl, b, q0, q1, qd, k⟩ := h
  simp only [Goal, t_need_part, dSliceA, oCatA, dIsi, pR3, pR4, pR5, dSeq, dAsg, dVar, dC, dOp, dUn, dCB, dCall, dCallK, pId, pRev, dCons, dNil, dTup, dLst, dRet, dRetN, dIfS, dTest, dNot, dAnd, dOr, dIf, dAndV, dOrV, dNotV, dNext, dDrop, dUnp, setAll, dPar, dPar3, dTy, tyD, dChain, dChain3, oI, oI0, oGcd, oLen, oAbs, oInt, ixT_tup, ixL_lst, fr_at0, fr_at1, oNeg, oEq, oNe, oRepr, oEqS, oCat, oRepL, allD, dSliceL, dSliceT, oCatT, oIsN, oNotN, isNone_fr, isNone_non, isNone_tup, isNone_list, isNone_int, isNone_bool, dPart, dNoPart, dAsgOwn, dFreeze, dParO2, dParO3, dPeekT, dPeekI, dYes, oSum, oTupOf, oMin, oIsB, oNotB, oMax, oMinL, dParOD, dParDO, dAppend, entry, atI_0, atI_1, atI_2, atI_3, List.map_cons, List.map_nil, List.length_cons, List.length_nil, List.set_cons_zero, List.set_cons_succ, List.getElem?_cons_zero, List.getElem?_cons_succ, List.cons_append, List.nil_append, Nat.reduceAdd, Nat.reduceSub, Nat.reduceLeDiff, List.replicate, Bool.false_eq_true, if_false, if_true, ite_true, ite_false, true_and, and_true, Bool.not_true, Bool.not_false, decide_true, decide_false]
  refine ⟨q, rfl, b, q0, q1, qd, ?_⟩
  simp only [dSliceA, oCatA, dIsi, pR3, pR4, pR5, dSeq, dAsg, dVar, dC, dOp, dUn, dCB, dCall, dCallK, pId, pRev, dCons, dNil, dTup, dLst, dRet, dRetN, dIfS, dTest, dNot, dAnd, dOr, dIf, dAndV, dOrV, dNotV, dNext, dDrop, dUnp, setAll, dPar, dPar3, dTy, tyD, dChain, dChain3, oI, oI0, oGcd, oLen, oAbs, oInt, ixT_tup, ixL_lst, fr_at0, fr_at1, oNeg, oEq, oNe, oRepr, oEqS, oCat, oRepL, allD, dSliceL, dSliceT, oCatT, oIsN, oNotN, isNone_fr, isNone_non, isNone_tup, isNone_list, isNone_int, isNone_bool, dPart, dNoPart, dAsgOwn, dFreeze, dParO2, dParO3, dPeekT, dPeekI, dYes, oSum, oTupOf, oMin, oIsB, oNotB, oMax, oMinL, dParOD, dParDO, dAppend, entry, atI_0, atI_1, atI_2, atI_3, List.map_cons, List.map_nil, List.length_cons, List.length_nil, List.set_cons_zero, List.set_cons_succ, List.getElem?_cons_zero, List.getElem?_cons_succ, List.cons_append, List.nil_append, Nat.reduceAdd, Nat.reduceSub, Nat.reduceLeDiff, List.replicate, Bool.false_eq_true, if_false, if_true, ite_true, ite_false, true_and, and_true, Bool.not_true, Bool.not_false, decide_true, decide_false]
  exact k
theorem p_need_height (ds : List DV) (n : Nat) (R : DV → Nat → Prop) (h : s_need_height ds n R) : Goal t_need_height 2 ds n R := by
  obtain ⟨c, h, rfl, bc, bh, le, k⟩ := h
  have nl : ¬ h < c := Rat.not_lt.2 le
  simp only [Goal, t_need_height, dSliceA, oCatA, dIsi, pR3, pR4, pR5, dSeq, dAsg, dVar, dC, dOp, dUn, dCB, dCall, dCallK, pId, pRev, dCons, dNil, dTup, dLst, dRet, dRetN, dIfS, dTest, dNot, dAnd, dOr, dIf, dAndV, dOrV, dNotV, dNext, dDrop, dUnp, setAll, dPar, dPar3, dTy, tyD, dChain, dChain3, oI, oI0, oGcd, oLen, oAbs, oInt, ixT_tup, ixL_lst, fr_at0, fr_at1, oNeg, oEq, oNe, oRepr, oEqS, oCat, oRepL, allD, dSliceL, dSliceT, oCatT, oIsN, oNotN, isNone_fr, isNone_non, isNone_tup, isNone_list, isNone_int, isNone_bool, dPart, dNoPart, dAsgOwn, dFreeze, dParO2, dParO3, dPeekT, dPeekI, dYes, oSum, oTupOf, oMin, oIsB, oNotB, oMax, oMinL, dParOD, dParDO, dAppend, entry, atI_0, atI_1, atI_2, atI_3, List.map_cons, List.map_nil, List.length_cons, List.length_nil, List.set_cons_zero, List.set_cons_succ, List.getElem?_cons_zero, List.getElem?_cons_succ, List.cons_append, List.nil_append, Nat.reduceAdd, Nat.reduceSub, Nat.reduceLeDiff, List.replicate, Bool.false_eq_true, if_false, if_true, ite_true, ite_false, true_and, and_true, Bool.not_true, Bool.not_false, decide_true, decide_false]
  refine ⟨h, rfl, bh, ?_⟩
  simp only [dSliceA, oCatA, dIsi, pR3, pR4, pR5, dSeq, dAsg, dVar, dC, dOp, dUn, dCB, dCall, dCallK, pId, pRev, dCons, dNil, dTup, dLst, dRet, dRetN, dIfS, dTest, dNot, dAnd, dOr, dIf, dAndV, dOrV, dNotV, dNext, dDrop, dUnp, setAll, dPar, dPar3, dTy, tyD, dChain, dChain3, oI, oI0, oGcd, oLen, oAbs, oInt, ixT_tup, ixL_lst, fr_at0, fr_at1, oNeg, oEq, oNe, oRepr, oEqS, oCat, oRepL, allD, dSliceL, dSliceT, oCatT, oIsN, oNotN, isNone_fr, isNone_non, isNone_tup, isNone_list, isNone_int, isNone_bool, dPart, dNoPart, dAsgOwn, dFreeze, dParO2, dParO3, dPeekT, dPeekI, dYes, oSum, oTupOf, oMin, oIsB, oNotB, oMax, oMinL, dParOD, dParDO, dAppend, entry, atI_0, atI_1, atI_2, atI_3, List.map_cons, List.map_nil, List.length_cons, List.length_nil, List.set_cons_zero, List.set_cons_succ, List.getElem?_cons_zero, List.getElem?_cons_succ, List.cons_append, List.nil_append, Nat.reduceAdd, Nat.reduceSub, Nat.reduceLeDiff, List.replicate, Bool.false_eq_true, if_false, if_true, ite_true, ite_false, true_and, and_true, Bool.not_true, Bool.not_false, decide_true, decide_false]
  refine is_less_go h c (bh.sz.mono (by decide)) (bc.sz.mono (by decide)) ?_
  simp only [dSliceA, oCatA, dIsi, pR3, pR4, pR5, dSeq, dAsg, dVar, dC, dOp, dUn, dCB, dCall, dCallK, pId, pRev, dCons, dNil, dTup, dLst, dRet, dRetN, dIfS, dTest, dNot, dAnd, dOr, dIf, dAndV, dOrV, dNotV, dNext, dDrop, dUnp, setAll, dPar, dPar3, dTy, tyD, dChain, dChain3, oI, oI0, oGcd, oLen, oAbs, oInt, ixT_tup, ixL_lst, fr_at0, fr_at1, oNeg, oEq, oNe, oRepr, oEqS, oCat, oRepL, allD, dSliceL, dSliceT, oCatT, oIsN, oNotN, isNone_fr, isNone_non, isNone_tup, isNone_list, isNone_int, isNone_bool, dPart, dNoPart, dAsgOwn, dFreeze, dParO2, dParO3, dPeekT, dPeekI, dYes, oSum, oTupOf, oMin, oIsB, oNotB, oMax, oMinL, dParOD, dParDO, dAppend, entry, atI_0, atI_1, atI_2, atI_3, List.map_cons, List.map_nil, List.length_cons, List.length_nil, List.set_cons_zero, List.set_cons_succ, List.getElem?_cons_zero, List.getElem?_cons_succ, List.cons_append, List.nil_append, Nat.reduceAdd, Nat.reduceSub, Nat.reduceLeDiff, List.replicate, Bool.false_eq_true, if_false, if_true, ite_true, ite_false, true_and, and_true, Bool.not_true, Bool.not_false, decide_true, decide_false, nl]
  exact k
theorem p_level_cut (ds : List DV) (n : Nat) (R : DV → Nat → Prop) (h : s_level_cut ds n R) : Goal t_level_cut 3 ds n R := by
  obtain ⟨c, k, l, rfl, hc, hk, hl, q⟩ := h
  simp only [Goal, t_level_cut, dSliceA, oCatA, dIsi, pR3, pR4, pR5, dSeq, dAsg, dVar, dC, dOp, dUn, dCB, dCall, dCallK, pId, pRev, dCons, dNil, dTup, dLst, dRet, dRetN, dIfS, dTest, dNot, dAnd, dOr, dIf, dAndV, dOrV, dNotV, dNext, dDrop, dUnp, setAll, dPar, dPar3, dTy, tyD, dChain, dChain3, oI, oI0, oGcd, oLen, oAbs, oInt, ixT_tup, ixL_lst, fr_at0, fr_at1, oNeg, oEq, oNe, oRepr, oEqS, oCat, oRepL, allD, dSliceL, dSliceT, oCatT, oIsN, oNotN, isNone_fr, isNone_non, isNone_tup, isNone_list, isNone_int, isNone_bool, dPart, dNoPart, dAsgOwn, dFreeze, dParO2, dParO3, dPeekT, dPeekI, dYes, oSum, oTupOf, oMin, oIsB, oNotB, oMax, oMinL, dParOD, dParDO, dAppend, entry, atI_0, atI_1, atI_2, atI_3, List.map_cons, List.map_nil, List.length_cons, List.length_nil, List.set_cons_zero, List.set_cons_succ, List.getElem?_cons_zero, List.getElem?_cons_succ, List.cons_append, List.nil_append, Nat.reduceAdd, Nat.reduceSub, Nat.reduceLeDiff, List.replicate, Bool.false_eq_true, if_false, if_true, ite_true, ite_false, true_and, and_true, Bool.not_true, Bool.not_false, decide_true, decide_false]
  exact ⟨c, l, rfl, hc.mono (by decide), hl.mono (by decide), c * l, k, rfl, (hc.mul hl).mono (by decide), hk.mono (by decide), q⟩
theorem p_is_cut_within (ds : List DV) (n : Nat) (R : DV → Nat → Prop) (h : s_is_cut_within ds n R) : Goal t_is_cut_within 5 ds n R := by
  obtain ⟨l, s, c, k, rfl, r, q⟩ := h
  have nl : ¬ l < c * (l + s) + k := Rat.not_lt.2 r.ok
  have sl := r.bl.sz
  have ss := r.bs.sz
  have sc := r.bc.sz
  have sk := r.bk.sz
  simp only [Goal, t_is_cut_within, dSliceA, oCatA, dIsi, pR3, pR4, pR5, dSeq, dAsg, dVar, dC, dOp, dUn, dCB, dCall, dCallK, pId, pRev, dCons, dNil, dTup, dLst, dRet, dRetN, dIfS, dTest, dNot, dAnd, dOr, dIf, dAndV, dOrV, dNotV, dNext, dDrop, dUnp, setAll, dPar, dPar3, dTy, tyD, dChain, dChain3, oI, oI0, oGcd, oLen, oAbs, oInt, ixT_tup, ixL_lst, fr_at0, fr_at1, oNeg, oEq, oNe, oRepr, oEqS, oCat, oRepL, allD, dSliceL, dSliceT, oCatT, oIsN, oNotN, isNone_fr, isNone_non, isNone_tup, isNone_list, isNone_int, isNone_bool, dPart, dNoPart, dAsgOwn, dFreeze, dParO2, dParO3, dPeekT, dPeekI, dYes, oSum, oTupOf, oMin, oIsB, oNotB, oMax, oMinL, dParOD, dParDO, dAppend, entry, atI_0, atI_1, atI_2, atI_3, List.map_cons, List.map_nil, List.length_cons, List.length_nil, List.set_cons_zero, List.set_cons_succ, List.getElem?_cons_zero, List.getElem?_cons_succ, List.cons_append, List.nil_append, Nat.reduceAdd, Nat.reduceSub, Nat.reduceLeDiff, List.replicate, Bool.false_eq_true, if_false, if_true, ite_true, ite_false, true_and, and_true, Bool.not_true, Bool.not_false, decide_true, decide_false, shaped_int, eqv_int]
  refine ⟨l, s, rfl, sl.mono (by decide), ss.mono (by decide), c, k, l + s, rfl, sc.mono (by decide), sk.mono (by decide), (sl.add ss).mono (by decide), is_less_go l (c * (l + s) + k) (sl.mono (by decide)) (((sc.mul (sl.add ss)).add sk).mono (by decide)) ?_⟩
  simp only [dSliceA, oCatA, dIsi, pR3, pR4, pR5, dSeq, dAsg, dVar, dC, dOp, dUn, dCB, dCall, dCallK, pId, pRev, dCons, dNil, dTup, dLst, dRet, dRetN, dIfS, dTest, dNot, dAnd, dOr, dIf, dAndV, dOrV, dNotV, dNext, dDrop, dUnp, setAll, dPar, dPar3, dTy, tyD, dChain, dChain3, oI, oI0, oGcd, oLen, oAbs, oInt, ixT_tup, ixL_lst, fr_at0, fr_at1, oNeg, oEq, oNe, oRepr, oEqS, oCat, oRepL, allD, dSliceL, dSliceT, oCatT, oIsN, oNotN, isNone_fr, isNone_non, isNone_tup, isNone_list, isNone_int, isNone_bool, dPart, dNoPart, dAsgOwn, dFreeze, dParO2, dParO3, dPeekT, dPeekI, dYes, oSum, oTupOf, oMin, oIsB, oNotB, oMax, oMinL, dParOD, dParDO, dAppend, entry, atI_0, atI_1, atI_2, atI_3, List.map_cons, List.map_nil, List.length_cons, List.length_nil, List.set_cons_zero, List.set_cons_succ, List.getElem?_cons_zero, List.getElem?_cons_succ, List.cons_append, List.nil_append, Nat.reduceAdd, Nat.reduceSub, Nat.reduceLeDiff, List.replicate, Bool.false_eq_true, if_false, if_true, ite_true, ite_false, true_and, and_true, Bool.not_true, Bool.not_false, decide_true, decide_false, nl]
  exact q
theorem p_need_setting (ds : List DV) (n : Nat) (R : DV → Nat → Prop) (h : s_need_setting ds n R) : Goal t_need_setting 5 ds n R := by
  obtain ⟨l, s, c, k, rfl, r, q⟩ := h
  have nl : ¬ l < c * (l + s) + k := Rat.not_lt.2 r.ok
  have sl := r.bl.sz
  have ss := r.bs.sz
  have sc := r.bc.sz
  have sk := r.bk.sz
  simp only [Goal, t_need_setting, dSliceA, oCatA, dIsi, pR3, pR4, pR5, dSeq, dAsg, dVar, dC, dOp, dUn, dCB, dCall, dCallK, pId, pRev, dCons, dNil, dTup, dLst, dRet, dRetN, dIfS, dTest, dNot, dAnd, dOr, dIf, dAndV, dOrV, dNotV, dNext, dDrop, dUnp, setAll, dPar, dPar3, dTy, tyD, dChain, dChain3, oI, oI0, oGcd, oLen, oAbs, oInt, ixT_tup, ixL_lst, fr_at0, fr_at1, oNeg, oEq, oNe, oRepr, oEqS, oCat, oRepL, allD, dSliceL, dSliceT, oCatT, oIsN, oNotN, isNone_fr, isNone_non, isNone_tup, isNone_list, isNone_int, isNone_bool, dPart, dNoPart, dAsgOwn, dFreeze, dParO2, dParO3, dPeekT, dPeekI, dYes, oSum, oTupOf, oMin, oIsB, oNotB, oMax, oMinL, dParOD, dParDO, dAppend, entry, atI_0, atI_1, atI_2, atI_3, List.map_cons, List.map_nil, List.length_cons, List.length_nil, List.set_cons_zero, List.set_cons_succ, List.getElem?_cons_zero, List.getElem?_cons_succ, List.cons_append, List.nil_append, Nat.reduceAdd, Nat.reduceSub, Nat.reduceLeDiff, List.replicate, Bool.false_eq_true, if_false, if_true, ite_true, ite_false, true_and, and_true, Bool.not_true, Bool.not_false, decide_true, decide_false, shaped_int, eqv_int]
  refine ⟨l, rfl, r.bl, ?_⟩
  simp only [dSliceA, oCatA, dIsi, pR3, pR4, pR5, dSeq, dAsg, dVar, dC, dOp, dUn, dCB, dCall, dCallK, pId, pRev, dCons, dNil, dTup, dLst, dRet, dRetN, dIfS, dTest, dNot, dAnd, dOr, dIf, dAndV, dOrV, dNotV, dNext, dDrop, dUnp, setAll, dPar, dPar3, dTy, tyD, dChain, dChain3, oI, oI0, oGcd, oLen, oAbs, oInt, ixT_tup, ixL_lst, fr_at0, fr_at1, oNeg, oEq, oNe, oRepr, oEqS, oCat, oRepL, allD, dSliceL, dSliceT, oCatT, oIsN, oNotN, isNone_fr, isNone_non, isNone_tup, isNone_list, isNone_int, isNone_bool, dPart, dNoPart, dAsgOwn, dFreeze, dParO2, dParO3, dPeekT, dPeekI, dYes, oSum, oTupOf, oMin, oIsB, oNotB, oMax, oMinL, dParOD, dParDO, dAppend, entry, atI_0, atI_1, atI_2, atI_3, List.map_cons, List.map_nil, List.length_cons, List.length_nil, List.set_cons_zero, List.set_cons_succ, List.getElem?_cons_zero, List.getElem?_cons_succ, List.cons_append, List.nil_append, Nat.reduceAdd, Nat.reduceSub, Nat.reduceLeDiff, List.replicate, Bool.false_eq_true, if_false, if_true, ite_true, ite_false, true_and, and_true, Bool.not_true, Bool.not_false, decide_true, decide_false]
  refine ⟨s, rfl, r.bs, r.s0, ?_⟩
  simp only [dSliceA, oCatA, dIsi, pR3, pR4, pR5, dSeq, dAsg, dVar, dC, dOp, dUn, dCB, dCall, dCallK, pId, pRev, dCons, dNil, dTup, dLst, dRet, dRetN, dIfS, dTest, dNot, dAnd, dOr, dIf, dAndV, dOrV, dNotV, dNext, dDrop, dUnp, setAll, dPar, dPar3, dTy, tyD, dChain, dChain3, oI, oI0, oGcd, oLen, oAbs, oInt, ixT_tup, ixL_lst, fr_at0, fr_at1, oNeg, oEq, oNe, oRepr, oEqS, oCat, oRepL, allD, dSliceL, dSliceT, oCatT, oIsN, oNotN, isNone_fr, isNone_non, isNone_tup, isNone_list, isNone_int, isNone_bool, dPart, dNoPart, dAsgOwn, dFreeze, dParO2, dParO3, dPeekT, dPeekI, dYes, oSum, oTupOf, oMin, oIsB, oNotB, oMax, oMinL, dParOD, dParDO, dAppend, entry, atI_0, atI_1, atI_2, atI_3, List.map_cons, List.map_nil, List.length_cons, List.length_nil, List.set_cons_zero, List.set_cons_succ, List.getElem?_cons_zero, List.getElem?_cons_succ, List.cons_append, List.nil_append, Nat.reduceAdd, Nat.reduceSub, Nat.reduceLeDiff, List.replicate, Bool.false_eq_true, if_false, if_true, ite_true, ite_false, true_and, and_true, Bool.not_true, Bool.not_false, decide_true, decide_false]
  refine ⟨c, rfl, r.bc, r.c0, r.c1, r.cd, ?_⟩
  simp only [dSliceA, oCatA, dIsi, pR3, pR4, pR5, dSeq, dAsg, dVar, dC, dOp, dUn, dCB, dCall, dCallK, pId, pRev, dCons, dNil, dTup, dLst, dRet, dRetN, dIfS, dTest, dNot, dAnd, dOr, dIf, dAndV, dOrV, dNotV, dNext, dDrop, dUnp, setAll, dPar, dPar3, dTy, tyD, dChain, dChain3, oI, oI0, oGcd, oLen, oAbs, oInt, ixT_tup, ixL_lst, fr_at0, fr_at1, oNeg, oEq, oNe, oRepr, oEqS, oCat, oRepL, allD, dSliceL, dSliceT, oCatT, oIsN, oNotN, isNone_fr, isNone_non, isNone_tup, isNone_list, isNone_int, isNone_bool, dPart, dNoPart, dAsgOwn, dFreeze, dParO2, dParO3, dPeekT, dPeekI, dYes, oSum, oTupOf, oMin, oIsB, oNotB, oMax, oMinL, dParOD, dParDO, dAppend, entry, atI_0, atI_1, atI_2, atI_3, List.map_cons, List.map_nil, List.length_cons, List.length_nil, List.set_cons_zero, List.set_cons_succ, List.getElem?_cons_zero, List.getElem?_cons_succ, List.cons_append, List.nil_append, Nat.reduceAdd, Nat.reduceSub, Nat.reduceLeDiff, List.replicate, Bool.false_eq_true, if_false, if_true, ite_true, ite_false, true_and, and_true, Bool.not_true, Bool.not_false, decide_true, decide_false]
  refine ⟨k, rfl, r.bk, ?_⟩
  simp only [dSliceA, oCatA, dIsi, pR3, pR4, pR5, dSeq, dAsg, dVar, dC, dOp, dUn, dCB, dCall, dCallK, pId, pRev, dCons, dNil, dTup, dLst, dRet, dRetN, dIfS, dTest, dNot, dAnd, dOr, dIf, dAndV, dOrV, dNotV, dNext, dDrop, dUnp, setAll, dPar, dPar3, dTy, tyD, dChain, dChain3, oI, oI0, oGcd, oLen, oAbs, oInt, ixT_tup, ixL_lst, fr_at0, fr_at1, oNeg, oEq, oNe, oRepr, oEqS, oCat, oRepL, allD, dSliceL, dSliceT, oCatT, oIsN, oNotN, isNone_fr, isNone_non, isNone_tup, isNone_list, isNone_int, isNone_bool, dPart, dNoPart, dAsgOwn, dFreeze, dParO2, dParO3, dPeekT, dPeekI, dYes, oSum, oTupOf, oMin, oIsB, oNotB, oMax, oMinL, dParOD, dParDO, dAppend, entry, atI_0, atI_1, atI_2, atI_3, List.map_cons, List.map_nil, List.length_cons, List.length_nil, List.set_cons_zero, List.set_cons_succ, List.getElem?_cons_zero, List.getElem?_cons_succ, List.cons_append, List.nil_append, Nat.reduceAdd, Nat.reduceSub, Nat.reduceLeDiff, List.replicate, Bool.false_eq_true, if_false, if_true, ite_true, ite_false, true_and, and_true, Bool.not_true, Bool.not_false, decide_true, decide_false]
  refine ⟨l, s, c, k, rfl, r, ?_⟩
  simp only [dSliceA, oCatA, dIsi, pR3, pR4, pR5, dSeq, dAsg, dVar, dC, dOp, dUn, dCB, dCall, dCallK, pId, pRev, dCons, dNil, dTup, dLst, dRet, dRetN, dIfS, dTest, dNot, dAnd, dOr, dIf, dAndV, dOrV, dNotV, dNext, dDrop, dUnp, setAll, dPar, dPar3, dTy, tyD, dChain, dChain3, oI, oI0, oGcd, oLen, oAbs, oInt, ixT_tup, ixL_lst, fr_at0, fr_at1, oNeg, oEq, oNe, oRepr, oEqS, oCat, oRepL, allD, dSliceL, dSliceT, oCatT, oIsN, oNotN, isNone_fr, isNone_non, isNone_tup, isNone_list, isNone_int, isNone_bool, dPart, dNoPart, dAsgOwn, dFreeze, dParO2, dParO3, dPeekT, dPeekI, dYes, oSum, oTupOf, oMin, oIsB, oNotB, oMax, oMinL, dParOD, dParDO, dAppend, entry, atI_0, atI_1, atI_2, atI_3, List.map_cons, List.map_nil, List.length_cons, List.length_nil, List.set_cons_zero, List.set_cons_succ, List.getElem?_cons_zero, List.getElem?_cons_succ, List.cons_append, List.nil_append, Nat.reduceAdd, Nat.reduceSub, Nat.reduceLeDiff, List.replicate, Bool.false_eq_true, if_false, if_true, ite_true, ite_false, true_and, and_true, Bool.not_true, Bool.not_false, decide_true, decide_false]
  exact q
theorem p_height_of (ds : List DV) (n : Nat) (R : DV → Nat → Prop) (h : s_height_of ds n R) : Goal t_height_of 6 ds n R := by
  obtain ⟨l, s, c, k, rfl, r, q⟩ := h
  have sl := r.bl.sz
  have ss := r.bs.sz
  have sc := r.bc.sz
  have sk := r.bk.sz
  simp only [Goal, t_height_of, dSliceA, oCatA, dIsi, pR3, pR4, pR5, dSeq, dAsg, dVar, dC, dOp, dUn, dCB, dCall, dCallK, pId, pRev, dCons, dNil, dTup, dLst, dRet, dRetN, dIfS, dTest, dNot, dAnd, dOr, dIf, dAndV, dOrV, dNotV, dNext, dDrop, dUnp, setAll, dPar, dPar3, dTy, tyD, dChain, dChain3, oI, oI0, oGcd, oLen, oAbs, oInt, ixT_tup, ixL_lst, fr_at0, fr_at1, oNeg, oEq, oNe, oRepr, oEqS, oCat, oRepL, allD, dSliceL, dSliceT, oCatT, oIsN, oNotN, isNone_fr, isNone_non, isNone_tup, isNone_list, isNone_int, isNone_bool, dPart, dNoPart, dAsgOwn, dFreeze, dParO2, dParO3, dPeekT, dPeekI, dYes, oSum, oTupOf, oMin, oIsB, oNotB, oMax, oMinL, dParOD, dParDO, dAppend, entry, atI_0, atI_1, atI_2, atI_3, List.map_cons, List.map_nil, List.length_cons, List.length_nil, List.set_cons_zero, List.set_cons_succ, List.getElem?_cons_zero, List.getElem?_cons_succ, List.cons_append, List.nil_append, Nat.reduceAdd, Nat.reduceSub, Nat.reduceLeDiff, List.replicate, Bool.false_eq_true, if_false, if_true, ite_true, ite_false, true_and, and_true, Bool.not_true, Bool.not_false, decide_true, decide_false]
  refine ⟨l, s, c, k, rfl, r, ?_⟩
  simp only [dSliceA, oCatA, dIsi, pR3, pR4, pR5, dSeq, dAsg, dVar, dC, dOp, dUn, dCB, dCall, dCallK, pId, pRev, dCons, dNil, dTup, dLst, dRet, dRetN, dIfS, dTest, dNot, dAnd, dOr, dIf, dAndV, dOrV, dNotV, dNext, dDrop, dUnp, setAll, dPar, dPar3, dTy, tyD, dChain, dChain3, oI, oI0, oGcd, oLen, oAbs, oInt, ixT_tup, ixL_lst, fr_at0, fr_at1, oNeg, oEq, oNe, oRepr, oEqS, oCat, oRepL, allD, dSliceL, dSliceT, oCatT, oIsN, oNotN, isNone_fr, isNone_non, isNone_tup, isNone_list, isNone_int, isNone_bool, dPart, dNoPart, dAsgOwn, dFreeze, dParO2, dParO3, dPeekT, dPeekI, dYes, oSum, oTupOf, oMin, oIsB, oNotB, oMax, oMinL, dParOD, dParDO, dAppend, entry, atI_0, atI_1, atI_2, atI_3, List.map_cons, List.map_nil, List.length_cons, List.length_nil, List.set_cons_zero, List.set_cons_succ, List.getElem?_cons_zero, List.getElem?_cons_succ, List.cons_append, List.nil_append, Nat.reduceAdd, Nat.reduceSub, Nat.reduceLeDiff, List.replicate, Bool.false_eq_true, if_false, if_true, ite_true, ite_false, true_and, and_true, Bool.not_true, Bool.not_false, decide_true, decide_false]
  exact ⟨c, l, rfl, sc.mono (by decide), sl.mono (by decide), l, c * l, rfl, sl.mono (by decide), (sc.mul sl).mono (by decide), l - c * l, k, rfl, (sl.sub (sc.mul sl)).mono (by decide), sk.mono (by decide),
    l - c * l - k, s, rfl, ((sl.sub (sc.mul sl)).sub sk).mono (by decide), ss.mono (by decide), r.s0, q⟩
theorem p_setting_of (ds : List DV) (n : Nat) (R : DV → Nat → Prop) (h : s_setting_of ds n R) : Goal t_setting_of 2 ds n R := by
  obtain ⟨c, h, rfl, bc, c0, c1, cd, bh, le, k⟩ := h
  simp only [Goal, t_setting_of, dSliceA, oCatA, dIsi, pR3, pR4, pR5, dSeq, dAsg, dVar, dC, dOp, dUn, dCB, dCall, dCallK, pId, pRev, dCons, dNil, dTup, dLst, dRet, dRetN, dIfS, dTest, dNot, dAnd, dOr, dIf, dAndV, dOrV, dNotV, dNext, dDrop, dUnp, setAll, dPar, dPar3, dTy, tyD, dChain, dChain3, oI, oI0, oGcd, oLen, oAbs, oInt, ixT_tup, ixL_lst, fr_at0, fr_at1, oNeg, oEq, oNe, oRepr, oEqS, oCat, oRepL, allD, dSliceL, dSliceT, oCatT, oIsN, oNotN, isNone_fr, isNone_non, isNone_tup, isNone_list, isNone_int, isNone_bool, dPart, dNoPart, dAsgOwn, dFreeze, dParO2, dParO3, dPeekT, dPeekI, dYes, oSum, oTupOf, oMin, oIsB, oNotB, oMax, oMinL, dParOD, dParDO, dAppend, entry, atI_0, atI_1, atI_2, atI_3, List.map_cons, List.map_nil, List.length_cons, List.length_nil, List.set_cons_zero, List.set_cons_succ, List.getElem?_cons_zero, List.getElem?_cons_succ, List.cons_append, List.nil_append, Nat.reduceAdd, Nat.reduceSub, Nat.reduceLeDiff, List.replicate, Bool.false_eq_true, if_false, if_true, ite_true, ite_false, true_and, and_true, Bool.not_true, Bool.not_false, decide_true, decide_false]
  refine ⟨c, rfl, bc, c0, c1, cd, c, h, rfl, bc, bh, le, h, rfl, ?_⟩
  simp only [dSliceA, oCatA, dIsi, pR3, pR4, pR5, dSeq, dAsg, dVar, dC, dOp, dUn, dCB, dCall, dCallK, pId, pRev, dCons, dNil, dTup, dLst, dRet, dRetN, dIfS, dTest, dNot, dAnd, dOr, dIf, dAndV, dOrV, dNotV, dNext, dDrop, dUnp, setAll, dPar, dPar3, dTy, tyD, dChain, dChain3, oI, oI0, oGcd, oLen, oAbs, oInt, ixT_tup, ixL_lst, fr_at0, fr_at1, oNeg, oEq, oNe, oRepr, oEqS, oCat, oRepL, allD, dSliceL, dSliceT, oCatT, oIsN, oNotN, isNone_fr, isNone_non, isNone_tup, isNone_list, isNone_int, isNone_bool, dPart, dNoPart, dAsgOwn, dFreeze, dParO2, dParO3, dPeekT, dPeekI, dYes, oSum, oTupOf, oMin, oIsB, oNotB, oMax, oMinL, dParOD, dParDO, dAppend, entry, atI_0, atI_1, atI_2, atI_3, List.map_cons, List.map_nil, List.length_cons, List.length_nil, List.set_cons_zero, List.set_cons_succ, List.getElem?_cons_zero, List.getElem?_cons_succ, List.cons_append, List.nil_append, Nat.reduceAdd, Nat.reduceSub, Nat.reduceLeDiff, List.replicate, Bool.false_eq_true, if_false, if_true, ite_true, ite_false, true_and, and_true, Bool.not_true, Bool.not_false, decide_true, decide_false]
  exact k
theorem p_spot_level (ds : List DV) (n : Nat) (R : DV → Nat → Prop) (h : s_spot_level ds n R) : Goal t_spot_level 2 ds n R := by
  obtain ⟨l, s, c, k, p, rfl, r, bp, p0, p1, q⟩ := h
  have sl := r.bl.sz
  have ss := r.bs.sz
  have sp := bp.sz
  simp only [Goal, t_spot_level, dSliceA, oCatA, dIsi, pR3, pR4, pR5, dSeq, dAsg, dVar, dC, dOp, dUn, dCB, dCall, dCallK, pId, pRev, dCons, dNil, dTup, dLst, dRet, dRetN, dIfS, dTest, dNot, dAnd, dOr, dIf, dAndV, dOrV, dNotV, dNext, dDrop, dUnp, setAll, dPar, dPar3, dTy, tyD, dChain, dChain3, oI, oI0, oGcd, oLen, oAbs, oInt, ixT_tup, ixL_lst, fr_at0, fr_at1, oNeg, oEq, oNe, oRepr, oEqS, oCat, oRepL, allD, dSliceL, dSliceT, oCatT, oIsN, oNotN, isNone_fr, isNone_non, isNone_tup, isNone_list, isNone_int, isNone_bool, dPart, dNoPart, dAsgOwn, dFreeze, dParO2, dParO3, dPeekT, dPeekI, dYes, oSum, oTupOf, oMin, oIsB, oNotB, oMax, oMinL, dParOD, dParDO, dAppend, entry, atI_0, atI_1, atI_2, atI_3, List.map_cons, List.map_nil, List.length_cons, List.length_nil, List.set_cons_zero, List.set_cons_succ, List.getElem?_cons_zero, List.getElem?_cons_succ, List.cons_append, List.nil_append, Nat.reduceAdd, Nat.reduceSub, Nat.reduceLeDiff, List.replicate, Bool.false_eq_true, if_false, if_true, ite_true, ite_false, true_and, and_true, Bool.not_true, Bool.not_false, decide_true, decide_false]
  refine ⟨l, s, c, k, rfl, r, p, rfl, bp, p0, p1, ?_⟩
  simp only [dSliceA, oCatA, dIsi, pR3, pR4, pR5, dSeq, dAsg, dVar, dC, dOp, dUn, dCB, dCall, dCallK, pId, pRev, dCons, dNil, dTup, dLst, dRet, dRetN, dIfS, dTest, dNot, dAnd, dOr, dIf, dAndV, dOrV, dNotV, dNext, dDrop, dUnp, setAll, dPar, dPar3, dTy, tyD, dChain, dChain3, oI, oI0, oGcd, oLen, oAbs, oInt, ixT_tup, ixL_lst, fr_at0, fr_at1, oNeg, oEq, oNe, oRepr, oEqS, oCat, oRepL, allD, dSliceL, dSliceT, oCatT, oIsN, oNotN, isNone_fr, isNone_non, isNone_tup, isNone_list, isNone_int, isNone_bool, dPart, dNoPart, dAsgOwn, dFreeze, dParO2, dParO3, dPeekT, dPeekI, dYes, oSum, oTupOf, oMin, oIsB, oNotB, oMax, oMinL, dParOD, dParDO, dAppend, entry, atI_0, atI_1, atI_2, atI_3, List.map_cons, List.map_nil, List.length_cons, List.length_nil, List.set_cons_zero, List.set_cons_succ, List.getElem?_cons_zero, List.getElem?_cons_succ, List.cons_append, List.nil_append, Nat.reduceAdd, Nat.reduceSub, Nat.reduceLeDiff, List.replicate, Bool.false_eq_true, if_false, if_true, ite_true, ite_false, true_and, and_true, Bool.not_true, Bool.not_false, decide_true, decide_false]
  exact ⟨p, s, rfl, sp.mono (by decide), ss.mono (by decide), l, p * s, rfl, sl.mono (by decide), (sp.mul ss).mono (by decide), q⟩
theorem p_level_spot (ds : List DV) (n : Nat) (R : DV → Nat → Prop) (h : s_level_spot ds n R) : Goal t_level_spot 3 ds n R := by
  obtain ⟨l, s, c, k, v, rfl, r, bv, v0, v1, q⟩ := h
  have sl := r.bl.sz
  have ss := r.bs.sz
  have sv := bv.sz
  have d0 : 0 < v - l := by grind
  have d1 : ¬ s < v - l := by grind
  have n0 : ¬ (v - l).num ≤ 0 := by have := (num_pos_iff (v - l)).2 d0; omega
  simp only [Goal, t_level_spot, dSliceA, oCatA, dIsi, pR3, pR4, pR5, dSeq, dAsg, dVar, dC, dOp, dUn, dCB, dCall, dCallK, pId, pRev, dCons, dNil, dTup, dLst, dRet, dRetN, dIfS, dTest, dNot, dAnd, dOr, dIf, dAndV, dOrV, dNotV, dNext, dDrop, dUnp, setAll, dPar, dPar3, dTy, tyD, dChain, dChain3, oI, oI0, oGcd, oLen, oAbs, oInt, ixT_tup, ixL_lst, fr_at0, fr_at1, oNeg, oEq, oNe, oRepr, oEqS, oCat, oRepL, allD, dSliceL, dSliceT, oCatT, oIsN, oNotN, isNone_fr, isNone_non, isNone_tup, isNone_list, isNone_int, isNone_bool, dPart, dNoPart, dAsgOwn, dFreeze, dParO2, dParO3, dPeekT, dPeekI, dYes, oSum, oTupOf, oMin, oIsB, oNotB, oMax, oMinL, dParOD, dParDO, dAppend, entry, atI_0, atI_1, atI_2, atI_3, List.map_cons, List.map_nil, List.length_cons, List.length_nil, List.set_cons_zero, List.set_cons_succ, List.getElem?_cons_zero, List.getElem?_cons_succ, List.cons_append, List.nil_append, Nat.reduceAdd, Nat.reduceSub, Nat.reduceLeDiff, List.replicate, Bool.false_eq_true, if_false, if_true, ite_true, ite_false, true_and, and_true, Bool.not_true, Bool.not_false, decide_true, decide_false]
  refine ⟨l, s, c, k, rfl, r, v, rfl, bv, v, l, rfl, sv.mono (by decide), sl.mono (by decide), ?_⟩
  simp only [fr, dSliceA, oCatA, dIsi, pR3, pR4, pR5, dSeq, dAsg, dVar, dC, dOp, dUn, dCB, dCall, dCallK, pId, pRev, dCons, dNil, dTup, dLst, dRet, dRetN, dIfS, dTest, dNot, dAnd, dOr, dIf, dAndV, dOrV, dNotV, dNext, dDrop, dUnp, setAll, dPar, dPar3, dTy, tyD, dChain, dChain3, oI, oI0, oGcd, oLen, oAbs, oInt, ixT_tup, ixL_lst, fr_at0, fr_at1, oNeg, oEq, oNe, oRepr, oEqS, oCat, oRepL, allD, dSliceL, dSliceT, oCatT, oIsN, oNotN, isNone_fr, isNone_non, isNone_tup, isNone_list, isNone_int, isNone_bool, dPart, dNoPart, dAsgOwn, dFreeze, dParO2, dParO3, dPeekT, dPeekI, dYes, oSum, oTupOf, oMin, oIsB, oNotB, oMax, oMinL, dParOD, dParDO, dAppend, entry, atI_0, atI_1, atI_2, atI_3, List.map_cons, List.map_nil, List.length_cons, List.length_nil, List.set_cons_zero, List.set_cons_succ, List.getElem?_cons_zero, List.getElem?_cons_succ, List.cons_append, List.nil_append, Nat.reduceAdd, Nat.reduceSub, Nat.reduceLeDiff, List.replicate, Bool.false_eq_true, if_false, if_true, ite_true, ite_false, true_and, and_true, Bool.not_true, Bool.not_false, decide_true, decide_false, n0]
  refine is_less_go s (v - l) (ss.mono (by decide)) ((sv.sub sl).mono (by decide)) ?_
  simp only [dSliceA, oCatA, dIsi, pR3, pR4, pR5, dSeq, dAsg, dVar, dC, dOp, dUn, dCB, dCall, dCallK, pId, pRev, dCons, dNil, dTup, dLst, dRet, dRetN, dIfS, dTest, dNot, dAnd, dOr, dIf, dAndV, dOrV, dNotV, dNext, dDrop, dUnp, setAll, dPar, dPar3, dTy, tyD, dChain, dChain3, oI, oI0, oGcd, oLen, oAbs, oInt, ixT_tup, ixL_lst, fr_at0, fr_at1, oNeg, oEq, oNe, oRepr, oEqS, oCat, oRepL, allD, dSliceL, dSliceT, oCatT, oIsN, oNotN, isNone_fr, isNone_non, isNone_tup, isNone_list, isNone_int, isNone_bool, dPart, dNoPart, dAsgOwn, dFreeze, dParO2, dParO3, dPeekT, dPeekI, dYes, oSum, oTupOf, oMin, oIsB, oNotB, oMax, oMinL, dParOD, dParDO, dAppend, entry, atI_0, atI_1, atI_2, atI_3, List.map_cons, List.map_nil, List.length_cons, List.length_nil, List.set_cons_zero, List.set_cons_succ, List.getElem?_cons_zero, List.getElem?_cons_succ, List.cons_append, List.nil_append, Nat.reduceAdd, Nat.reduceSub, Nat.reduceLeDiff, List.replicate, Bool.false_eq_true, if_false, if_true, ite_true, ite_false, true_and, and_true, Bool.not_true, Bool.not_false, decide_true, decide_false, d1]
  exact ⟨v - l, s, rfl, (sv.sub sl).mono (by decide), ss.mono (by decide), r.s0, q⟩
end Sx

set_option Elab.async false
set_option linter.all false
set_option maxRecDepth 100000
set_option maxHeartbeats 4000000
namespace Sx
open PySem PySem.Spec L2
/-! ### the law's own helpers -/
/-- _law_mixed. Slots: cell, k -/
def t__law_mixed : DTS :=
  (dSeq (dAsg 0 (dOp oMod (dCB oInt (dCons (dVar 0) dNil)) (dC (.int 2147483647))))
  (dRet (dOp oMod (dOp oMul (dOp oMod (dOp oAdd (dOp oAdd (dOp oMul (dVar 0) (dOp oAdd (dC (.int 48271)) (dOp oMul (dOp oMul (dC (.int 2)) (dVar 1)) (dVar 1)))) (dOp oMul (dC (.int 69621)) (dVar 1))) (dC (.int 11))) (dC (.int 2147483647))) (dC (.int 69621))) (dC (.int 2147483629)))))
theorem B_of {k : Nat} {i : Int} (h0 : 0 ≤ i) (h : i < 2 ^ k) : B k i.natAbs := by
  unfold B
  have e : ((2 ^ k : Nat) : Int) = (2 : Int) ^ k := by simp
  omega
theorem p__law_mixed (ds : List DV) (n : Nat) (R : DV → Nat → Prop) (h : sMixed ds n R) : Goal t__law_mixed 2 ds n R := by
  obtain ⟨c, k, rfl, h0, h1, q⟩ := h
  have a0 : 0 ≤ c % 2147483647 := Int.emod_nonneg _ (by decide)
  have a1 : c % 2147483647 < 2147483647 := Int.emod_lt_of_pos _ (by decide)
  simp only [Goal, t__law_mixed, dSliceA, oCatA, dIsi, pR3, pR4, pR5, dSeq, dAsg, dVar, dC, dOp, dUn, dCB, dCall, dCallK, pId, pRev, dCons, dNil, dTup, dLst, dRet, dRetN, dIfS, dTest, dNot, dAnd, dOr, dIf, dAndV, dOrV, dNotV, dNext, dDrop, dUnp, setAll, dPar, dPar3, dTy, tyD, dChain, dChain3, oI, oI0, oGcd, oLen, oAbs, oInt, ixT_tup, ixL_lst, fr_at0, fr_at1, oNeg, oEq, oNe, oRepr, oEqS, oCat, oRepL, allD, dSliceL, dSliceT, oCatT, oIsN, oNotN, isNone_fr, isNone_non, isNone_tup, isNone_list, isNone_int, isNone_bool, dPart, dNoPart, dAsgOwn, dFreeze, dParO2, dParO3, dPeekT, dPeekI, dYes, oSum, oTupOf, oMin, oIsB, oNotB, oMax, oMinL, dParOD, dParDO, dAppend, entry, atI_0, atI_1, atI_2, atI_3, List.map_cons, List.map_nil, List.length_cons, List.length_nil, List.set_cons_zero, List.set_cons_succ, List.getElem?_cons_zero, List.getElem?_cons_succ, List.cons_append, List.nil_append, Nat.reduceAdd, Nat.reduceSub, Nat.reduceLeDiff, List.replicate, Bool.false_eq_true, if_false, if_true, ite_true, ite_false, true_and, and_true, Bool.not_true, Bool.not_false, decide_true, decide_false]
  have hk : B 31 k.natAbs := B_of h0 (by omega)
  have h2 : B 2 (2 : Int).natAbs := B.of (by decide)
  have e1 : B 35 (2 * k).natAbs := (natAbs_mul_B h2 hk).mono (by decide)
  have e2 : B 70 (2 * k * k).natAbs := (natAbs_mul_B e1 hk).mono (by decide)
  have e3 : B 100 (48271 + 2 * k * k).natAbs := (natAbs_add_B (a := 16) (B.of (by decide)) e2).mono (by decide)
  have e4 : B 31 (c % 2147483647).natAbs := B_of a0 (by omega)
  refine ⟨by decide, mulB h2 hk (by decide), mulB e1 hk (by decide), mulB e4 e3 (by decide), mulB (a := 17) (B.of (by decide)) hk (by decide), by decide, ?_⟩
  have f0 : ∀ x : Int, 0 ≤ x % 2147483647 := fun x => Int.emod_nonneg _ (by decide)
  have f1 : ∀ x : Int, x % 2147483647 < 2147483647 := fun x => Int.emod_lt_of_pos _ (by decide)
  refine ⟨mulB (a := 31) (b := 17) (B_of (f0 _) (by have := f1 (c % 2147483647 * (48271 + 2 * k * k) + 69621 * k + 11); omega)) (B.of (by decide)) (by decide), by decide, ?_⟩
  exact q _ (Int.emod_nonneg _ (by decide)) (Int.emod_lt_of_pos _ (by decide))
/-- Euclid by turns -/
def s__law_divisor : DSp := fun ds n R => ∃ a b : Int, ds = [IV a, IV b] ∧ 0 < b ∧ B 8900 a.natAbs ∧ B 8900 b.natAbs ∧ R (IV (Nat.gcd a.natAbs b.natAbs : Nat)) n
/-- _law_divisor. Slots: one, two, step -/
def t__law_divisor : DTS :=
  (dSeq (dPar 0 1 (dCons (dCB oAbs (dCons (dVar 0) dNil)) (dCons (dCB oAbs (dCons (dVar 1) dNil)) dNil)))
  (dSeq (dForR 2 (dC (.int 100000)) (dSeq (dIfS (dTest (dOp oEq (dVar 1) (dC (.int 0)))) (dRet (dVar 0)) dNext)
  (dPar 0 1 (dCons (dVar 1) (dCons (dOp oMod (dVar 0) (dVar 1)) dNil)))))
  (dRet (dVar 0))))
/-- behind k turns -/
structure Eu (g k x y : Nat) : Prop where
  gd : Nat.gcd x y = g
  lt : k ≠ 0 → y < x
  sz : k ≠ 0 → x * y * 2 ^ (k - 1) < 2 ^ 17800
  s0 : k = 0 → B 8900 x ∧ B 8900 y
theorem Eu.next {g k x y : Nat} (h : Eu g k x y) (hy : y ≠ 0) : Eu g (k + 1) y (x % y) := by
  have lt := Nat.mod_lt x (show y > 0 by omega)
  refine ⟨?_, fun _ => lt, fun _ => ?_, fun z => by omega⟩
  · rw [← h.gd, Nat.gcd_comm x y, Nat.gcd_rec y x, Nat.gcd_comm]
  · show y * (x % y) * 2 ^ k < 2 ^ 17800
    by_cases hk : k = 0
    · subst hk
      obtain ⟨_, hy2⟩ := h.s0 rfl
      have z := (hy2.mul hy2)
      unfold B at z
      rw [Nat.pow_zero, Nat.mul_one]
      exact Nat.lt_of_le_of_lt (Nat.mul_le_mul_left y (Nat.le_of_lt lt)) z
    · have yx := h.lt hk
      have half : 2 * (x % y) ≤ x := by
        have e := Nat.div_add_mod x y
        have q1 : 1 ≤ x / y := Nat.div_pos (Nat.le_of_lt yx) (by omega)
        have q2 : y * 1 ≤ y * (x / y) := Nat.mul_le_mul_left y q1
        omega
      obtain ⟨j, rfl⟩ : ∃ j, k = j + 1 := ⟨k - 1, by omega⟩
      refine Nat.lt_of_le_of_lt ?_ (h.sz hk)
      rw [Nat.pow_succ]
      have e2 : y * (x % y) * (2 ^ j * 2) = y * (2 * (x % y)) * 2 ^ j := by
        rw [Nat.mul_comm (2 ^ j) 2, ← Nat.mul_assoc, Nat.mul_assoc y, Nat.mul_comm (x % y) 2]
      rw [e2]
      show _ ≤ x * y * 2 ^ j
      rw [Nat.mul_comm x y]
      exact Nat.mul_le_mul_right _ (Nat.mul_le_mul_left y half)
theorem Eu.last {g x y : Nat} (h : Eu g 100000 x y) : x = g := by
  have z := h.sz (by decide)
  have yx := h.lt (by decide)
  have p : 2 ^ 17800 ≤ 2 ^ (100000 - 1) := Nat.pow_le_pow_right (by decide) (by decide)
  have y0 : y = 0 := by
    refine Decidable.byContradiction fun ny => ?_
    have one : 1 ≤ x * y := Nat.mul_pos (by omega) (by omega)
    have := Nat.mul_le_mul_right (2 ^ (100000 - 1)) one
    rw [Nat.one_mul] at this
    exact absurd (Nat.lt_of_le_of_lt (Nat.le_trans p this) z) (Nat.lt_irrefl _)
  have e := h.gd
  rw [y0, Nat.gcd_zero_right] at e
  exact e
theorem abs_if (i : Int) : (if i < 0 then -i else i) = (i.natAbs : Int) := by
  by_cases h : i < 0
  · rw [if_pos h]; omega
  · rw [if_neg h]; omega
theorem p__law_divisor (ds : List DV) (n : Nat) (R : DV → Nat → Prop) (h : s__law_divisor ds n R) : Goal t__law_divisor 3 ds n R := by
  obtain ⟨a, b, rfl, hb, ha, hb2, q⟩ := h
  simp only [Goal, t__law_divisor, dForR, dSliceA, oCatA, dIsi, pR3, pR4, pR5, dSeq, dAsg, dVar, dC, dOp, dUn, dCB, dCall, dCallK, pId, pRev, dCons, dNil, dTup, dLst, dRet, dRetN, dIfS, dTest, dNot, dAnd, dOr, dIf, dAndV, dOrV, dNotV, dNext, dDrop, dUnp, setAll, dPar, dPar3, dTy, tyD, dChain, dChain3, oI, oI0, oGcd, oLen, oAbs, oInt, ixT_tup, ixL_lst, fr_at0, fr_at1, oNeg, oEq, oNe, oRepr, oEqS, oCat, oRepL, allD, dSliceL, dSliceT, oCatT, oIsN, oNotN, isNone_fr, isNone_non, isNone_tup, isNone_list, isNone_int, isNone_bool, dPart, dNoPart, dAsgOwn, dFreeze, dParO2, dParO3, dPeekT, dPeekI, dYes, oSum, oTupOf, oMin, oIsB, oNotB, oMax, oMinL, dParOD, dParDO, dAppend, entry, atI_0, atI_1, atI_2, atI_3, List.map_cons, List.map_nil, List.length_cons, List.length_nil, List.set_cons_zero, List.set_cons_succ, List.getElem?_cons_zero, List.getElem?_cons_succ, List.cons_append, List.nil_append, Nat.reduceAdd, Nat.reduceSub, Nat.reduceLeDiff, List.replicate, Bool.false_eq_true, if_false, if_true, ite_true, ite_false, true_and, and_true, Bool.not_true, Bool.not_false, decide_true, decide_false, abs_if, shaped_int, eqv_int]
  refine ⟨⟨by decide, by decide⟩, fun k env m => m = n ∧ ∃ x y o, env = [some (IV (x : Nat)), some (IV (y : Nat)), o] ∧ Eu (Nat.gcd a.natAbs b.natAbs) k x y, ⟨rfl, a.natAbs, b.natAbs, none, rfl, ⟨rfl, fun z => absurd rfl z, fun z => absurd rfl z, fun _ => ⟨ha, hb2⟩⟩⟩, ?_, ?_⟩
  · rintro k env m hk ⟨rfl, x, y, o, rfl, e⟩
    simp only [dSliceA, oCatA, dIsi, pR3, pR4, pR5, dSeq, dAsg, dVar, dC, dOp, dUn, dCB, dCall, dCallK, pId, pRev, dCons, dNil, dTup, dLst, dRet, dRetN, dIfS, dTest, dNot, dAnd, dOr, dIf, dAndV, dOrV, dNotV, dNext, dDrop, dUnp, setAll, dPar, dPar3, dTy, tyD, dChain, dChain3, oI, oI0, oGcd, oLen, oAbs, oInt, ixT_tup, ixL_lst, fr_at0, fr_at1, oNeg, oEq, oNe, oRepr, oEqS, oCat, oRepL, allD, dSliceL, dSliceT, oCatT, oIsN, oNotN, isNone_fr, isNone_non, isNone_tup, isNone_list, isNone_int, isNone_bool, dPart, dNoPart, dAsgOwn, dFreeze, dParO2, dParO3, dPeekT, dPeekI, dYes, oSum, oTupOf, oMin, oIsB, oNotB, oMax, oMinL, dParOD, dParDO, dAppend, entry, atI_0, atI_1, atI_2, atI_3, List.map_cons, List.map_nil, List.length_cons, List.length_nil, List.set_cons_zero, List.set_cons_succ, List.getElem?_cons_zero, List.getElem?_cons_succ, List.cons_append, List.nil_append, Nat.reduceAdd, Nat.reduceSub, Nat.reduceLeDiff, List.replicate, Bool.false_eq_true, if_false, if_true, ite_true, ite_false, true_and, and_true, Bool.not_true, Bool.not_false, decide_true, decide_false, shaped_int, eqv_int]
    by_cases hy : y = 0
    · subst hy
      have g := e.gd
      rw [Nat.gcd_zero_right] at g
      subst g
      simpa using q
    · have ny : ((y : Int) == 0) = false := by
        rw [beq_eq_false_iff_ne]
        omega
      simp only [ny, dSliceA, oCatA, dIsi, pR3, pR4, pR5, dSeq, dAsg, dVar, dC, dOp, dUn, dCB, dCall, dCallK, pId, pRev, dCons, dNil, dTup, dLst, dRet, dRetN, dIfS, dTest, dNot, dAnd, dOr, dIf, dAndV, dOrV, dNotV, dNext, dDrop, dUnp, setAll, dPar, dPar3, dTy, tyD, dChain, dChain3, oI, oI0, oGcd, oLen, oAbs, oInt, ixT_tup, ixL_lst, fr_at0, fr_at1, oNeg, oEq, oNe, oRepr, oEqS, oCat, oRepL, allD, dSliceL, dSliceT, oCatT, oIsN, oNotN, isNone_fr, isNone_non, isNone_tup, isNone_list, isNone_int, isNone_bool, dPart, dNoPart, dAsgOwn, dFreeze, dParO2, dParO3, dPeekT, dPeekI, dYes, oSum, oTupOf, oMin, oIsB, oNotB, oMax, oMinL, dParOD, dParDO, dAppend, entry, atI_0, atI_1, atI_2, atI_3, List.map_cons, List.map_nil, List.length_cons, List.length_nil, List.set_cons_zero, List.set_cons_succ, List.getElem?_cons_zero, List.getElem?_cons_succ, List.cons_append, List.nil_append, Nat.reduceAdd, Nat.reduceSub, Nat.reduceLeDiff, List.replicate, Bool.false_eq_true, if_false, if_true, ite_true, ite_false, true_and, and_true, Bool.not_true, Bool.not_false, decide_true, decide_false]
      refine ⟨by omega, y, x % y, some (IV (k : Int)), ?_, e.next hy⟩
      rw [Int.natCast_emod]
  · rintro env m ⟨rfl, x, y, o, rfl, e⟩
    simp only [dSliceA, oCatA, dIsi, pR3, pR4, pR5, dSeq, dAsg, dVar, dC, dOp, dUn, dCB, dCall, dCallK, pId, pRev, dCons, dNil, dTup, dLst, dRet, dRetN, dIfS, dTest, dNot, dAnd, dOr, dIf, dAndV, dOrV, dNotV, dNext, dDrop, dUnp, setAll, dPar, dPar3, dTy, tyD, dChain, dChain3, oI, oI0, oGcd, oLen, oAbs, oInt, ixT_tup, ixL_lst, fr_at0, fr_at1, oNeg, oEq, oNe, oRepr, oEqS, oCat, oRepL, allD, dSliceL, dSliceT, oCatT, oIsN, oNotN, isNone_fr, isNone_non, isNone_tup, isNone_list, isNone_int, isNone_bool, dPart, dNoPart, dAsgOwn, dFreeze, dParO2, dParO3, dPeekT, dPeekI, dYes, oSum, oTupOf, oMin, oIsB, oNotB, oMax, oMinL, dParOD, dParDO, dAppend, entry, atI_0, atI_1, atI_2, atI_3, List.map_cons, List.map_nil, List.length_cons, List.length_nil, List.set_cons_zero, List.set_cons_succ, List.getElem?_cons_zero, List.getElem?_cons_succ, List.cons_append, List.nil_append, Nat.reduceAdd, Nat.reduceSub, Nat.reduceLeDiff, List.replicate, Bool.false_eq_true, if_false, if_true, ite_true, ite_false, true_and, and_true, Bool.not_true, Bool.not_false, decide_true, decide_false]
    have z : x = Nat.gcd a.natAbs b.natAbs := by
      have e' : Eu (Nat.gcd a.natAbs b.natAbs) 100000 x y := e
      exact e'.last
    rw [z]
    exact q
def s__law_share : DSp := fun ds n R => ∃ a b : Int, ds = [IV a, IV b] ∧ 0 < b ∧ B 8900 a.natAbs ∧ B 8900 b.natAbs ∧ R (FV ((a : Rat) / (b : Rat))) n
/-- _law_share. Slots: above, below, told -/
def t__law_share : DTS :=
  (dSeq (dAsg 2 (dCall s__law_divisor (dCons (dVar 0) (dCons (dVar 1) dNil))))
  (dSeq (dAsg 2 (dIf (dTest (dOp oGt (dVar 1) (dC (.int 0)))) (dVar 2) (dUn oNeg (dVar 2))))
  (dRet (dTup (dCons (dOp oDiv (dVar 0) (dVar 2)) (dCons (dOp oDiv (dVar 1) (dVar 2)) dNil))))))
theorem p__law_share (ds : List DV) (n : Nat) (R : DV → Nat → Prop) (h : s__law_share ds n R) : Goal t__law_share 3 ds n R := by
  obtain ⟨a, b, rfl, hb, ha, hb2, q⟩ := h
  simp only [Goal, t__law_share, dSliceA, oCatA, dIsi, pR3, pR4, pR5, dSeq, dAsg, dVar, dC, dOp, dUn, dCB, dCall, dCallK, pId, pRev, dCons, dNil, dTup, dLst, dRet, dRetN, dIfS, dTest, dNot, dAnd, dOr, dIf, dAndV, dOrV, dNotV, dNext, dDrop, dUnp, setAll, dPar, dPar3, dTy, tyD, dChain, dChain3, oI, oI0, oGcd, oLen, oAbs, oInt, ixT_tup, ixL_lst, fr_at0, fr_at1, oNeg, oEq, oNe, oRepr, oEqS, oCat, oRepL, allD, dSliceL, dSliceT, oCatT, oIsN, oNotN, isNone_fr, isNone_non, isNone_tup, isNone_list, isNone_int, isNone_bool, dPart, dNoPart, dAsgOwn, dFreeze, dParO2, dParO3, dPeekT, dPeekI, dYes, oSum, oTupOf, oMin, oIsB, oNotB, oMax, oMinL, dParOD, dParDO, dAppend, entry, atI_0, atI_1, atI_2, atI_3, List.map_cons, List.map_nil, List.length_cons, List.length_nil, List.set_cons_zero, List.set_cons_succ, List.getElem?_cons_zero, List.getElem?_cons_succ, List.cons_append, List.nil_append, Nat.reduceAdd, Nat.reduceSub, Nat.reduceLeDiff, List.replicate, Bool.false_eq_true, if_false, if_true, ite_true, ite_false, true_and, and_true, Bool.not_true, Bool.not_false, decide_true, decide_false]
  refine ⟨a, b, rfl, hb, ha, hb2, ?_⟩
  simp only [dSliceA, oCatA, dIsi, pR3, pR4, pR5, dSeq, dAsg, dVar, dC, dOp, dUn, dCB, dCall, dCallK, pId, pRev, dCons, dNil, dTup, dLst, dRet, dRetN, dIfS, dTest, dNot, dAnd, dOr, dIf, dAndV, dOrV, dNotV, dNext, dDrop, dUnp, setAll, dPar, dPar3, dTy, tyD, dChain, dChain3, oI, oI0, oGcd, oLen, oAbs, oInt, ixT_tup, ixL_lst, fr_at0, fr_at1, oNeg, oEq, oNe, oRepr, oEqS, oCat, oRepL, allD, dSliceL, dSliceT, oCatT, oIsN, oNotN, isNone_fr, isNone_non, isNone_tup, isNone_list, isNone_int, isNone_bool, dPart, dNoPart, dAsgOwn, dFreeze, dParO2, dParO3, dPeekT, dPeekI, dYes, oSum, oTupOf, oMin, oIsB, oNotB, oMax, oMinL, dParOD, dParDO, dAppend, entry, atI_0, atI_1, atI_2, atI_3, List.map_cons, List.map_nil, List.length_cons, List.length_nil, List.set_cons_zero, List.set_cons_succ, List.getElem?_cons_zero, List.getElem?_cons_succ, List.cons_append, List.nil_append, Nat.reduceAdd, Nat.reduceSub, Nat.reduceLeDiff, List.replicate, Bool.false_eq_true, if_false, if_true, ite_true, ite_false, true_and, and_true, Bool.not_true, Bool.not_false, decide_true, decide_false, hb]
  have g0 := gcd_pos (a := a) hb
  have gB := gcd_B (a := a) hb hb2
  refine ⟨divB g0 gB (by decide), divB g0 gB (by decide), ?_⟩
  obtain ⟨e1, e2⟩ := red (a := a) hb
  rw [← e1, ← e2]
  exact q
def s__law_plus : DSp := fun ds n R => ∃ p q : Rat, ds = [FV p, FV q] ∧ Sz 2200 p ∧ Sz 2200 q ∧ R (FV (p + q)) n
def s__law_minus : DSp := fun ds n R => ∃ p q : Rat, ds = [FV p, FV q] ∧ Sz 2200 p ∧ Sz 2200 q ∧ R (FV (p - q)) n
def s__law_times : DSp := fun ds n R => ∃ p q : Rat, ds = [FV p, FV q] ∧ Sz 2200 p ∧ Sz 2200 q ∧ R (FV (p * q)) n
def s__law_over : DSp := fun ds n R => ∃ a b : Int, ∃ q : Rat, ds = [.dat (.tuple [.int a, .int b]), FV q] ∧ (0 < b ∧ B 2200 a.natAbs ∧ B 2200 b.natAbs) ∧ Sz 2200 q ∧ 0 < q ∧ R (FV ((a : Rat) / (b : Rat) / q)) n
def s__law_below : DSp := fun ds n R => ∃ p q : Rat, ds = [FV p, FV q] ∧ Sz 2200 p ∧ Sz 2200 q ∧ R (BV (decide (p < q))) n
/-- _law_plus. Slots: one, two -/
def t__law_plus : DTS :=
  (dRet (dCall s__law_share (dCons (dOp oAdd (dOp oMul (dOp oIxT (dVar 0) (dC (.int 0))) (dOp oIxT (dVar 1) (dC (.int 1)))) (dOp oMul (dOp oIxT (dVar 1) (dC (.int 0))) (dOp oIxT (dVar 0) (dC (.int 1))))) (dCons (dOp oMul (dOp oIxT (dVar 0) (dC (.int 1))) (dOp oIxT (dVar 1) (dC (.int 1)))) dNil))))
/-- _law_minus. Slots: one, two -/
def t__law_minus : DTS :=
  (dRet (dCall s__law_share (dCons (dOp oSub (dOp oMul (dOp oIxT (dVar 0) (dC (.int 0))) (dOp oIxT (dVar 1) (dC (.int 1)))) (dOp oMul (dOp oIxT (dVar 1) (dC (.int 0))) (dOp oIxT (dVar 0) (dC (.int 1))))) (dCons (dOp oMul (dOp oIxT (dVar 0) (dC (.int 1))) (dOp oIxT (dVar 1) (dC (.int 1)))) dNil))))
/-- _law_times. Slots: one, two -/
def t__law_times : DTS :=
  (dRet (dCall s__law_share (dCons (dOp oMul (dOp oIxT (dVar 0) (dC (.int 0))) (dOp oIxT (dVar 1) (dC (.int 0)))) (dCons (dOp oMul (dOp oIxT (dVar 0) (dC (.int 1))) (dOp oIxT (dVar 1) (dC (.int 1)))) dNil))))
/-- _law_over. Slots: one, two -/
def t__law_over : DTS :=
  (dRet (dCall s__law_share (dCons (dOp oMul (dOp oIxT (dVar 0) (dC (.int 0))) (dOp oIxT (dVar 1) (dC (.int 1)))) (dCons (dOp oMul (dOp oIxT (dVar 0) (dC (.int 1))) (dOp oIxT (dVar 1) (dC (.int 0)))) dNil))))
/-- _law_below. Slots: one, two -/
def t__law_below : DTS :=
  (dRet (dOp oLt (dOp oMul (dOp oIxT (dVar 0) (dC (.int 0))) (dOp oIxT (dVar 1) (dC (.int 1)))) (dOp oMul (dOp oIxT (dVar 1) (dC (.int 0))) (dOp oIxT (dVar 0) (dC (.int 1))))))
theorem p__law_plus (ds : List DV) (n : Nat) (R : DV → Nat → Prop) (h : s__law_plus ds n R) : Goal t__law_plus 2 ds n R := by
  obtain ⟨p, q, rfl, hp, hq, k⟩ := h
  simp only [Goal, t__law_plus, fr, dSliceA, oCatA, dIsi, pR3, pR4, pR5, dSeq, dAsg, dVar, dC, dOp, dUn, dCB, dCall, dCallK, pId, pRev, dCons, dNil, dTup, dLst, dRet, dRetN, dIfS, dTest, dNot, dAnd, dOr, dIf, dAndV, dOrV, dNotV, dNext, dDrop, dUnp, setAll, dPar, dPar3, dTy, tyD, dChain, dChain3, oI, oI0, oGcd, oLen, oAbs, oInt, ixT_tup, ixL_lst, fr_at0, fr_at1, oNeg, oEq, oNe, oRepr, oEqS, oCat, oRepL, allD, dSliceL, dSliceT, oCatT, oIsN, oNotN, isNone_fr, isNone_non, isNone_tup, isNone_list, isNone_int, isNone_bool, dPart, dNoPart, dAsgOwn, dFreeze, dParO2, dParO3, dPeekT, dPeekI, dYes, oSum, oTupOf, oMin, oIsB, oNotB, oMax, oMinL, dParOD, dParDO, dAppend, entry, atI_0, atI_1, atI_2, atI_3, List.map_cons, List.map_nil, List.length_cons, List.length_nil, List.set_cons_zero, List.set_cons_succ, List.getElem?_cons_zero, List.getElem?_cons_succ, List.cons_append, List.nil_append, Nat.reduceAdd, Nat.reduceSub, Nat.reduceLeDiff, List.replicate, Bool.false_eq_true, if_false, if_true, ite_true, ite_false, true_and, and_true, Bool.not_true, Bool.not_false, decide_true, decide_false]
  refine ⟨mulB hp.n (den_B hq) (by decide), mulB hq.n (den_B hp) (by decide), mulB (den_B hp) (den_B hq) (by decide), _, _, rfl, mul_pos' (den_pos p) (den_pos q), (natAbs_add_B (natAbs_mul_B hp.n (den_B hq)) (natAbs_mul_B hq.n (den_B hp))).mono (by decide), (natAbs_mul_B (den_B hp) (den_B hq)).mono (by decide), ?_⟩
  rw [add_div']
  exact k
theorem p__law_minus (ds : List DV) (n : Nat) (R : DV → Nat → Prop) (h : s__law_minus ds n R) : Goal t__law_minus 2 ds n R := by
  obtain ⟨p, q, rfl, hp, hq, k⟩ := h
  simp only [Goal, t__law_minus, fr, dSliceA, oCatA, dIsi, pR3, pR4, pR5, dSeq, dAsg, dVar, dC, dOp, dUn, dCB, dCall, dCallK, pId, pRev, dCons, dNil, dTup, dLst, dRet, dRetN, dIfS, dTest, dNot, dAnd, dOr, dIf, dAndV, dOrV, dNotV, dNext, dDrop, dUnp, setAll, dPar, dPar3, dTy, tyD, dChain, dChain3, oI, oI0, oGcd, oLen, oAbs, oInt, ixT_tup, ixL_lst, fr_at0, fr_at1, oNeg, oEq, oNe, oRepr, oEqS, oCat, oRepL, allD, dSliceL, dSliceT, oCatT, oIsN, oNotN, isNone_fr, isNone_non, isNone_tup, isNone_list, isNone_int, isNone_bool, dPart, dNoPart, dAsgOwn, dFreeze, dParO2, dParO3, dPeekT, dPeekI, dYes, oSum, oTupOf, oMin, oIsB, oNotB, oMax, oMinL, dParOD, dParDO, dAppend, entry, atI_0, atI_1, atI_2, atI_3, List.map_cons, List.map_nil, List.length_cons, List.length_nil, List.set_cons_zero, List.set_cons_succ, List.getElem?_cons_zero, List.getElem?_cons_succ, List.cons_append, List.nil_append, Nat.reduceAdd, Nat.reduceSub, Nat.reduceLeDiff, List.replicate, Bool.false_eq_true, if_false, if_true, ite_true, ite_false, true_and, and_true, Bool.not_true, Bool.not_false, decide_true, decide_false]
  refine ⟨mulB hp.n (den_B hq) (by decide), mulB hq.n (den_B hp) (by decide), mulB (den_B hp) (den_B hq) (by decide), _, _, rfl, mul_pos' (den_pos p) (den_pos q), (natAbs_sub_B (natAbs_mul_B hp.n (den_B hq)) (natAbs_mul_B hq.n (den_B hp))).mono (by decide), (natAbs_mul_B (den_B hp) (den_B hq)).mono (by decide), ?_⟩
  rw [sub_div']
  exact k
theorem p__law_times (ds : List DV) (n : Nat) (R : DV → Nat → Prop) (h : s__law_times ds n R) : Goal t__law_times 2 ds n R := by
  obtain ⟨p, q, rfl, hp, hq, k⟩ := h
  simp only [Goal, t__law_times, fr, dSliceA, oCatA, dIsi, pR3, pR4, pR5, dSeq, dAsg, dVar, dC, dOp, dUn, dCB, dCall, dCallK, pId, pRev, dCons, dNil, dTup, dLst, dRet, dRetN, dIfS, dTest, dNot, dAnd, dOr, dIf, dAndV, dOrV, dNotV, dNext, dDrop, dUnp, setAll, dPar, dPar3, dTy, tyD, dChain, dChain3, oI, oI0, oGcd, oLen, oAbs, oInt, ixT_tup, ixL_lst, fr_at0, fr_at1, oNeg, oEq, oNe, oRepr, oEqS, oCat, oRepL, allD, dSliceL, dSliceT, oCatT, oIsN, oNotN, isNone_fr, isNone_non, isNone_tup, isNone_list, isNone_int, isNone_bool, dPart, dNoPart, dAsgOwn, dFreeze, dParO2, dParO3, dPeekT, dPeekI, dYes, oSum, oTupOf, oMin, oIsB, oNotB, oMax, oMinL, dParOD, dParDO, dAppend, entry, atI_0, atI_1, atI_2, atI_3, List.map_cons, List.map_nil, List.length_cons, List.length_nil, List.set_cons_zero, List.set_cons_succ, List.getElem?_cons_zero, List.getElem?_cons_succ, List.cons_append, List.nil_append, Nat.reduceAdd, Nat.reduceSub, Nat.reduceLeDiff, List.replicate, Bool.false_eq_true, if_false, if_true, ite_true, ite_false, true_and, and_true, Bool.not_true, Bool.not_false, decide_true, decide_false]
  refine ⟨mulB hp.n hq.n (by decide), mulB (den_B hp) (den_B hq) (by decide), _, _, rfl, mul_pos' (den_pos p) (den_pos q), (natAbs_mul_B hp.n hq.n).mono (by decide), (natAbs_mul_B (den_B hp) (den_B hq)).mono (by decide), ?_⟩
  rw [mul_div']
  exact k
theorem q_den0 (q : Rat) : q * ((q.den : Int) : Rat) = (q.num : Rat) := by
  have h := as_div q
  have d : (0 : Rat) < ((q.den : Int) : Rat) := Rat.intCast_pos.2 (den_pos q)
  generalize ((q.den : Int) : Rat) = x at *
  generalize ((q.num : Int) : Rat) = y at *
  have : x ≠ 0 := by grind
  rw [h]
  exact Rat.div_mul_cancel this
theorem p__law_over (ds : List DV) (n : Nat) (R : DV → Nat → Prop) (h : s__law_over ds n R) : Goal t__law_over 2 ds n R := by
  obtain ⟨a, b, q, rfl, ⟨b0, ha, hb⟩, hq, q0, k⟩ := h
  have n0 := (num_pos_iff q).2 q0
  have e : ((a * (q.den : Int) : Int) : Rat) / ((b * q.num : Int) : Rat) = (a : Rat) / (b : Rat) / q := by
    have d0 : (0 : Rat) < ((q.den : Int) : Rat) := Rat.intCast_pos.2 (den_pos q)
    have b1 : (0 : Rat) < (b : Rat) := Rat.intCast_pos.2 b0
    rw [Rat.intCast_mul, Rat.intCast_mul, ← q_den0 q]
    generalize ((q.den : Int) : Rat) = x at *
    generalize (a : Rat) = y at *
    generalize (b : Rat) = z at *
    have h1 : x ≠ 0 := by grind
    have h2 : z ≠ 0 := by grind
    have h3 : q ≠ 0 := by grind
    grind
  simp only [Goal, t__law_over, fr, dSliceA, oCatA, dIsi, pR3, pR4, pR5, dSeq, dAsg, dVar, dC, dOp, dUn, dCB, dCall, dCallK, pId, pRev, dCons, dNil, dTup, dLst, dRet, dRetN, dIfS, dTest, dNot, dAnd, dOr, dIf, dAndV, dOrV, dNotV, dNext, dDrop, dUnp, setAll, dPar, dPar3, dTy, tyD, dChain, dChain3, oI, oI0, oGcd, oLen, oAbs, oInt, ixT_tup, ixL_lst, fr_at0, fr_at1, oNeg, oEq, oNe, oRepr, oEqS, oCat, oRepL, allD, dSliceL, dSliceT, oCatT, oIsN, oNotN, isNone_fr, isNone_non, isNone_tup, isNone_list, isNone_int, isNone_bool, dPart, dNoPart, dAsgOwn, dFreeze, dParO2, dParO3, dPeekT, dPeekI, dYes, oSum, oTupOf, oMin, oIsB, oNotB, oMax, oMinL, dParOD, dParDO, dAppend, entry, atI_0, atI_1, atI_2, atI_3, List.map_cons, List.map_nil, List.length_cons, List.length_nil, List.set_cons_zero, List.set_cons_succ, List.getElem?_cons_zero, List.getElem?_cons_succ, List.cons_append, List.nil_append, Nat.reduceAdd, Nat.reduceSub, Nat.reduceLeDiff, List.replicate, Bool.false_eq_true, if_false, if_true, ite_true, ite_false, true_and, and_true, Bool.not_true, Bool.not_false, decide_true, decide_false]
  refine ⟨mulB ha (den_B hq) (by decide), mulB hb hq.n (by decide), _, _, rfl, mul_pos' b0 n0, (natAbs_mul_B ha (den_B hq)).mono (by decide), (natAbs_mul_B hb hq.n).mono (by decide), ?_⟩
  rw [e]
  exact k
theorem over_go {n : Nat} {R : DV → Nat → Prop} (p q : Rat) (hp : Sz 2200 p) (hq : Sz 2200 q) (q0 : 0 < q) (k : R (FV (p / q)) n) : s__law_over [FV p, FV q] n R :=
  ⟨p.num, p.den, q, rfl, ⟨den_pos p, hp.n, den_B hp⟩, hq, q0, by rw [← as_div p]; exact k⟩
theorem p__law_below (ds : List DV) (n : Nat) (R : DV → Nat → Prop) (h : s__law_below ds n R) : Goal t__law_below 2 ds n R := by
  obtain ⟨p, q, rfl, hp, hq, k⟩ := h
  simp only [Goal, t__law_below, fr, dSliceA, oCatA, dIsi, pR3, pR4, pR5, dSeq, dAsg, dVar, dC, dOp, dUn, dCB, dCall, dCallK, pId, pRev, dCons, dNil, dTup, dLst, dRet, dRetN, dIfS, dTest, dNot, dAnd, dOr, dIf, dAndV, dOrV, dNotV, dNext, dDrop, dUnp, setAll, dPar, dPar3, dTy, tyD, dChain, dChain3, oI, oI0, oGcd, oLen, oAbs, oInt, ixT_tup, ixL_lst, fr_at0, fr_at1, oNeg, oEq, oNe, oRepr, oEqS, oCat, oRepL, allD, dSliceL, dSliceT, oCatT, oIsN, oNotN, isNone_fr, isNone_non, isNone_tup, isNone_list, isNone_int, isNone_bool, dPart, dNoPart, dAsgOwn, dFreeze, dParO2, dParO3, dPeekT, dPeekI, dYes, oSum, oTupOf, oMin, oIsB, oNotB, oMax, oMinL, dParOD, dParDO, dAppend, entry, atI_0, atI_1, atI_2, atI_3, List.map_cons, List.map_nil, List.length_cons, List.length_nil, List.set_cons_zero, List.set_cons_succ, List.getElem?_cons_zero, List.getElem?_cons_succ, List.cons_append, List.nil_append, Nat.reduceAdd, Nat.reduceSub, Nat.reduceLeDiff, List.replicate, Bool.false_eq_true, if_false, if_true, ite_true, ite_false, true_and, and_true, Bool.not_true, Bool.not_false, decide_true, decide_false]
  refine ⟨mulB hp.n (den_B hq) (by decide), mulB hq.n (den_B hp) (by decide), ?_⟩
  simp only [lt_num]
  exact k
/-- repr(got) == repr(due) of the same data -/
def seqD : PyData → Bool
  | .list _ | .tuple _ => true
  | _ => false
def s__law_like : DSp := fun ds n R => ∃ a b : PyData, ds = [.dat a, .dat b] ∧ a = b ∧ seqD a = true ∧ Tidy a ∧ R (BV true) n
/-- _law_like. Slots: got, due -/
def t__law_like : DTS :=
  (dRet (dOp oEqS (dCB oRepr (dCons (dVar 0) dNil)) (dCB oRepr (dCons (dVar 1) dNil))))
theorem p__law_like (ds : List DV) (n : Nat) (R : DV → Nat → Prop) (h : s__law_like ds n R) : Goal t__law_like 2 ds n R := by
  obtain ⟨a, b, rfl, rfl, sq, ty, k⟩ := h
  cases a with
  | list xs =>
    simp only [Goal, t__law_like, dSliceA, oCatA, dIsi, pR3, pR4, pR5, dSeq, dAsg, dVar, dC, dOp, dUn, dCB, dCall, dCallK, pId, pRev, dCons, dNil, dTup, dLst, dRet, dRetN, dIfS, dTest, dNot, dAnd, dOr, dIf, dAndV, dOrV, dNotV, dNext, dDrop, dUnp, setAll, dPar, dPar3, dTy, tyD, dChain, dChain3, oI, oI0, oGcd, oLen, oAbs, oInt, ixT_tup, ixL_lst, fr_at0, fr_at1, oNeg, oEq, oNe, oRepr, oEqS, oCat, oRepL, allD, dSliceL, dSliceT, oCatT, oIsN, oNotN, isNone_fr, isNone_non, isNone_tup, isNone_list, isNone_int, isNone_bool, dPart, dNoPart, dAsgOwn, dFreeze, dParO2, dParO3, dPeekT, dPeekI, dYes, oSum, oTupOf, oMin, oIsB, oNotB, oMax, oMinL, dParOD, dParDO, dAppend, entry, atI_0, atI_1, atI_2, atI_3, List.map_cons, List.map_nil, List.length_cons, List.length_nil, List.set_cons_zero, List.set_cons_succ, List.getElem?_cons_zero, List.getElem?_cons_succ, List.cons_append, List.nil_append, Nat.reduceAdd, Nat.reduceSub, Nat.reduceLeDiff, List.replicate, Bool.false_eq_true, if_false, if_true, ite_true, ite_false, true_and, and_true, Bool.not_true, Bool.not_false, decide_true, decide_false]
    exact ⟨ty, ty, k⟩
  | tuple xs =>
    simp only [Goal, t__law_like, dSliceA, oCatA, dIsi, pR3, pR4, pR5, dSeq, dAsg, dVar, dC, dOp, dUn, dCB, dCall, dCallK, pId, pRev, dCons, dNil, dTup, dLst, dRet, dRetN, dIfS, dTest, dNot, dAnd, dOr, dIf, dAndV, dOrV, dNotV, dNext, dDrop, dUnp, setAll, dPar, dPar3, dTy, tyD, dChain, dChain3, oI, oI0, oGcd, oLen, oAbs, oInt, ixT_tup, ixL_lst, fr_at0, fr_at1, oNeg, oEq, oNe, oRepr, oEqS, oCat, oRepL, allD, dSliceL, dSliceT, oCatT, oIsN, oNotN, isNone_fr, isNone_non, isNone_tup, isNone_list, isNone_int, isNone_bool, dPart, dNoPart, dAsgOwn, dFreeze, dParO2, dParO3, dPeekT, dPeekI, dYes, oSum, oTupOf, oMin, oIsB, oNotB, oMax, oMinL, dParOD, dParDO, dAppend, entry, atI_0, atI_1, atI_2, atI_3, List.map_cons, List.map_nil, List.length_cons, List.length_nil, List.set_cons_zero, List.set_cons_succ, List.getElem?_cons_zero, List.getElem?_cons_succ, List.cons_append, List.nil_append, Nat.reduceAdd, Nat.reduceSub, Nat.reduceLeDiff, List.replicate, Bool.false_eq_true, if_false, if_true, ite_true, ite_false, true_and, and_true, Bool.not_true, Bool.not_false, decide_true, decide_false]
    exact ⟨ty, ty, k⟩
  | _ => cases sq
end Sx

/-! De: a fraction over a known denominator, of known size. -/
namespace Sx
structure De (D m : Nat) (q : Rat) : Prop where
  pos : 0 < D
  ex : ∃ a : Int, q = (a : Rat) / ((D : Int) : Rat) ∧ a.natAbs ≤ m * D
theorem cast_ne {D : Nat} (h : 0 < D) : ((D : Int) : Rat) ≠ 0 := by
  intro z
  have z2 : (D : Int) = 0 := by exact_mod_cast z
  omega
theorem De.of {a : Int} {D m : Nat} (h : 0 < D) (g : a.natAbs ≤ m * D) : De D m ((a : Rat) / ((D : Int) : Rat)) := ⟨h, a, rfl, g⟩
theorem De.mono {D m n : Nat} {q : Rat} (h : De D m q) (e : m ≤ n) : De D n q := by
  obtain ⟨p, a, e1, e2⟩ := h
  exact ⟨p, a, e1, Nat.le_trans e2 (Nat.mul_le_mul_right D e)⟩
theorem De.wide {D m : Nat} {q : Rat} (h : De D m q) {E : Nat} (e : 0 < E) : De (D * E) m q := by
  obtain ⟨p, a, e1, e2⟩ := h
  refine ⟨Nat.mul_pos p e, a * (E : Int), ?_, ?_⟩
  · have h1 := cast_ne p
    have h2 := cast_ne e
    rw [e1, Int.natCast_mul, Rat.intCast_mul, Rat.intCast_mul]
    generalize ((D : Int) : Rat) = x at *
    generalize ((E : Int) : Rat) = y at *
    generalize (a : Rat) = z at *
    grind
  · rw [Int.natAbs_mul, ← Nat.mul_assoc]
    exact Nat.mul_le_mul_right _ e2
theorem De.dvd {D E m : Nat} {q : Rat} (h : De D m q) (k : Nat) (e : E = D * k) (p : 0 < E) : De E m q := by
  subst e
  exact h.wide (Nat.pos_of_ne_zero fun z => by subst z; simp at p)
theorem De.add {D m n : Nat} {p q : Rat} (h : De D m p) (g : De D n q) : De D (m + n) (p + q) := by
  obtain ⟨d, a, e1, e2⟩ := h
  obtain ⟨_, b, f1, f2⟩ := g
  refine ⟨d, a + b, ?_, ?_⟩
  · rw [e1, f1, Rat.intCast_add]
    generalize ((D : Int) : Rat) = x at *
    grind
  · rw [Nat.add_mul]
    omega
theorem De.sub {D m n : Nat} {p q : Rat} (h : De D m p) (g : De D n q) : De D (m + n) (p - q) := by
  obtain ⟨d, a, e1, e2⟩ := h
  obtain ⟨_, b, f1, f2⟩ := g
  refine ⟨d, a - b, ?_, ?_⟩
  · rw [e1, f1, Rat.intCast_sub]
    generalize ((D : Int) : Rat) = x at *
    grind
  · rw [Nat.add_mul]
    omega
theorem De.mul {D E m n : Nat} {p q : Rat} (h : De D m p) (g : De E n q) : De (D * E) (m * n) (p * q) := by
  obtain ⟨d, a, e1, e2⟩ := h
  obtain ⟨e, b, f1, f2⟩ := g
  refine ⟨Nat.mul_pos d e, a * b, ?_, ?_⟩
  · have h1 := cast_ne d
    have h2 := cast_ne e
    rw [e1, f1, Rat.intCast_mul, Int.natCast_mul, Rat.intCast_mul]
    generalize ((D : Int) : Rat) = x at *
    generalize ((E : Int) : Rat) = y at *
    generalize (a : Rat) = z at *
    generalize (b : Rat) = u at *
    grind
  · rw [Int.natAbs_mul, Nat.mul_mul_mul_comm]
    exact Nat.mul_le_mul e2 f2
theorem De.neg {D m : Nat} {p : Rat} (h : De D m p) : De D m (-p) := by
  obtain ⟨d, a, e1, e2⟩ := h
  refine ⟨d, -a, ?_, by rw [Int.natAbs_neg]; exact e2⟩
  rw [e1, Rat.intCast_neg]
  generalize ((D : Int) : Rat) = x at *
  grind
theorem De.int (i : Int) (m : Nat) (h : i.natAbs ≤ m) : De 1 m (i : Rat) := by
  refine ⟨by decide, i, ?_, by omega⟩
  show (i : Rat) = (i : Rat) / 1
  grind
theorem De.sz {D m a b : Nat} {q : Rat} (h : De D m q) (hm : B a m) (hd : B b D) : Sz (a + b) q := by
  obtain ⟨d, x, e1, e2⟩ := h
  subst e1
  refine Sz.of_div (by omega) (B.le (hm.mul hd) e2) ?_
  have z : B (a + b) D := hd.mono (by omega)
  simpa using z
/-- a closer size: between two of the same kind -/
theorem De.between {D m k l : Nat} {q x y : Rat} (h : De D m q) (hx : De k l x) (hy : De k l y) (h1 : x ≤ q) (h2 : q ≤ y) : De D l q := by
  have bd : ∀ {E : Nat} {z : Rat}, De E l z → -((l : Int) : Rat) ≤ z ∧ z ≤ ((l : Int) : Rat) := by
    intro E z hz
    obtain ⟨d, a, e1, e2⟩ := hz
    have dp : (0 : Rat) < ((E : Int) : Rat) := Rat.intCast_pos.2 (by omega)
    have up : a ≤ (l : Int) * (E : Int) := by
      have : ((a.natAbs : Nat) : Int) ≤ ((l * E : Nat) : Int) := by exact_mod_cast e2
      rw [Int.natCast_mul] at this
      omega
    have lo : -((l : Int) * (E : Int)) ≤ a := by
      have : ((a.natAbs : Nat) : Int) ≤ ((l * E : Nat) : Int) := by exact_mod_cast e2
      rw [Int.natCast_mul] at this
      omega
    have up' : (a : Rat) ≤ ((l : Int) : Rat) * ((E : Int) : Rat) := by rw [← Rat.intCast_mul]; exact Rat.intCast_le_intCast.2 up
    have lo' : -(((l : Int) : Rat) * ((E : Int) : Rat)) ≤ (a : Rat) := by
      rw [← Rat.intCast_mul, ← Rat.intCast_neg]; exact Rat.intCast_le_intCast.2 lo
    have eq : z * ((E : Int) : Rat) = (a : Rat) := by
      rw [e1]; exact Rat.div_mul_cancel (by grind)
    rw [← eq] at up' lo'
    constructor
    · refine Rat.not_lt.1 fun c => ?_
      have := Rat.mul_lt_mul_of_pos_right c dp
      grind
    · refine Rat.not_lt.1 fun c => ?_
      have := Rat.mul_lt_mul_of_pos_right c dp
      grind
  have b1 := (bd hx).1
  have b2 := (bd hy).2
  have c1 : -((l : Int) : Rat) ≤ q := Rat.le_trans b1 h1
  have c2 : q ≤ ((l : Int) : Rat) := Rat.le_trans h2 b2
  obtain ⟨d, a, e1, e2⟩ := h
  refine ⟨d, a, e1, ?_⟩
  have dp : (0 : Rat) < ((D : Int) : Rat) := Rat.intCast_pos.2 (by omega)
  have eq : q * ((D : Int) : Rat) = (a : Rat) := by
    rw [e1]; exact Rat.div_mul_cancel (by grind)
  have u1 : (a : Rat) ≤ ((l : Int) : Rat) * ((D : Int) : Rat) := by
    rw [← eq]; exact Rat.mul_le_mul_of_nonneg_right c2 (Rat.le_of_lt dp)
  have u2 : -((l : Int) : Rat) * ((D : Int) : Rat) ≤ (a : Rat) := by
    rw [← eq]; exact Rat.mul_le_mul_of_nonneg_right c1 (Rat.le_of_lt dp)
  rw [← Rat.intCast_mul] at u1
  rw [← Rat.intCast_neg, ← Rat.intCast_mul] at u2
  have v1 := Rat.intCast_le_intCast.1 u1
  have v2 := Rat.intCast_le_intCast.1 u2
  have v3 : -(l : Int) * (D : Int) = -((l : Int) * (D : Int)) := by rw [Int.neg_mul]
  rw [v3] at v2
  have : ((a.natAbs : Nat) : Int) ≤ ((l * D : Nat) : Int) := by rw [Int.natCast_mul]; omega
  exact_mod_cast this
end Sx

set_option Elab.async false
set_option linter.all false
set_option maxRecDepth 100000
set_option maxHeartbeats 4000000
namespace Sx
open PySem PySem.Spec L2
/-! ### drawn settings -/
abbrev s__law_draw : DSp := sDraw
theorem draw_go {n lim : Nat} {R : DV → Nat → Prop} {l : Int} (e : l = (lim : Int)) (h0 : 0 < lim) (h1 : lim < 2 ^ 200) (hn : n < LIM) (k : ∀ x : Nat, x < lim → R (IV (x : Int)) (n + 1)) : s__law_draw [.draws, IV l] n R := by
  subst e
  refine ⟨lim, rfl, by omega, ?_, hn, fun z z0 z1 => ?_⟩
  · have : (((lim : Nat) : Int)).natAbs = lim := by simp
    rw [this]
    exact logB (B.of h1) (by decide)
  · have := k z.toNat (by omega)
    rwa [Int.toNat_of_nonneg z0] at this
def s__law_cut : DSp := fun ds n R => ds = [.draws] ∧ n + 2 < LIM ∧ ∀ q : Rat, 0 < q → q < 1 → (q.den : Int) ≤ 8 → Sz 4 q → (∃ low : Nat, low ≤ 8 ∧ De low 1 q) → R (FV q) (n + 2)
/-- _law_cut. Slots: draws_so, low -/
def t__law_cut : DTS :=
  (dSeq (dAsg 1 (dOp oAdd (dC (.int 2)) (dCall s__law_draw (dCons (dVar 0) (dCons (dC (.int 7)) dNil)))))
  (dRet (dCall s__law_share (dCons (dOp oAdd (dC (.int 1)) (dCall s__law_draw (dCons (dVar 0) (dCons (dOp oSub (dVar 1) (dC (.int 1))) dNil)))) (dCons (dVar 1) dNil)))))
theorem B_nat {k n : Nat} (h : n < 2 ^ k) : B k ((n : Nat) : Int).natAbs := by
  unfold B
  simpa using h
theorem div_pos' {a b : Int} (ha : 0 < a) (hb : 0 < b) : (0 : Rat) < (a : Rat) / (b : Rat) := by
  have h1 : (0 : Rat) < (b : Rat) := Rat.intCast_pos.2 hb
  have h2 : (0 : Rat) < (a : Rat) := Rat.intCast_pos.2 ha
  rw [Rat.lt_div_iff h1]
  grind
theorem div_lt_one {a b : Int} (ha : a < b) (hb : 0 < b) : (a : Rat) / (b : Rat) < 1 := by
  have h1 : (0 : Rat) < (b : Rat) := Rat.intCast_pos.2 hb
  have h2 : (a : Rat) < (b : Rat) := Rat.intCast_lt_intCast.2 ha
  rw [Rat.div_lt_iff h1]
  grind
theorem div_le_one {a b : Int} (ha : a ≤ b) (hb : 0 < b) : (a : Rat) / (b : Rat) ≤ 1 := by
  rcases Int.lt_or_eq_of_le ha with h | h
  · exact Rat.le_of_lt (div_lt_one h hb)
  · subst h
    have h1 : (a : Rat) ≠ 0 := by
      have := Rat.intCast_pos.2 hb
      grind
    grind
theorem den_le_div {a b : Int} (hb : 0 < b) : ((((a : Rat) / (b : Rat)).den : Nat) : Int) ≤ b := by
  obtain ⟨_, e⟩ := red (a := a) hb
  rw [e]
  have g := gcd_pos (a := a) hb
  exact Int.ediv_le_self _ (by omega)
theorem p__law_cut (ds : List DV) (n : Nat) (R : DV → Nat → Prop) (h : s__law_cut ds n R) : Goal t__law_cut 2 ds n R := by
  obtain ⟨rfl, hn, k⟩ := h
  simp only [Goal, t__law_cut, dSliceA, oCatA, dIsi, pR3, pR4, pR5, dSeq, dAsg, dVar, dC, dOp, dUn, dCB, dCall, dCallK, pId, pRev, dCons, dNil, dTup, dLst, dRet, dRetN, dIfS, dTest, dNot, dAnd, dOr, dIf, dAndV, dOrV, dNotV, dNext, dDrop, dUnp, setAll, dPar, dPar3, dTy, tyD, dChain, dChain3, oI, oI0, oGcd, oLen, oAbs, oInt, ixT_tup, ixL_lst, fr_at0, fr_at1, oNeg, oEq, oNe, oRepr, oEqS, oCat, oRepL, allD, dSliceL, dSliceT, oCatT, oIsN, oNotN, isNone_fr, isNone_non, isNone_tup, isNone_list, isNone_int, isNone_bool, dPart, dNoPart, dAsgOwn, dFreeze, dParO2, dParO3, dPeekT, dPeekI, dYes, oSum, oTupOf, oMin, oIsB, oNotB, oMax, oMinL, dParOD, dParDO, dAppend, entry, atI_0, atI_1, atI_2, atI_3, List.map_cons, List.map_nil, List.length_cons, List.length_nil, List.set_cons_zero, List.set_cons_succ, List.getElem?_cons_zero, List.getElem?_cons_succ, List.cons_append, List.nil_append, Nat.reduceAdd, Nat.reduceSub, Nat.reduceLeDiff, List.replicate, Bool.false_eq_true, if_false, if_true, ite_true, ite_false, true_and, and_true, Bool.not_true, Bool.not_false, decide_true, decide_false]
  refine draw_go (lim := 7) rfl (by decide) (by decide) (by omega) fun x hx => ?_
  simp only [dSliceA, oCatA, dIsi, pR3, pR4, pR5, dSeq, dAsg, dVar, dC, dOp, dUn, dCB, dCall, dCallK, pId, pRev, dCons, dNil, dTup, dLst, dRet, dRetN, dIfS, dTest, dNot, dAnd, dOr, dIf, dAndV, dOrV, dNotV, dNext, dDrop, dUnp, setAll, dPar, dPar3, dTy, tyD, dChain, dChain3, oI, oI0, oGcd, oLen, oAbs, oInt, ixT_tup, ixL_lst, fr_at0, fr_at1, oNeg, oEq, oNe, oRepr, oEqS, oCat, oRepL, allD, dSliceL, dSliceT, oCatT, oIsN, oNotN, isNone_fr, isNone_non, isNone_tup, isNone_list, isNone_int, isNone_bool, dPart, dNoPart, dAsgOwn, dFreeze, dParO2, dParO3, dPeekT, dPeekI, dYes, oSum, oTupOf, oMin, oIsB, oNotB, oMax, oMinL, dParOD, dParDO, dAppend, entry, atI_0, atI_1, atI_2, atI_3, List.map_cons, List.map_nil, List.length_cons, List.length_nil, List.set_cons_zero, List.set_cons_succ, List.getElem?_cons_zero, List.getElem?_cons_succ, List.cons_append, List.nil_append, Nat.reduceAdd, Nat.reduceSub, Nat.reduceLeDiff, List.replicate, Bool.false_eq_true, if_false, if_true, ite_true, ite_false, true_and, and_true, Bool.not_true, Bool.not_false, decide_true, decide_false]
  refine draw_go (lim := 1 + x) (by omega) (by omega) (Nat.lt_trans (show 1 + x < 9 by omega) (by decide)) (by omega) fun y hy => ?_
  refine ⟨1 + (y : Int), 2 + (x : Int), rfl, by omega, (B_of (k := 4) (by omega) (by omega)).mono (by decide), (B_of (k := 4) (by omega) (by omega)).mono (by decide), ?_⟩
  refine k _ (div_pos' (by omega) (by omega)) (div_lt_one (by omega) (by omega)) (Int.le_trans (den_le_div (by omega)) (by omega)) ?_ ?_
  · exact Sz.of_div (by omega) (B_of (by omega) (by omega)) (B_of (by omega) (by omega))
  · exact ⟨2 + x, by omega, De.of (a := 1 + (y : Int)) (D := 2 + x) (by omega) (by omega)⟩
def s__law_lot : DSp := fun ds n R => ∃ c : Rat, ds = [.draws, FV c] ∧ Sz 4 c ∧ n + 2 < LIM ∧ ∀ q : Rat, c ≤ q → Sz 12 q → (∀ d : Nat, De d 1 c → ∃ E : Nat, 0 < E ∧ E ≤ 12 ∧ De (d * E) 9 q) → R (FV q) (n + 2)
/-- _law_lot. Slots: draws_so, cut_so, low, found -/
def t__law_lot : DTS :=
  (dSeq (dAsg 2 (dOp oAdd (dC (.int 1)) (dCall s__law_draw (dCons (dVar 0) (dCons (dC (.int 12)) dNil)))))
  (dSeq (dAsg 3 (dCall s__law_share (dCons (dCall s__law_draw (dCons (dVar 0) (dCons (dOp oAdd (dOp oMul (dC (.int 8)) (dVar 2)) (dC (.int 1))) dNil))) (dCons (dVar 2) dNil))))
  (dRet (dIf (dNot (dTest (dCall s__law_below (dCons (dVar 3) (dCons (dVar 1) dNil))))) (dVar 3) (dCall s__law_plus (dCons (dVar 3) (dCons (dVar 1) dNil)))))))
theorem p__law_lot (ds : List DV) (n : Nat) (R : DV → Nat → Prop) (h : s__law_lot ds n R) : Goal t__law_lot 4 ds n R := by
  obtain ⟨c, rfl, sc, hn, k⟩ := h
  simp only [Goal, t__law_lot, dSliceA, oCatA, dIsi, pR3, pR4, pR5, dSeq, dAsg, dVar, dC, dOp, dUn, dCB, dCall, dCallK, pId, pRev, dCons, dNil, dTup, dLst, dRet, dRetN, dIfS, dTest, dNot, dAnd, dOr, dIf, dAndV, dOrV, dNotV, dNext, dDrop, dUnp, setAll, dPar, dPar3, dTy, tyD, dChain, dChain3, oI, oI0, oGcd, oLen, oAbs, oInt, ixT_tup, ixL_lst, fr_at0, fr_at1, oNeg, oEq, oNe, oRepr, oEqS, oCat, oRepL, allD, dSliceL, dSliceT, oCatT, oIsN, oNotN, isNone_fr, isNone_non, isNone_tup, isNone_list, isNone_int, isNone_bool, dPart, dNoPart, dAsgOwn, dFreeze, dParO2, dParO3, dPeekT, dPeekI, dYes, oSum, oTupOf, oMin, oIsB, oNotB, oMax, oMinL, dParOD, dParDO, dAppend, entry, atI_0, atI_1, atI_2, atI_3, List.map_cons, List.map_nil, List.length_cons, List.length_nil, List.set_cons_zero, List.set_cons_succ, List.getElem?_cons_zero, List.getElem?_cons_succ, List.cons_append, List.nil_append, Nat.reduceAdd, Nat.reduceSub, Nat.reduceLeDiff, List.replicate, Bool.false_eq_true, if_false, if_true, ite_true, ite_false, true_and, and_true, Bool.not_true, Bool.not_false, decide_true, decide_false]
  refine draw_go (lim := 12) rfl (by decide) (by decide) (by omega) fun x hx => ?_
  simp only [dSliceA, oCatA, dIsi, pR3, pR4, pR5, dSeq, dAsg, dVar, dC, dOp, dUn, dCB, dCall, dCallK, pId, pRev, dCons, dNil, dTup, dLst, dRet, dRetN, dIfS, dTest, dNot, dAnd, dOr, dIf, dAndV, dOrV, dNotV, dNext, dDrop, dUnp, setAll, dPar, dPar3, dTy, tyD, dChain, dChain3, oI, oI0, oGcd, oLen, oAbs, oInt, ixT_tup, ixL_lst, fr_at0, fr_at1, oNeg, oEq, oNe, oRepr, oEqS, oCat, oRepL, allD, dSliceL, dSliceT, oCatT, oIsN, oNotN, isNone_fr, isNone_non, isNone_tup, isNone_list, isNone_int, isNone_bool, dPart, dNoPart, dAsgOwn, dFreeze, dParO2, dParO3, dPeekT, dPeekI, dYes, oSum, oTupOf, oMin, oIsB, oNotB, oMax, oMinL, dParOD, dParDO, dAppend, entry, atI_0, atI_1, atI_2, atI_3, List.map_cons, List.map_nil, List.length_cons, List.length_nil, List.set_cons_zero, List.set_cons_succ, List.getElem?_cons_zero, List.getElem?_cons_succ, List.cons_append, List.nil_append, Nat.reduceAdd, Nat.reduceSub, Nat.reduceLeDiff, List.replicate, Bool.false_eq_true, if_false, if_true, ite_true, ite_false, true_and, and_true, Bool.not_true, Bool.not_false, decide_true, decide_false]
  refine ⟨mulB (a := 4) (b := 4) (B.of (by decide)) (B_of (by omega) (by omega)) (by decide), ?_⟩
  refine draw_go (lim := 8 * (1 + x) + 1) (by omega) (by omega) (Nat.lt_trans (show 8 * (1 + x) + 1 < 200 by omega) (by decide)) (by omega) fun y hy => ?_
  have b0 : (0 : Int) < 1 + (x : Int) := by omega
  have s1 : Sz 7 (((y : Int) : Rat) / ((1 + (x : Int) : Int) : Rat)) := Sz.of_div b0 (B_of (by omega) (by omega)) (B_of (by omega) (by omega))
  refine ⟨(y : Int), 1 + (x : Int), rfl, b0, (B_of (k := 7) (by omega) (by omega)).mono (by decide), (B_of (k := 4) (by omega) (by omega)).mono (by decide), ?_⟩
  simp only [dSliceA, oCatA, dIsi, pR3, pR4, pR5, dSeq, dAsg, dVar, dC, dOp, dUn, dCB, dCall, dCallK, pId, pRev, dCons, dNil, dTup, dLst, dRet, dRetN, dIfS, dTest, dNot, dAnd, dOr, dIf, dAndV, dOrV, dNotV, dNext, dDrop, dUnp, setAll, dPar, dPar3, dTy, tyD, dChain, dChain3, oI, oI0, oGcd, oLen, oAbs, oInt, ixT_tup, ixL_lst, fr_at0, fr_at1, oNeg, oEq, oNe, oRepr, oEqS, oCat, oRepL, allD, dSliceL, dSliceT, oCatT, oIsN, oNotN, isNone_fr, isNone_non, isNone_tup, isNone_list, isNone_int, isNone_bool, dPart, dNoPart, dAsgOwn, dFreeze, dParO2, dParO3, dPeekT, dPeekI, dYes, oSum, oTupOf, oMin, oIsB, oNotB, oMax, oMinL, dParOD, dParDO, dAppend, entry, atI_0, atI_1, atI_2, atI_3, List.map_cons, List.map_nil, List.length_cons, List.length_nil, List.set_cons_zero, List.set_cons_succ, List.getElem?_cons_zero, List.getElem?_cons_succ, List.cons_append, List.nil_append, Nat.reduceAdd, Nat.reduceSub, Nat.reduceLeDiff, List.replicate, Bool.false_eq_true, if_false, if_true, ite_true, ite_false, true_and, and_true, Bool.not_true, Bool.not_false, decide_true, decide_false]
  have y0 : (0 : Rat) ≤ ((y : Int) : Rat) / ((1 + (x : Int) : Int) : Rat) := by
    have h1 : (0 : Rat) < ((1 + (x : Int) : Int) : Rat) := Rat.intCast_pos.2 b0
    have h2 : (0 : Rat) ≤ ((y : Int) : Rat) := Rat.intCast_nonneg.2 (by omega)
    refine Rat.not_lt.1 fun z => ?_
    rw [Rat.div_lt_iff h1] at z
    grind
  have df : De (1 + x) 8 (((y : Int) : Rat) / ((1 + (x : Int) : Int) : Rat)) := De.of (a := (y : Int)) (D := 1 + x) (by omega) (by omega)
  generalize ((y : Int) : Rat) / ((1 + (x : Int) : Int) : Rat) = f at *
  refine ⟨f, c, rfl, s1.mono (by decide), sc.mono (by decide), ?_⟩
  by_cases hf : f < c
  · simp only [dSliceA, oCatA, dIsi, pR3, pR4, pR5, dSeq, dAsg, dVar, dC, dOp, dUn, dCB, dCall, dCallK, pId, pRev, dCons, dNil, dTup, dLst, dRet, dRetN, dIfS, dTest, dNot, dAnd, dOr, dIf, dAndV, dOrV, dNotV, dNext, dDrop, dUnp, setAll, dPar, dPar3, dTy, tyD, dChain, dChain3, oI, oI0, oGcd, oLen, oAbs, oInt, ixT_tup, ixL_lst, fr_at0, fr_at1, oNeg, oEq, oNe, oRepr, oEqS, oCat, oRepL, allD, dSliceL, dSliceT, oCatT, oIsN, oNotN, isNone_fr, isNone_non, isNone_tup, isNone_list, isNone_int, isNone_bool, dPart, dNoPart, dAsgOwn, dFreeze, dParO2, dParO3, dPeekT, dPeekI, dYes, oSum, oTupOf, oMin, oIsB, oNotB, oMax, oMinL, dParOD, dParDO, dAppend, entry, atI_0, atI_1, atI_2, atI_3, List.map_cons, List.map_nil, List.length_cons, List.length_nil, List.set_cons_zero, List.set_cons_succ, List.getElem?_cons_zero, List.getElem?_cons_succ, List.cons_append, List.nil_append, Nat.reduceAdd, Nat.reduceSub, Nat.reduceLeDiff, List.replicate, Bool.false_eq_true, if_false, if_true, ite_true, ite_false, true_and, and_true, Bool.not_true, Bool.not_false, decide_true, decide_false, hf]
    exact ⟨f, c, rfl, s1.mono (by decide), sc.mono (by decide), k _ (by grind) ((s1.add sc).mono (by decide)) fun d dc => ⟨1 + x, by omega, by omega, (df.dvd d (by rw [Nat.mul_comm]) (Nat.mul_pos dc.pos df.pos)).add (dc.dvd (1 + x) rfl (Nat.mul_pos dc.pos df.pos))⟩⟩
  · simp only [dSliceA, oCatA, dIsi, pR3, pR4, pR5, dSeq, dAsg, dVar, dC, dOp, dUn, dCB, dCall, dCallK, pId, pRev, dCons, dNil, dTup, dLst, dRet, dRetN, dIfS, dTest, dNot, dAnd, dOr, dIf, dAndV, dOrV, dNotV, dNext, dDrop, dUnp, setAll, dPar, dPar3, dTy, tyD, dChain, dChain3, oI, oI0, oGcd, oLen, oAbs, oInt, ixT_tup, ixL_lst, fr_at0, fr_at1, oNeg, oEq, oNe, oRepr, oEqS, oCat, oRepL, allD, dSliceL, dSliceT, oCatT, oIsN, oNotN, isNone_fr, isNone_non, isNone_tup, isNone_list, isNone_int, isNone_bool, dPart, dNoPart, dAsgOwn, dFreeze, dParO2, dParO3, dPeekT, dPeekI, dYes, oSum, oTupOf, oMin, oIsB, oNotB, oMax, oMinL, dParOD, dParDO, dAppend, entry, atI_0, atI_1, atI_2, atI_3, List.map_cons, List.map_nil, List.length_cons, List.length_nil, List.set_cons_zero, List.set_cons_succ, List.getElem?_cons_zero, List.getElem?_cons_succ, List.cons_append, List.nil_append, Nat.reduceAdd, Nat.reduceSub, Nat.reduceLeDiff, List.replicate, Bool.false_eq_true, if_false, if_true, ite_true, ite_false, true_and, and_true, Bool.not_true, Bool.not_false, decide_true, decide_false, hf]
    exact k f (Rat.not_lt.1 hf) (s1.mono (by decide)) fun d dc => ⟨1 + x, by omega, by omega, (df.dvd d (by rw [Nat.mul_comm]) (Nat.mul_pos dc.pos df.pos)).mono (by decide)⟩
/-- a drawn setting: its LIMIT, STEP, PART, its HEIGHT -/
structure Drawn' (l s c h : Rat) : Prop where
  s0 : 0 < s
  c0 : 0 < c
  c1 : c < 1
  cd : (c.den : Int) ≤ 8
  ch : c ≤ h
  zl : Sz 6 l
  zs : Sz 4 s
  zc : Sz 4 c
  zh : Sz 12 h
abbrev keepOf (l s c h : Rat) : Rat := (1 - c) * l - h * s
theorem one_sz : Sz 1 (1 : Rat) := ⟨B.of (by decide), B.of (by decide)⟩
theorem Drawn'.zk {l s c h : Rat} (d : Drawn' l s c h) : Sz 29 (keepOf l s c h) := ((((one_sz.sub d.zc).mul d.zl).sub (d.zh.mul d.zs))).mono (by decide)
theorem Drawn'.rule {l s c h : Rat} (d : Drawn' l s c h) : Rule l s c (keepOf l s c h) := by
  refine ⟨(d.zl.mono (by decide)).bd, (d.zs.mono (by decide)).bd, (d.zc.mono (by decide)).bd, (d.zk.mono (by decide)).bd, d.s0, d.c0, d.c1, Int.le_trans d.cd (by decide), ?_⟩
  have z : 0 ≤ (h - c) * s := Rat.mul_nonneg (by have := d.ch; grind) (Rat.le_of_lt d.s0)
  unfold keepOf
  grind
theorem Drawn'.height {l s c h : Rat} (d : Drawn' l s c h) : (l - c * l - keepOf l s c h) / s = h := by
  have z : s ≠ 0 := by have := d.s0; grind
  unfold keepOf
  grind
/-- the denominators of what is drawn -/
structure Den (l s c h : Rat) : Prop where
  ex : ∃ dc E dl ds : Nat, 0 < E ∧ dc ≤ 8 ∧ E ≤ 12 ∧ dl ≤ 4 ∧ ds ≤ 6 ∧ De dc 1 c ∧ De (dc * E) 9 h ∧ De dl 40 l ∧ De ds 9 s
def s__law_rule : DSp := fun ds n R => ds = [.draws] ∧ n + 8 < LIM ∧ ∀ l s c h : Rat, Drawn' l s c h → Den l s c h → R (SV l s c (keepOf l s c h)) (n + 8)
/-- _law_rule. Slots: draws_so, cut_so, top_so, step_so, lot_so, rest -/
def t__law_rule : DTS :=
  (dSeq (dAsg 1 (dCall s__law_cut (dCons (dVar 0) dNil)))
  (dSeq (dAsg 2 (dCall s__law_share (dCons (dOp oSub (dCall s__law_draw (dCons (dVar 0) (dCons (dC (.int 61)) dNil))) (dC (.int 20))) (dCons (dOp oAdd (dC (.int 1)) (dCall s__law_draw (dCons (dVar 0) (dCons (dC (.int 4)) dNil)))) dNil))))
  (dSeq (dAsg 3 (dCall s__law_share (dCons (dOp oAdd (dC (.int 1)) (dCall s__law_draw (dCons (dVar 0) (dCons (dC (.int 9)) dNil)))) (dCons (dOp oAdd (dC (.int 1)) (dCall s__law_draw (dCons (dVar 0) (dCons (dC (.int 6)) dNil)))) dNil))))
  (dSeq (dAsg 4 (dCall s__law_lot (dCons (dVar 0) (dCons (dVar 1) dNil))))
  (dSeq (dAsg 5 (dCall s__law_times (dCons (dCall s__law_minus (dCons (dTup (dCons (dC (.int 1)) (dCons (dC (.int 1)) dNil))) (dCons (dVar 1) dNil))) (dCons (dVar 2) dNil))))
  (dRet (dTup (dCons (dVar 2) (dCons (dVar 3) (dCons (dVar 1) (dCons (dCall s__law_minus (dCons (dVar 5) (dCons (dCall s__law_times (dCons (dVar 4) (dCons (dVar 3) dNil))) dNil))) dNil)))))))))))
theorem fr_one : (PyData.tuple [PyData.int 1, PyData.int 1]) = fr 1 := rfl
theorem fr_zero : (PyData.tuple [PyData.int 0, PyData.int 1]) = fr 0 := rfl
theorem p__law_rule (ds : List DV) (n : Nat) (R : DV → Nat → Prop) (h : s__law_rule ds n R) : Goal t__law_rule 6 ds n R := by
  obtain ⟨rfl, hn, k⟩ := h
  simp only [Goal, t__law_rule, dSliceA, oCatA, dIsi, pR3, pR4, pR5, dSeq, dAsg, dVar, dC, dOp, dUn, dCB, dCall, dCallK, pId, pRev, dCons, dNil, dTup, dLst, dRet, dRetN, dIfS, dTest, dNot, dAnd, dOr, dIf, dAndV, dOrV, dNotV, dNext, dDrop, dUnp, setAll, dPar, dPar3, dTy, tyD, dChain, dChain3, oI, oI0, oGcd, oLen, oAbs, oInt, ixT_tup, ixL_lst, fr_at0, fr_at1, oNeg, oEq, oNe, oRepr, oEqS, oCat, oRepL, allD, dSliceL, dSliceT, oCatT, oIsN, oNotN, isNone_fr, isNone_non, isNone_tup, isNone_list, isNone_int, isNone_bool, dPart, dNoPart, dAsgOwn, dFreeze, dParO2, dParO3, dPeekT, dPeekI, dYes, oSum, oTupOf, oMin, oIsB, oNotB, oMax, oMinL, dParOD, dParDO, dAppend, entry, atI_0, atI_1, atI_2, atI_3, List.map_cons, List.map_nil, List.length_cons, List.length_nil, List.set_cons_zero, List.set_cons_succ, List.getElem?_cons_zero, List.getElem?_cons_succ, List.cons_append, List.nil_append, Nat.reduceAdd, Nat.reduceSub, Nat.reduceLeDiff, List.replicate, Bool.false_eq_true, if_false, if_true, ite_true, ite_false, true_and, and_true, Bool.not_true, Bool.not_false, decide_true, decide_false]
  refine ⟨rfl, by omega, fun c c0 c1 cd zc ec' => ?_⟩
  obtain ⟨dc, dc8, ec⟩ := ec'
  simp only [dSliceA, oCatA, dIsi, pR3, pR4, pR5, dSeq, dAsg, dVar, dC, dOp, dUn, dCB, dCall, dCallK, pId, pRev, dCons, dNil, dTup, dLst, dRet, dRetN, dIfS, dTest, dNot, dAnd, dOr, dIf, dAndV, dOrV, dNotV, dNext, dDrop, dUnp, setAll, dPar, dPar3, dTy, tyD, dChain, dChain3, oI, oI0, oGcd, oLen, oAbs, oInt, ixT_tup, ixL_lst, fr_at0, fr_at1, oNeg, oEq, oNe, oRepr, oEqS, oCat, oRepL, allD, dSliceL, dSliceT, oCatT, oIsN, oNotN, isNone_fr, isNone_non, isNone_tup, isNone_list, isNone_int, isNone_bool, dPart, dNoPart, dAsgOwn, dFreeze, dParO2, dParO3, dPeekT, dPeekI, dYes, oSum, oTupOf, oMin, oIsB, oNotB, oMax, oMinL, dParOD, dParDO, dAppend, entry, atI_0, atI_1, atI_2, atI_3, List.map_cons, List.map_nil, List.length_cons, List.length_nil, List.set_cons_zero, List.set_cons_succ, List.getElem?_cons_zero, List.getElem?_cons_succ, List.cons_append, List.nil_append, Nat.reduceAdd, Nat.reduceSub, Nat.reduceLeDiff, List.replicate, Bool.false_eq_true, if_false, if_true, ite_true, ite_false, true_and, and_true, Bool.not_true, Bool.not_false, decide_true, decide_false]
  refine draw_go (lim := 61) rfl (by decide) (by decide) (by omega) fun x1 h1 => ?_
  simp only [dSliceA, oCatA, dIsi, pR3, pR4, pR5, dSeq, dAsg, dVar, dC, dOp, dUn, dCB, dCall, dCallK, pId, pRev, dCons, dNil, dTup, dLst, dRet, dRetN, dIfS, dTest, dNot, dAnd, dOr, dIf, dAndV, dOrV, dNotV, dNext, dDrop, dUnp, setAll, dPar, dPar3, dTy, tyD, dChain, dChain3, oI, oI0, oGcd, oLen, oAbs, oInt, ixT_tup, ixL_lst, fr_at0, fr_at1, oNeg, oEq, oNe, oRepr, oEqS, oCat, oRepL, allD, dSliceL, dSliceT, oCatT, oIsN, oNotN, isNone_fr, isNone_non, isNone_tup, isNone_list, isNone_int, isNone_bool, dPart, dNoPart, dAsgOwn, dFreeze, dParO2, dParO3, dPeekT, dPeekI, dYes, oSum, oTupOf, oMin, oIsB, oNotB, oMax, oMinL, dParOD, dParDO, dAppend, entry, atI_0, atI_1, atI_2, atI_3, List.map_cons, List.map_nil, List.length_cons, List.length_nil, List.set_cons_zero, List.set_cons_succ, List.getElem?_cons_zero, List.getElem?_cons_succ, List.cons_append, List.nil_append, Nat.reduceAdd, Nat.reduceSub, Nat.reduceLeDiff, List.replicate, Bool.false_eq_true, if_false, if_true, ite_true, ite_false, true_and, and_true, Bool.not_true, Bool.not_false, decide_true, decide_false]
  refine draw_go (lim := 4) rfl (by decide) (by decide) (by omega) fun x2 h2 => ?_
  simp only [dSliceA, oCatA, dIsi, pR3, pR4, pR5, dSeq, dAsg, dVar, dC, dOp, dUn, dCB, dCall, dCallK, pId, pRev, dCons, dNil, dTup, dLst, dRet, dRetN, dIfS, dTest, dNot, dAnd, dOr, dIf, dAndV, dOrV, dNotV, dNext, dDrop, dUnp, setAll, dPar, dPar3, dTy, tyD, dChain, dChain3, oI, oI0, oGcd, oLen, oAbs, oInt, ixT_tup, ixL_lst, fr_at0, fr_at1, oNeg, oEq, oNe, oRepr, oEqS, oCat, oRepL, allD, dSliceL, dSliceT, oCatT, oIsN, oNotN, isNone_fr, isNone_non, isNone_tup, isNone_list, isNone_int, isNone_bool, dPart, dNoPart, dAsgOwn, dFreeze, dParO2, dParO3, dPeekT, dPeekI, dYes, oSum, oTupOf, oMin, oIsB, oNotB, oMax, oMinL, dParOD, dParDO, dAppend, entry, atI_0, atI_1, atI_2, atI_3, List.map_cons, List.map_nil, List.length_cons, List.length_nil, List.set_cons_zero, List.set_cons_succ, List.getElem?_cons_zero, List.getElem?_cons_succ, List.cons_append, List.nil_append, Nat.reduceAdd, Nat.reduceSub, Nat.reduceLeDiff, List.replicate, Bool.false_eq_true, if_false, if_true, ite_true, ite_false, true_and, and_true, Bool.not_true, Bool.not_false, decide_true, decide_false]
  have d0 : (0 : Int) < 1 + (x2 : Int) := by omega
  have bl : B 6 ((x1 : Int) - 20).natAbs := by
    unfold B
    have : ((x1 : Int) - 20).natAbs < 64 := by omega
    exact this
  have zl : Sz 6 ((((x1 : Int) - 20 : Int) : Rat) / ((1 + (x2 : Int) : Int) : Rat)) := Sz.of_div d0 bl (B_of (by omega) (by omega))
  have el : De (1 + x2) 40 ((((x1 : Int) - 20 : Int) : Rat) / ((1 + (x2 : Int) : Int) : Rat)) := De.of (a := (x1 : Int) - 20) (D := 1 + x2) (by omega) (by omega)
  refine ⟨(x1 : Int) - 20, 1 + (x2 : Int), rfl, d0, bl.mono (by decide), (B_of (k := 4) (by omega) (by omega)).mono (by decide), ?_⟩
  generalize (((x1 : Int) - 20 : Int) : Rat) / ((1 + (x2 : Int) : Int) : Rat) = l at *
  simp only [dSliceA, oCatA, dIsi, pR3, pR4, pR5, dSeq, dAsg, dVar, dC, dOp, dUn, dCB, dCall, dCallK, pId, pRev, dCons, dNil, dTup, dLst, dRet, dRetN, dIfS, dTest, dNot, dAnd, dOr, dIf, dAndV, dOrV, dNotV, dNext, dDrop, dUnp, setAll, dPar, dPar3, dTy, tyD, dChain, dChain3, oI, oI0, oGcd, oLen, oAbs, oInt, ixT_tup, ixL_lst, fr_at0, fr_at1, oNeg, oEq, oNe, oRepr, oEqS, oCat, oRepL, allD, dSliceL, dSliceT, oCatT, oIsN, oNotN, isNone_fr, isNone_non, isNone_tup, isNone_list, isNone_int, isNone_bool, dPart, dNoPart, dAsgOwn, dFreeze, dParO2, dParO3, dPeekT, dPeekI, dYes, oSum, oTupOf, oMin, oIsB, oNotB, oMax, oMinL, dParOD, dParDO, dAppend, entry, atI_0, atI_1, atI_2, atI_3, List.map_cons, List.map_nil, List.length_cons, List.length_nil, List.set_cons_zero, List.set_cons_succ, List.getElem?_cons_zero, List.getElem?_cons_succ, List.cons_append, List.nil_append, Nat.reduceAdd, Nat.reduceSub, Nat.reduceLeDiff, List.replicate, Bool.false_eq_true, if_false, if_true, ite_true, ite_false, true_and, and_true, Bool.not_true, Bool.not_false, decide_true, decide_false]
  refine draw_go (lim := 9) rfl (by decide) (by decide) (by omega) fun x3 h3 => ?_
  simp only [dSliceA, oCatA, dIsi, pR3, pR4, pR5, dSeq, dAsg, dVar, dC, dOp, dUn, dCB, dCall, dCallK, pId, pRev, dCons, dNil, dTup, dLst, dRet, dRetN, dIfS, dTest, dNot, dAnd, dOr, dIf, dAndV, dOrV, dNotV, dNext, dDrop, dUnp, setAll, dPar, dPar3, dTy, tyD, dChain, dChain3, oI, oI0, oGcd, oLen, oAbs, oInt, ixT_tup, ixL_lst, fr_at0, fr_at1, oNeg, oEq, oNe, oRepr, oEqS, oCat, oRepL, allD, dSliceL, dSliceT, oCatT, oIsN, oNotN, isNone_fr, isNone_non, isNone_tup, isNone_list, isNone_int, isNone_bool, dPart, dNoPart, dAsgOwn, dFreeze, dParO2, dParO3, dPeekT, dPeekI, dYes, oSum, oTupOf, oMin, oIsB, oNotB, oMax, oMinL, dParOD, dParDO, dAppend, entry, atI_0, atI_1, atI_2, atI_3, List.map_cons, List.map_nil, List.length_cons, List.length_nil, List.set_cons_zero, List.set_cons_succ, List.getElem?_cons_zero, List.getElem?_cons_succ, List.cons_append, List.nil_append, Nat.reduceAdd, Nat.reduceSub, Nat.reduceLeDiff, List.replicate, Bool.false_eq_true, if_false, if_true, ite_true, ite_false, true_and, and_true, Bool.not_true, Bool.not_false, decide_true, decide_false]
  refine draw_go (lim := 6) rfl (by decide) (by decide) (by omega) fun x4 h4 => ?_
  simp only [dSliceA, oCatA, dIsi, pR3, pR4, pR5, dSeq, dAsg, dVar, dC, dOp, dUn, dCB, dCall, dCallK, pId, pRev, dCons, dNil, dTup, dLst, dRet, dRetN, dIfS, dTest, dNot, dAnd, dOr, dIf, dAndV, dOrV, dNotV, dNext, dDrop, dUnp, setAll, dPar, dPar3, dTy, tyD, dChain, dChain3, oI, oI0, oGcd, oLen, oAbs, oInt, ixT_tup, ixL_lst, fr_at0, fr_at1, oNeg, oEq, oNe, oRepr, oEqS, oCat, oRepL, allD, dSliceL, dSliceT, oCatT, oIsN, oNotN, isNone_fr, isNone_non, isNone_tup, isNone_list, isNone_int, isNone_bool, dPart, dNoPart, dAsgOwn, dFreeze, dParO2, dParO3, dPeekT, dPeekI, dYes, oSum, oTupOf, oMin, oIsB, oNotB, oMax, oMinL, dParOD, dParDO, dAppend, entry, atI_0, atI_1, atI_2, atI_3, List.map_cons, List.map_nil, List.length_cons, List.length_nil, List.set_cons_zero, List.set_cons_succ, List.getElem?_cons_zero, List.getElem?_cons_succ, List.cons_append, List.nil_append, Nat.reduceAdd, Nat.reduceSub, Nat.reduceLeDiff, List.replicate, Bool.false_eq_true, if_false, if_true, ite_true, ite_false, true_and, and_true, Bool.not_true, Bool.not_false, decide_true, decide_false]
  have e0 : (0 : Int) < 1 + (x4 : Int) := by omega
  have s0 := div_pos' (a := 1 + (x3 : Int)) (by omega) e0
  have zs : Sz 4 (((1 + (x3 : Int) : Int) : Rat) / ((1 + (x4 : Int) : Int) : Rat)) := Sz.of_div e0 (B_of (by omega) (by omega)) (B_of (by omega) (by omega))
  have es : De (1 + x4) 9 (((1 + (x3 : Int) : Int) : Rat) / ((1 + (x4 : Int) : Int) : Rat)) := De.of (a := 1 + (x3 : Int)) (D := 1 + x4) (by omega) (by omega)
  refine ⟨1 + (x3 : Int), 1 + (x4 : Int), rfl, e0, (B_of (k := 4) (by omega) (by omega)).mono (by decide), (B_of (k := 4) (by omega) (by omega)).mono (by decide), ?_⟩
  generalize ((1 + (x3 : Int) : Int) : Rat) / ((1 + (x4 : Int) : Int) : Rat) = s at *
  simp only [dSliceA, oCatA, dIsi, pR3, pR4, pR5, dSeq, dAsg, dVar, dC, dOp, dUn, dCB, dCall, dCallK, pId, pRev, dCons, dNil, dTup, dLst, dRet, dRetN, dIfS, dTest, dNot, dAnd, dOr, dIf, dAndV, dOrV, dNotV, dNext, dDrop, dUnp, setAll, dPar, dPar3, dTy, tyD, dChain, dChain3, oI, oI0, oGcd, oLen, oAbs, oInt, ixT_tup, ixL_lst, fr_at0, fr_at1, oNeg, oEq, oNe, oRepr, oEqS, oCat, oRepL, allD, dSliceL, dSliceT, oCatT, oIsN, oNotN, isNone_fr, isNone_non, isNone_tup, isNone_list, isNone_int, isNone_bool, dPart, dNoPart, dAsgOwn, dFreeze, dParO2, dParO3, dPeekT, dPeekI, dYes, oSum, oTupOf, oMin, oIsB, oNotB, oMax, oMinL, dParOD, dParDO, dAppend, entry, atI_0, atI_1, atI_2, atI_3, List.map_cons, List.map_nil, List.length_cons, List.length_nil, List.set_cons_zero, List.set_cons_succ, List.getElem?_cons_zero, List.getElem?_cons_succ, List.cons_append, List.nil_append, Nat.reduceAdd, Nat.reduceSub, Nat.reduceLeDiff, List.replicate, Bool.false_eq_true, if_false, if_true, ite_true, ite_false, true_and, and_true, Bool.not_true, Bool.not_false, decide_true, decide_false]
  refine ⟨c, rfl, zc, by omega, fun h ch zh eh' => ?_⟩
  obtain ⟨E, E0, E12, eh⟩ := eh' dc ec
  simp only [dSliceA, oCatA, dIsi, pR3, pR4, pR5, dSeq, dAsg, dVar, dC, dOp, dUn, dCB, dCall, dCallK, pId, pRev, dCons, dNil, dTup, dLst, dRet, dRetN, dIfS, dTest, dNot, dAnd, dOr, dIf, dAndV, dOrV, dNotV, dNext, dDrop, dUnp, setAll, dPar, dPar3, dTy, tyD, dChain, dChain3, oI, oI0, oGcd, oLen, oAbs, oInt, ixT_tup, ixL_lst, fr_at0, fr_at1, oNeg, oEq, oNe, oRepr, oEqS, oCat, oRepL, allD, dSliceL, dSliceT, oCatT, oIsN, oNotN, isNone_fr, isNone_non, isNone_tup, isNone_list, isNone_int, isNone_bool, dPart, dNoPart, dAsgOwn, dFreeze, dParO2, dParO3, dPeekT, dPeekI, dYes, oSum, oTupOf, oMin, oIsB, oNotB, oMax, oMinL, dParOD, dParDO, dAppend, entry, atI_0, atI_1, atI_2, atI_3, List.map_cons, List.map_nil, List.length_cons, List.length_nil, List.set_cons_zero, List.set_cons_succ, List.getElem?_cons_zero, List.getElem?_cons_succ, List.cons_append, List.nil_append, Nat.reduceAdd, Nat.reduceSub, Nat.reduceLeDiff, List.replicate, Bool.false_eq_true, if_false, if_true, ite_true, ite_false, true_and, and_true, Bool.not_true, Bool.not_false, decide_true, decide_false, fr_one]
  have d : Drawn' l s c h := ⟨s0, c0, c1, cd, ch, zl, zs, zc, zh⟩
  refine ⟨1, c, rfl, one_sz.mono (by decide), zc.mono (by decide), 1 - c, l, rfl, (one_sz.sub zc).mono (by decide), zl.mono (by decide), ?_⟩
  simp only [dSliceA, oCatA, dIsi, pR3, pR4, pR5, dSeq, dAsg, dVar, dC, dOp, dUn, dCB, dCall, dCallK, pId, pRev, dCons, dNil, dTup, dLst, dRet, dRetN, dIfS, dTest, dNot, dAnd, dOr, dIf, dAndV, dOrV, dNotV, dNext, dDrop, dUnp, setAll, dPar, dPar3, dTy, tyD, dChain, dChain3, oI, oI0, oGcd, oLen, oAbs, oInt, ixT_tup, ixL_lst, fr_at0, fr_at1, oNeg, oEq, oNe, oRepr, oEqS, oCat, oRepL, allD, dSliceL, dSliceT, oCatT, oIsN, oNotN, isNone_fr, isNone_non, isNone_tup, isNone_list, isNone_int, isNone_bool, dPart, dNoPart, dAsgOwn, dFreeze, dParO2, dParO3, dPeekT, dPeekI, dYes, oSum, oTupOf, oMin, oIsB, oNotB, oMax, oMinL, dParOD, dParDO, dAppend, entry, atI_0, atI_1, atI_2, atI_3, List.map_cons, List.map_nil, List.length_cons, List.length_nil, List.set_cons_zero, List.set_cons_succ, List.getElem?_cons_zero, List.getElem?_cons_succ, List.cons_append, List.nil_append, Nat.reduceAdd, Nat.reduceSub, Nat.reduceLeDiff, List.replicate, Bool.false_eq_true, if_false, if_true, ite_true, ite_false, true_and, and_true, Bool.not_true, Bool.not_false, decide_true, decide_false]
  refine ⟨h, s, rfl, zh.mono (by decide), zs.mono (by decide), (1 - c) * l, h * s, rfl, ((one_sz.sub zc).mul zl).mono (by decide), (zh.mul zs).mono (by decide), ?_⟩
  simp only [dSliceA, oCatA, dIsi, pR3, pR4, pR5, dSeq, dAsg, dVar, dC, dOp, dUn, dCB, dCall, dCallK, pId, pRev, dCons, dNil, dTup, dLst, dRet, dRetN, dIfS, dTest, dNot, dAnd, dOr, dIf, dAndV, dOrV, dNotV, dNext, dDrop, dUnp, setAll, dPar, dPar3, dTy, tyD, dChain, dChain3, oI, oI0, oGcd, oLen, oAbs, oInt, ixT_tup, ixL_lst, fr_at0, fr_at1, oNeg, oEq, oNe, oRepr, oEqS, oCat, oRepL, allD, dSliceL, dSliceT, oCatT, oIsN, oNotN, isNone_fr, isNone_non, isNone_tup, isNone_list, isNone_int, isNone_bool, dPart, dNoPart, dAsgOwn, dFreeze, dParO2, dParO3, dPeekT, dPeekI, dYes, oSum, oTupOf, oMin, oIsB, oNotB, oMax, oMinL, dParOD, dParDO, dAppend, entry, atI_0, atI_1, atI_2, atI_3, List.map_cons, List.map_nil, List.length_cons, List.length_nil, List.set_cons_zero, List.set_cons_succ, List.getElem?_cons_zero, List.getElem?_cons_succ, List.cons_append, List.nil_append, Nat.reduceAdd, Nat.reduceSub, Nat.reduceLeDiff, List.replicate, Bool.false_eq_true, if_false, if_true, ite_true, ite_false, true_and, and_true, Bool.not_true, Bool.not_false, decide_true, decide_false]
  exact k l s c h d ⟨dc, E, 1 + x2, 1 + x4, E0, dc8, E12, by omega, by omega, ec, eh, el, es⟩
def s__law_spot : DSp := fun ds n R => ds = [.draws] ∧ n + 2 < LIM ∧ ∀ q : Rat, 0 < q → q ≤ 1 → Sz 5 q → (∃ low : Nat, low ≤ 30 ∧ De low 1 q) → R (FV q) (n + 2)
/-- _law_spot. Slots: draws_so, low -/
def t__law_spot : DTS :=
  (dSeq (dAsg 1 (dOp oAdd (dC (.int 1)) (dCall s__law_draw (dCons (dVar 0) (dCons (dC (.int 30)) dNil)))))
  (dRet (dCall s__law_share (dCons (dOp oAdd (dC (.int 1)) (dCall s__law_draw (dCons (dVar 0) (dCons (dVar 1) dNil)))) (dCons (dVar 1) dNil)))))
theorem p__law_spot (ds : List DV) (n : Nat) (R : DV → Nat → Prop) (h : s__law_spot ds n R) : Goal t__law_spot 2 ds n R := by
  obtain ⟨rfl, hn, k⟩ := h
  simp only [Goal, t__law_spot, dSliceA, oCatA, dIsi, pR3, pR4, pR5, dSeq, dAsg, dVar, dC, dOp, dUn, dCB, dCall, dCallK, pId, pRev, dCons, dNil, dTup, dLst, dRet, dRetN, dIfS, dTest, dNot, dAnd, dOr, dIf, dAndV, dOrV, dNotV, dNext, dDrop, dUnp, setAll, dPar, dPar3, dTy, tyD, dChain, dChain3, oI, oI0, oGcd, oLen, oAbs, oInt, ixT_tup, ixL_lst, fr_at0, fr_at1, oNeg, oEq, oNe, oRepr, oEqS, oCat, oRepL, allD, dSliceL, dSliceT, oCatT, oIsN, oNotN, isNone_fr, isNone_non, isNone_tup, isNone_list, isNone_int, isNone_bool, dPart, dNoPart, dAsgOwn, dFreeze, dParO2, dParO3, dPeekT, dPeekI, dYes, oSum, oTupOf, oMin, oIsB, oNotB, oMax, oMinL, dParOD, dParDO, dAppend, entry, atI_0, atI_1, atI_2, atI_3, List.map_cons, List.map_nil, List.length_cons, List.length_nil, List.set_cons_zero, List.set_cons_succ, List.getElem?_cons_zero, List.getElem?_cons_succ, List.cons_append, List.nil_append, Nat.reduceAdd, Nat.reduceSub, Nat.reduceLeDiff, List.replicate, Bool.false_eq_true, if_false, if_true, ite_true, ite_false, true_and, and_true, Bool.not_true, Bool.not_false, decide_true, decide_false]
  refine draw_go (lim := 30) rfl (by decide) (by decide) (by omega) fun x hx => ?_
  simp only [dSliceA, oCatA, dIsi, pR3, pR4, pR5, dSeq, dAsg, dVar, dC, dOp, dUn, dCB, dCall, dCallK, pId, pRev, dCons, dNil, dTup, dLst, dRet, dRetN, dIfS, dTest, dNot, dAnd, dOr, dIf, dAndV, dOrV, dNotV, dNext, dDrop, dUnp, setAll, dPar, dPar3, dTy, tyD, dChain, dChain3, oI, oI0, oGcd, oLen, oAbs, oInt, ixT_tup, ixL_lst, fr_at0, fr_at1, oNeg, oEq, oNe, oRepr, oEqS, oCat, oRepL, allD, dSliceL, dSliceT, oCatT, oIsN, oNotN, isNone_fr, isNone_non, isNone_tup, isNone_list, isNone_int, isNone_bool, dPart, dNoPart, dAsgOwn, dFreeze, dParO2, dParO3, dPeekT, dPeekI, dYes, oSum, oTupOf, oMin, oIsB, oNotB, oMax, oMinL, dParOD, dParDO, dAppend, entry, atI_0, atI_1, atI_2, atI_3, List.map_cons, List.map_nil, List.length_cons, List.length_nil, List.set_cons_zero, List.set_cons_succ, List.getElem?_cons_zero, List.getElem?_cons_succ, List.cons_append, List.nil_append, Nat.reduceAdd, Nat.reduceSub, Nat.reduceLeDiff, List.replicate, Bool.false_eq_true, if_false, if_true, ite_true, ite_false, true_and, and_true, Bool.not_true, Bool.not_false, decide_true, decide_false]
  refine draw_go (lim := 1 + x) (by omega) (by omega) (Nat.lt_trans (show 1 + x < 50 by omega) (by decide)) (by omega) fun y hy => ?_
  have d0 : (0 : Int) < 1 + (x : Int) := by omega
  refine ⟨1 + (y : Int), 1 + (x : Int), rfl, d0, (B_of (k := 5) (by omega) (by omega)).mono (by decide), (B_of (k := 5) (by omega) (by omega)).mono (by decide), ?_⟩
  exact k _ (div_pos' (by omega) d0) (div_le_one (by omega) d0) (Sz.of_div d0 (B_of (by omega) (by omega)) (B_of (by omega) (by omega))) ⟨1 + x, by omega, De.of (a := 1 + (y : Int)) (D := 1 + x) (by omega) (by omega)⟩
/-- the law's own tick from a level: told (behind, up) where it is cut -/
def s__law_tick : DSp := fun ds n R => ∃ l s c k v : Rat, ds = [SV l s c k, FV v] ∧ Sz 120 l ∧ Sz 80 s ∧ Sz 4 c ∧ Sz 100 k ∧ Sz 160 v ∧ (l < v + s → R (TV [fr (c * (v + s) + k), fr (v + s)]) n) ∧ (¬ l < v + s → R (TV [fr (v + s), .none]) n)
/-- _law_tick. Slots: rule_so, here, top_so, step_so, cut_so, keep_so, up -/
def t__law_tick : DTS :=
  (dSeq (dUnp [2, 3, 4, 5] (dVar 0))
  (dSeq (dAsg 6 (dCall s__law_plus (dCons (dVar 1) (dCons (dVar 3) dNil))))
  (dSeq (dIfS (dTest (dCall s__law_below (dCons (dVar 2) (dCons (dVar 6) dNil)))) (dRet (dTup (dCons (dCall s__law_plus (dCons (dCall s__law_times (dCons (dVar 4) (dCons (dVar 6) dNil))) (dCons (dVar 5) dNil))) (dCons (dVar 6) dNil)))) dNext)
  (dRet (dTup (dCons (dVar 6) (dCons (dC .none) dNil)))))))
theorem p__law_tick (ds : List DV) (n : Nat) (R : DV → Nat → Prop) (h : s__law_tick ds n R) : Goal t__law_tick 7 ds n R := by
  obtain ⟨l, s, c, k, v, rfl, zl, zs, zc, zk, zv, q1, q2⟩ := h
  simp only [Goal, t__law_tick, dSliceA, oCatA, dIsi, pR3, pR4, pR5, dSeq, dAsg, dVar, dC, dOp, dUn, dCB, dCall, dCallK, pId, pRev, dCons, dNil, dTup, dLst, dRet, dRetN, dIfS, dTest, dNot, dAnd, dOr, dIf, dAndV, dOrV, dNotV, dNext, dDrop, dUnp, setAll, dPar, dPar3, dTy, tyD, dChain, dChain3, oI, oI0, oGcd, oLen, oAbs, oInt, ixT_tup, ixL_lst, fr_at0, fr_at1, oNeg, oEq, oNe, oRepr, oEqS, oCat, oRepL, allD, dSliceL, dSliceT, oCatT, oIsN, oNotN, isNone_fr, isNone_non, isNone_tup, isNone_list, isNone_int, isNone_bool, dPart, dNoPart, dAsgOwn, dFreeze, dParO2, dParO3, dPeekT, dPeekI, dYes, oSum, oTupOf, oMin, oIsB, oNotB, oMax, oMinL, dParOD, dParDO, dAppend, entry, atI_0, atI_1, atI_2, atI_3, List.map_cons, List.map_nil, List.length_cons, List.length_nil, List.set_cons_zero, List.set_cons_succ, List.getElem?_cons_zero, List.getElem?_cons_succ, List.cons_append, List.nil_append, Nat.reduceAdd, Nat.reduceSub, Nat.reduceLeDiff, List.replicate, Bool.false_eq_true, if_false, if_true, ite_true, ite_false, true_and, and_true, Bool.not_true, Bool.not_false, decide_true, decide_false]
  refine ⟨v, s, rfl, zv.mono (by decide), zs.mono (by decide), ?_⟩
  simp only [dSliceA, oCatA, dIsi, pR3, pR4, pR5, dSeq, dAsg, dVar, dC, dOp, dUn, dCB, dCall, dCallK, pId, pRev, dCons, dNil, dTup, dLst, dRet, dRetN, dIfS, dTest, dNot, dAnd, dOr, dIf, dAndV, dOrV, dNotV, dNext, dDrop, dUnp, setAll, dPar, dPar3, dTy, tyD, dChain, dChain3, oI, oI0, oGcd, oLen, oAbs, oInt, ixT_tup, ixL_lst, fr_at0, fr_at1, oNeg, oEq, oNe, oRepr, oEqS, oCat, oRepL, allD, dSliceL, dSliceT, oCatT, oIsN, oNotN, isNone_fr, isNone_non, isNone_tup, isNone_list, isNone_int, isNone_bool, dPart, dNoPart, dAsgOwn, dFreeze, dParO2, dParO3, dPeekT, dPeekI, dYes, oSum, oTupOf, oMin, oIsB, oNotB, oMax, oMinL, dParOD, dParDO, dAppend, entry, atI_0, atI_1, atI_2, atI_3, List.map_cons, List.map_nil, List.length_cons, List.length_nil, List.set_cons_zero, List.set_cons_succ, List.getElem?_cons_zero, List.getElem?_cons_succ, List.cons_append, List.nil_append, Nat.reduceAdd, Nat.reduceSub, Nat.reduceLeDiff, List.replicate, Bool.false_eq_true, if_false, if_true, ite_true, ite_false, true_and, and_true, Bool.not_true, Bool.not_false, decide_true, decide_false]
  have zu := zv.add zs
  refine ⟨l, v + s, rfl, zl.mono (by decide), zu.mono (by decide), ?_⟩
  by_cases hc : l < v + s
  · simp only [dSliceA, oCatA, dIsi, pR3, pR4, pR5, dSeq, dAsg, dVar, dC, dOp, dUn, dCB, dCall, dCallK, pId, pRev, dCons, dNil, dTup, dLst, dRet, dRetN, dIfS, dTest, dNot, dAnd, dOr, dIf, dAndV, dOrV, dNotV, dNext, dDrop, dUnp, setAll, dPar, dPar3, dTy, tyD, dChain, dChain3, oI, oI0, oGcd, oLen, oAbs, oInt, ixT_tup, ixL_lst, fr_at0, fr_at1, oNeg, oEq, oNe, oRepr, oEqS, oCat, oRepL, allD, dSliceL, dSliceT, oCatT, oIsN, oNotN, isNone_fr, isNone_non, isNone_tup, isNone_list, isNone_int, isNone_bool, dPart, dNoPart, dAsgOwn, dFreeze, dParO2, dParO3, dPeekT, dPeekI, dYes, oSum, oTupOf, oMin, oIsB, oNotB, oMax, oMinL, dParOD, dParDO, dAppend, entry, atI_0, atI_1, atI_2, atI_3, List.map_cons, List.map_nil, List.length_cons, List.length_nil, List.set_cons_zero, List.set_cons_succ, List.getElem?_cons_zero, List.getElem?_cons_succ, List.cons_append, List.nil_append, Nat.reduceAdd, Nat.reduceSub, Nat.reduceLeDiff, List.replicate, Bool.false_eq_true, if_false, if_true, ite_true, ite_false, true_and, and_true, Bool.not_true, Bool.not_false, decide_true, decide_false, hc]
    refine ⟨c, v + s, rfl, zc.mono (by decide), zu.mono (by decide), c * (v + s), k, rfl, (zc.mul zu).mono (by decide), zk.mono (by decide), ?_⟩
    simp only [dSliceA, oCatA, dIsi, pR3, pR4, pR5, dSeq, dAsg, dVar, dC, dOp, dUn, dCB, dCall, dCallK, pId, pRev, dCons, dNil, dTup, dLst, dRet, dRetN, dIfS, dTest, dNot, dAnd, dOr, dIf, dAndV, dOrV, dNotV, dNext, dDrop, dUnp, setAll, dPar, dPar3, dTy, tyD, dChain, dChain3, oI, oI0, oGcd, oLen, oAbs, oInt, ixT_tup, ixL_lst, fr_at0, fr_at1, oNeg, oEq, oNe, oRepr, oEqS, oCat, oRepL, allD, dSliceL, dSliceT, oCatT, oIsN, oNotN, isNone_fr, isNone_non, isNone_tup, isNone_list, isNone_int, isNone_bool, dPart, dNoPart, dAsgOwn, dFreeze, dParO2, dParO3, dPeekT, dPeekI, dYes, oSum, oTupOf, oMin, oIsB, oNotB, oMax, oMinL, dParOD, dParDO, dAppend, entry, atI_0, atI_1, atI_2, atI_3, List.map_cons, List.map_nil, List.length_cons, List.length_nil, List.set_cons_zero, List.set_cons_succ, List.getElem?_cons_zero, List.getElem?_cons_succ, List.cons_append, List.nil_append, Nat.reduceAdd, Nat.reduceSub, Nat.reduceLeDiff, List.replicate, Bool.false_eq_true, if_false, if_true, ite_true, ite_false, true_and, and_true, Bool.not_true, Bool.not_false, decide_true, decide_false]
    exact q1 hc
  · simp only [dSliceA, oCatA, dIsi, pR3, pR4, pR5, dSeq, dAsg, dVar, dC, dOp, dUn, dCB, dCall, dCallK, pId, pRev, dCons, dNil, dTup, dLst, dRet, dRetN, dIfS, dTest, dNot, dAnd, dOr, dIf, dAndV, dOrV, dNotV, dNext, dDrop, dUnp, setAll, dPar, dPar3, dTy, tyD, dChain, dChain3, oI, oI0, oGcd, oLen, oAbs, oInt, ixT_tup, ixL_lst, fr_at0, fr_at1, oNeg, oEq, oNe, oRepr, oEqS, oCat, oRepL, allD, dSliceL, dSliceT, oCatT, oIsN, oNotN, isNone_fr, isNone_non, isNone_tup, isNone_list, isNone_int, isNone_bool, dPart, dNoPart, dAsgOwn, dFreeze, dParO2, dParO3, dPeekT, dPeekI, dYes, oSum, oTupOf, oMin, oIsB, oNotB, oMax, oMinL, dParOD, dParDO, dAppend, entry, atI_0, atI_1, atI_2, atI_3, List.map_cons, List.map_nil, List.length_cons, List.length_nil, List.set_cons_zero, List.set_cons_succ, List.getElem?_cons_zero, List.getElem?_cons_succ, List.cons_append, List.nil_append, Nat.reduceAdd, Nat.reduceSub, Nat.reduceLeDiff, List.replicate, Bool.false_eq_true, if_false, if_true, ite_true, ite_false, true_and, and_true, Bool.not_true, Bool.not_false, decide_true, decide_false, hc]
    exact q2 hc
def s__law_lot_of : DSp := fun ds n R => ∃ l s c k : Rat, ds = [SV l s c k] ∧ Sz 40 l ∧ Sz 50 s ∧ Sz 4 c ∧ Sz 100 k ∧ 0 < s ∧ R (FV (((1 - c) * l - k) / s)) n
/-- _law_lot_of. Slots: rule_so, top_so, step_so, cut_so, keep_so -/
def t__law_lot_of : DTS :=
  (dSeq (dUnp [1, 2, 3, 4] (dVar 0))
  (dRet (dCall s__law_over (dCons (dCall s__law_minus (dCons (dCall s__law_times (dCons (dCall s__law_minus (dCons (dTup (dCons (dC (.int 1)) (dCons (dC (.int 1)) dNil))) (dCons (dVar 3) dNil))) (dCons (dVar 1) dNil))) (dCons (dVar 4) dNil))) (dCons (dVar 2) dNil)))))
theorem p__law_lot_of (ds : List DV) (n : Nat) (R : DV → Nat → Prop) (h : s__law_lot_of ds n R) : Goal t__law_lot_of 5 ds n R := by
  obtain ⟨l, s, c, k, rfl, zl, zs, zc, zk, s0, q⟩ := h
  simp only [Goal, t__law_lot_of, dSliceA, oCatA, dIsi, pR3, pR4, pR5, dSeq, dAsg, dVar, dC, dOp, dUn, dCB, dCall, dCallK, pId, pRev, dCons, dNil, dTup, dLst, dRet, dRetN, dIfS, dTest, dNot, dAnd, dOr, dIf, dAndV, dOrV, dNotV, dNext, dDrop, dUnp, setAll, dPar, dPar3, dTy, tyD, dChain, dChain3, oI, oI0, oGcd, oLen, oAbs, oInt, ixT_tup, ixL_lst, fr_at0, fr_at1, oNeg, oEq, oNe, oRepr, oEqS, oCat, oRepL, allD, dSliceL, dSliceT, oCatT, oIsN, oNotN, isNone_fr, isNone_non, isNone_tup, isNone_list, isNone_int, isNone_bool, dPart, dNoPart, dAsgOwn, dFreeze, dParO2, dParO3, dPeekT, dPeekI, dYes, oSum, oTupOf, oMin, oIsB, oNotB, oMax, oMinL, dParOD, dParDO, dAppend, entry, atI_0, atI_1, atI_2, atI_3, List.map_cons, List.map_nil, List.length_cons, List.length_nil, List.set_cons_zero, List.set_cons_succ, List.getElem?_cons_zero, List.getElem?_cons_succ, List.cons_append, List.nil_append, Nat.reduceAdd, Nat.reduceSub, Nat.reduceLeDiff, List.replicate, Bool.false_eq_true, if_false, if_true, ite_true, ite_false, true_and, and_true, Bool.not_true, Bool.not_false, decide_true, decide_false, fr_one]
  have z1 := one_sz.sub zc
  have z2 := z1.mul zl
  have z3 := z2.sub zk
  exact ⟨1, c, rfl, one_sz.mono (by decide), zc.mono (by decide), 1 - c, l, rfl, z1.mono (by decide), zl.mono (by decide), (1 - c) * l, k, rfl, z2.mono (by decide), zk.mono (by decide), over_go ((1 - c) * l - k) s (z3.mono (by decide)) (zs.mono (by decide)) s0 q⟩
end Sx

set_option Elab.async false
set_option linter.all false
set_option maxRecDepth 100000
set_option maxHeartbeats 4000000
namespace Sx
open PySem PySem.Spec L2
/-! ### what repr and == are asked of -/
theorem tame_fr {k : Nat} {q : Rat} (h : Sz k q) (e : k ≤ 1900) : tame (fr q) := ⟨(h.n.mono e : B 1900 _), (den_B h).mono e, trivial⟩
theorem bulk_fr (q : Rat) : (fr q).bulk = 2 := by simp only [fr, PyData.bulk, PyData.bulkAll]
theorem depth_fr (q : Rat) : (fr q).depth = 1 := by simp only [fr, PyData.depth, PyData.depthAll]; rfl
theorem lay_fr (q : Rat) : (fr q).canLay0 = true := by simp only [fr, PyData.canLay0, PyData.canLayAll0]; rfl
theorem shaped_fr (q : Rat) : SeqAt.shaped (fr q) = true := by
  unfold SeqAt.shaped
  rw [lay_fr, depth_fr]
  rfl
mutual
theorem eqv_self : ∀ d : PyData, d.canLay0 = true → PyData.eqv d d = true
  | .none, _ => by simp only [PyData.eqv]
  | .bool b, _ => by simp only [PyData.eqv, beq_self_eq_true]
  | .int i, _ => by simp only [PyData.eqv, beq_self_eq_true]
  | .str x, _ => by simp only [PyData.eqv, beq_self_eq_true]
  | .list xs, h => by
    simp only [PyData.eqv]
    exact eqv_selfA xs (by simpa only [PyData.canLay0] using h)
  | .tuple xs, h => by
    simp only [PyData.eqv]
    exact eqv_selfA xs (by simpa only [PyData.canLay0] using h)
  | .dict _, h => by simp only [PyData.canLay0] at h; cases h
theorem eqv_selfA : ∀ ds : List PyData, PyData.canLayAll0 ds = true → PyData.eqvAll ds ds = true
  | [], _ => by simp only [PyData.eqvAll]
  | x :: xs, h => by
    simp only [PyData.canLayAll0, Bool.and_eq_true] at h
    simp only [PyData.eqvAll, Bool.and_eq_true]
    exact ⟨eqv_self x h.1, eqv_selfA xs h.2⟩
end
theorem eqv_fr (q : Rat) : PyData.eqv (fr q) (fr q) = true := eqv_self _ (lay_fr q)
theorem fr_inj {p q : Rat} (h : fr p = fr q) : p = q := by
  unfold fr at h
  injection h with h
  injection h with h1 h2
  injection h2 with h2 _
  injection h1 with h1
  injection h2 with h2
  exact Rat.ext h1 (by omega)
theorem eqv_fr2 (p q : Rat) : PyData.eqv (fr p) (fr q) = decide (p = q) := by
  by_cases h : p = q
  · subst h
    rw [eqv_fr]
    simp
  · have z : ¬ (p.num = q.num ∧ p.den = q.den) := fun w => h (Rat.ext w.1 w.2)
    rw [decide_eq_false h]
    simp only [fr, PyData.eqv, PyData.eqvAll, Bool.and_true]
    rw [Bool.and_eq_false_iff]
    by_cases e : p.num = q.num
    · right
      rw [beq_eq_false_iff_ne]
      intro w
      exact z ⟨e, by omega⟩
    · left
      rw [beq_eq_false_iff_ne]
      exact e
theorem fr_of {q : Rat} {a : Int} {b : Int} (h1 : q.num = a) (h2 : (q.den : Int) = b) : PyData.tuple [.int a, .int b] = fr q := by
  subst h1 h2
  rfl
end Sx

set_option Elab.async false
set_option linter.all false
set_option maxRecDepth 100000
set_option maxHeartbeats 4000000
namespace Sx
open PySem PySem.Spec L2
/-! ### settings that do the same -/
def s_moved : DSp := fun ds n R => ∃ l s c k b : Rat, ds = [SV l s c k, FV b] ∧ Rule l s c k ∧ Bd b ∧ R (SV (l + b) s c (k + (b - c * b))) n
def s_scaled : DSp := fun ds n R => ∃ l s c k b : Rat, ds = [SV l s c k, FV b] ∧ Rule l s c k ∧ Bd b ∧ 0 < b ∧ R (SV (l * b) (s * b) c (k * b)) n
def s_alike : DSp := fun ds n R => ∃ l s c k l' s' c' k' : Rat, ds = [SV l s c k, SV l' s' c' k'] ∧ Rule l s c k ∧ Rule l' s' c' k' ∧ R (BV (decide (c = c') && decide ((l - c * l - k) / s = (l' - c' * l' - k') / s'))) n
def s_need_above_nought : DSp := fun ds n R => ∃ q : Rat, ds = [FV q] ∧ Bd q ∧ 0 < q ∧ R (FV q) n
/-- need_above_nought. Slots: value -/
def t_need_above_nought : DTS :=
  (dSeq (dIfS (dNot (dTest (dCall s_is_above_nought (dCons (dVar 0) dNil)))) dNever dNext)
  (dRet (dVar 0)))
/-- moved. Slots: setting, by, limit, step, part, keep, more -/
def t_moved : DTS :=
  (dSeq (dUnp [2, 3, 4, 5] (dCall s_need_setting (dCons (dVar 0) dNil)))
  (dSeq (dDrop (dCall s_need_fraction (dCons (dVar 1) dNil)))
  (dSeq (dAsg 6 (dCall s_difference_of (dCons (dVar 1) (dCons (dCall s_product_of (dCons (dVar 4) (dCons (dVar 1) dNil))) dNil))))
  (dRet (dTup (dCons (dCall s_sum_of (dCons (dVar 2) (dCons (dVar 1) dNil))) (dCons (dVar 3) (dCons (dVar 4) (dCons (dCall s_sum_of (dCons (dVar 5) (dCons (dVar 6) dNil))) dNil)))))))))
/-- scaled. Slots: setting, by, limit, step, part, keep -/
def t_scaled : DTS :=
  (dSeq (dUnp [2, 3, 4, 5] (dCall s_need_setting (dCons (dVar 0) dNil)))
  (dSeq (dDrop (dCall s_need_above_nought (dCons (dVar 1) dNil)))
  (dRet (dTup (dCons (dCall s_product_of (dCons (dVar 2) (dCons (dVar 1) dNil))) (dCons (dCall s_product_of (dCons (dVar 3) (dCons (dVar 1) dNil))) (dCons (dVar 4) (dCons (dCall s_product_of (dCons (dVar 5) (dCons (dVar 1) dNil))) dNil))))))))
/-- alike. Slots: setting, other -/
def t_alike : DTS :=
  (dSeq (dDrop (dCall s_need_setting (dCons (dVar 0) dNil)))
  (dSeq (dDrop (dCall s_need_setting (dCons (dVar 1) dNil)))
  (dRet (dAndV (dOp oEq (dOp oIxT (dVar 0) (dC (.int 2))) (dOp oIxT (dVar 1) (dC (.int 2)))) (dOp oEq (dCall s_height_of (dCons (dVar 0) dNil)) (dCall s_height_of (dCons (dVar 1) dNil)))))))
theorem p_moved (ds : List DV) (n : Nat) (R : DV → Nat → Prop) (h : s_moved ds n R) : Goal t_moved 7 ds n R := by
  obtain ⟨l, s, c, k, b, rfl, r, bb, q⟩ := h
  have sl := r.bl.sz
  have sc := r.bc.sz
  have sk := r.bk.sz
  have sb := bb.sz
  simp only [Goal, t_moved, dSliceA, oCatA, dIsi, pR3, pR4, pR5, dSeq, dAsg, dVar, dC, dOp, dUn, dCB, dCall, dCallK, pId, pRev, dCons, dNil, dTup, dLst, dRet, dRetN, dIfS, dTest, dNot, dAnd, dOr, dIf, dAndV, dOrV, dNotV, dNext, dDrop, dUnp, setAll, dPar, dPar3, dTy, tyD, dChain, dChain3, oI, oI0, oGcd, oLen, oAbs, oInt, ixT_tup, ixL_lst, fr_at0, fr_at1, oNeg, oEq, oNe, oRepr, oEqS, oCat, oRepL, allD, dSliceL, dSliceT, oCatT, oIsN, oNotN, isNone_fr, isNone_non, isNone_tup, isNone_list, isNone_int, isNone_bool, dPart, dNoPart, dAsgOwn, dFreeze, dParO2, dParO3, dPeekT, dPeekI, dYes, oSum, oTupOf, oMin, oIsB, oNotB, oMax, oMinL, dParOD, dParDO, dAppend, entry, atI_0, atI_1, atI_2, atI_3, List.map_cons, List.map_nil, List.length_cons, List.length_nil, List.set_cons_zero, List.set_cons_succ, List.getElem?_cons_zero, List.getElem?_cons_succ, List.cons_append, List.nil_append, Nat.reduceAdd, Nat.reduceSub, Nat.reduceLeDiff, List.replicate, Bool.false_eq_true, if_false, if_true, ite_true, ite_false, true_and, and_true, Bool.not_true, Bool.not_false, decide_true, decide_false]
  refine ⟨l, s, c, k, rfl, r, ?_⟩
  simp only [dSliceA, oCatA, dIsi, pR3, pR4, pR5, dSeq, dAsg, dVar, dC, dOp, dUn, dCB, dCall, dCallK, pId, pRev, dCons, dNil, dTup, dLst, dRet, dRetN, dIfS, dTest, dNot, dAnd, dOr, dIf, dAndV, dOrV, dNotV, dNext, dDrop, dUnp, setAll, dPar, dPar3, dTy, tyD, dChain, dChain3, oI, oI0, oGcd, oLen, oAbs, oInt, ixT_tup, ixL_lst, fr_at0, fr_at1, oNeg, oEq, oNe, oRepr, oEqS, oCat, oRepL, allD, dSliceL, dSliceT, oCatT, oIsN, oNotN, isNone_fr, isNone_non, isNone_tup, isNone_list, isNone_int, isNone_bool, dPart, dNoPart, dAsgOwn, dFreeze, dParO2, dParO3, dPeekT, dPeekI, dYes, oSum, oTupOf, oMin, oIsB, oNotB, oMax, oMinL, dParOD, dParDO, dAppend, entry, atI_0, atI_1, atI_2, atI_3, List.map_cons, List.map_nil, List.length_cons, List.length_nil, List.set_cons_zero, List.set_cons_succ, List.getElem?_cons_zero, List.getElem?_cons_succ, List.cons_append, List.nil_append, Nat.reduceAdd, Nat.reduceSub, Nat.reduceLeDiff, List.replicate, Bool.false_eq_true, if_false, if_true, ite_true, ite_false, true_and, and_true, Bool.not_true, Bool.not_false, decide_true, decide_false]
  exact ⟨b, rfl, bb, c, b, rfl, sc.mono (by decide), sb.mono (by decide), b, c * b, rfl, sb.mono (by decide), (sc.mul sb).mono (by decide), l, b, rfl, sl.mono (by decide), sb.mono (by decide), k, b - c * b, rfl, sk.mono (by decide), (sb.sub (sc.mul sb)).mono (by decide), by simp, q⟩
theorem p_need_above_nought (ds : List DV) (n : Nat) (R : DV → Nat → Prop) (h : s_need_above_nought ds n R) : Goal t_need_above_nought 1 ds n R := by
  obtain ⟨q, rfl, b, q0, k⟩ := h
  simp only [Goal, t_need_above_nought, dSliceA, oCatA, dIsi, pR3, pR4, pR5, dSeq, dAsg, dVar, dC, dOp, dUn, dCB, dCall, dCallK, pId, pRev, dCons, dNil, dTup, dLst, dRet, dRetN, dIfS, dTest, dNot, dAnd, dOr, dIf, dAndV, dOrV, dNotV, dNext, dDrop, dUnp, setAll, dPar, dPar3, dTy, tyD, dChain, dChain3, oI, oI0, oGcd, oLen, oAbs, oInt, ixT_tup, ixL_lst, fr_at0, fr_at1, oNeg, oEq, oNe, oRepr, oEqS, oCat, oRepL, allD, dSliceL, dSliceT, oCatT, oIsN, oNotN, isNone_fr, isNone_non, isNone_tup, isNone_list, isNone_int, isNone_bool, dPart, dNoPart, dAsgOwn, dFreeze, dParO2, dParO3, dPeekT, dPeekI, dYes, oSum, oTupOf, oMin, oIsB, oNotB, oMax, oMinL, dParOD, dParDO, dAppend, entry, atI_0, atI_1, atI_2, atI_3, List.map_cons, List.map_nil, List.length_cons, List.length_nil, List.set_cons_zero, List.set_cons_succ, List.getElem?_cons_zero, List.getElem?_cons_succ, List.cons_append, List.nil_append, Nat.reduceAdd, Nat.reduceSub, Nat.reduceLeDiff, List.replicate, Bool.false_eq_true, if_false, if_true, ite_true, ite_false, true_and, and_true, Bool.not_true, Bool.not_false, decide_true, decide_false]
  refine ⟨q, rfl, b, q0, ?_⟩
  simp only [dSliceA, oCatA, dIsi, pR3, pR4, pR5, dSeq, dAsg, dVar, dC, dOp, dUn, dCB, dCall, dCallK, pId, pRev, dCons, dNil, dTup, dLst, dRet, dRetN, dIfS, dTest, dNot, dAnd, dOr, dIf, dAndV, dOrV, dNotV, dNext, dDrop, dUnp, setAll, dPar, dPar3, dTy, tyD, dChain, dChain3, oI, oI0, oGcd, oLen, oAbs, oInt, ixT_tup, ixL_lst, fr_at0, fr_at1, oNeg, oEq, oNe, oRepr, oEqS, oCat, oRepL, allD, dSliceL, dSliceT, oCatT, oIsN, oNotN, isNone_fr, isNone_non, isNone_tup, isNone_list, isNone_int, isNone_bool, dPart, dNoPart, dAsgOwn, dFreeze, dParO2, dParO3, dPeekT, dPeekI, dYes, oSum, oTupOf, oMin, oIsB, oNotB, oMax, oMinL, dParOD, dParDO, dAppend, entry, atI_0, atI_1, atI_2, atI_3, List.map_cons, List.map_nil, List.length_cons, List.length_nil, List.set_cons_zero, List.set_cons_succ, List.getElem?_cons_zero, List.getElem?_cons_succ, List.cons_append, List.nil_append, Nat.reduceAdd, Nat.reduceSub, Nat.reduceLeDiff, List.replicate, Bool.false_eq_true, if_false, if_true, ite_true, ite_false, true_and, and_true, Bool.not_true, Bool.not_false, decide_true, decide_false]
  exact k
theorem p_scaled (ds : List DV) (n : Nat) (R : DV → Nat → Prop) (h : s_scaled ds n R) : Goal t_scaled 6 ds n R := by
  obtain ⟨l, s, c, k, b, rfl, r, bb, b0, q⟩ := h
  have sl := r.bl.sz
  have ss := r.bs.sz
  have sk := r.bk.sz
  have sb := bb.sz
  simp only [Goal, t_scaled, dSliceA, oCatA, dIsi, pR3, pR4, pR5, dSeq, dAsg, dVar, dC, dOp, dUn, dCB, dCall, dCallK, pId, pRev, dCons, dNil, dTup, dLst, dRet, dRetN, dIfS, dTest, dNot, dAnd, dOr, dIf, dAndV, dOrV, dNotV, dNext, dDrop, dUnp, setAll, dPar, dPar3, dTy, tyD, dChain, dChain3, oI, oI0, oGcd, oLen, oAbs, oInt, ixT_tup, ixL_lst, fr_at0, fr_at1, oNeg, oEq, oNe, oRepr, oEqS, oCat, oRepL, allD, dSliceL, dSliceT, oCatT, oIsN, oNotN, isNone_fr, isNone_non, isNone_tup, isNone_list, isNone_int, isNone_bool, dPart, dNoPart, dAsgOwn, dFreeze, dParO2, dParO3, dPeekT, dPeekI, dYes, oSum, oTupOf, oMin, oIsB, oNotB, oMax, oMinL, dParOD, dParDO, dAppend, entry, atI_0, atI_1, atI_2, atI_3, List.map_cons, List.map_nil, List.length_cons, List.length_nil, List.set_cons_zero, List.set_cons_succ, List.getElem?_cons_zero, List.getElem?_cons_succ, List.cons_append, List.nil_append, Nat.reduceAdd, Nat.reduceSub, Nat.reduceLeDiff, List.replicate, Bool.false_eq_true, if_false, if_true, ite_true, ite_false, true_and, and_true, Bool.not_true, Bool.not_false, decide_true, decide_false]
  refine ⟨l, s, c, k, rfl, r, ?_⟩
  simp only [dSliceA, oCatA, dIsi, pR3, pR4, pR5, dSeq, dAsg, dVar, dC, dOp, dUn, dCB, dCall, dCallK, pId, pRev, dCons, dNil, dTup, dLst, dRet, dRetN, dIfS, dTest, dNot, dAnd, dOr, dIf, dAndV, dOrV, dNotV, dNext, dDrop, dUnp, setAll, dPar, dPar3, dTy, tyD, dChain, dChain3, oI, oI0, oGcd, oLen, oAbs, oInt, ixT_tup, ixL_lst, fr_at0, fr_at1, oNeg, oEq, oNe, oRepr, oEqS, oCat, oRepL, allD, dSliceL, dSliceT, oCatT, oIsN, oNotN, isNone_fr, isNone_non, isNone_tup, isNone_list, isNone_int, isNone_bool, dPart, dNoPart, dAsgOwn, dFreeze, dParO2, dParO3, dPeekT, dPeekI, dYes, oSum, oTupOf, oMin, oIsB, oNotB, oMax, oMinL, dParOD, dParDO, dAppend, entry, atI_0, atI_1, atI_2, atI_3, List.map_cons, List.map_nil, List.length_cons, List.length_nil, List.set_cons_zero, List.set_cons_succ, List.getElem?_cons_zero, List.getElem?_cons_succ, List.cons_append, List.nil_append, Nat.reduceAdd, Nat.reduceSub, Nat.reduceLeDiff, List.replicate, Bool.false_eq_true, if_false, if_true, ite_true, ite_false, true_and, and_true, Bool.not_true, Bool.not_false, decide_true, decide_false]
  refine ⟨b, rfl, bb, b0, ?_⟩
  simp only [dSliceA, oCatA, dIsi, pR3, pR4, pR5, dSeq, dAsg, dVar, dC, dOp, dUn, dCB, dCall, dCallK, pId, pRev, dCons, dNil, dTup, dLst, dRet, dRetN, dIfS, dTest, dNot, dAnd, dOr, dIf, dAndV, dOrV, dNotV, dNext, dDrop, dUnp, setAll, dPar, dPar3, dTy, tyD, dChain, dChain3, oI, oI0, oGcd, oLen, oAbs, oInt, ixT_tup, ixL_lst, fr_at0, fr_at1, oNeg, oEq, oNe, oRepr, oEqS, oCat, oRepL, allD, dSliceL, dSliceT, oCatT, oIsN, oNotN, isNone_fr, isNone_non, isNone_tup, isNone_list, isNone_int, isNone_bool, dPart, dNoPart, dAsgOwn, dFreeze, dParO2, dParO3, dPeekT, dPeekI, dYes, oSum, oTupOf, oMin, oIsB, oNotB, oMax, oMinL, dParOD, dParDO, dAppend, entry, atI_0, atI_1, atI_2, atI_3, List.map_cons, List.map_nil, List.length_cons, List.length_nil, List.set_cons_zero, List.set_cons_succ, List.getElem?_cons_zero, List.getElem?_cons_succ, List.cons_append, List.nil_append, Nat.reduceAdd, Nat.reduceSub, Nat.reduceLeDiff, List.replicate, Bool.false_eq_true, if_false, if_true, ite_true, ite_false, true_and, and_true, Bool.not_true, Bool.not_false, decide_true, decide_false]
  exact ⟨l, b, rfl, sl.mono (by decide), sb.mono (by decide), s, b, rfl, ss.mono (by decide), sb.mono (by decide), k, b, rfl, sk.mono (by decide), sb.mono (by decide), by simp, q⟩
theorem p_alike (ds : List DV) (n : Nat) (R : DV → Nat → Prop) (h : s_alike ds n R) : Goal t_alike 2 ds n R := by
  obtain ⟨l, s, c, k, l', s', c', k', rfl, r, r', q⟩ := h
  simp only [Goal, t_alike, dSliceA, oCatA, dIsi, pR3, pR4, pR5, dSeq, dAsg, dVar, dC, dOp, dUn, dCB, dCall, dCallK, pId, pRev, dCons, dNil, dTup, dLst, dRet, dRetN, dIfS, dTest, dNot, dAnd, dOr, dIf, dAndV, dOrV, dNotV, dNext, dDrop, dUnp, setAll, dPar, dPar3, dTy, tyD, dChain, dChain3, oI, oI0, oGcd, oLen, oAbs, oInt, ixT_tup, ixL_lst, fr_at0, fr_at1, oNeg, oEq, oNe, oRepr, oEqS, oCat, oRepL, allD, dSliceL, dSliceT, oCatT, oIsN, oNotN, isNone_fr, isNone_non, isNone_tup, isNone_list, isNone_int, isNone_bool, dPart, dNoPart, dAsgOwn, dFreeze, dParO2, dParO3, dPeekT, dPeekI, dYes, oSum, oTupOf, oMin, oIsB, oNotB, oMax, oMinL, dParOD, dParDO, dAppend, entry, atI_0, atI_1, atI_2, atI_3, List.map_cons, List.map_nil, List.length_cons, List.length_nil, List.set_cons_zero, List.set_cons_succ, List.getElem?_cons_zero, List.getElem?_cons_succ, List.cons_append, List.nil_append, Nat.reduceAdd, Nat.reduceSub, Nat.reduceLeDiff, List.replicate, Bool.false_eq_true, if_false, if_true, ite_true, ite_false, true_and, and_true, Bool.not_true, Bool.not_false, decide_true, decide_false]
  refine ⟨l, s, c, k, rfl, r, l', s', c', k', rfl, r', ?_⟩
  simp only [dSliceA, oCatA, dIsi, pR3, pR4, pR5, dSeq, dAsg, dVar, dC, dOp, dUn, dCB, dCall, dCallK, pId, pRev, dCons, dNil, dTup, dLst, dRet, dRetN, dIfS, dTest, dNot, dAnd, dOr, dIf, dAndV, dOrV, dNotV, dNext, dDrop, dUnp, setAll, dPar, dPar3, dTy, tyD, dChain, dChain3, oI, oI0, oGcd, oLen, oAbs, oInt, ixT_tup, ixL_lst, fr_at0, fr_at1, oNeg, oEq, oNe, oRepr, oEqS, oCat, oRepL, allD, dSliceL, dSliceT, oCatT, oIsN, oNotN, isNone_fr, isNone_non, isNone_tup, isNone_list, isNone_int, isNone_bool, dPart, dNoPart, dAsgOwn, dFreeze, dParO2, dParO3, dPeekT, dPeekI, dYes, oSum, oTupOf, oMin, oIsB, oNotB, oMax, oMinL, dParOD, dParDO, dAppend, entry, atI_0, atI_1, atI_2, atI_3, List.map_cons, List.map_nil, List.length_cons, List.length_nil, List.set_cons_zero, List.set_cons_succ, List.getElem?_cons_zero, List.getElem?_cons_succ, List.cons_append, List.nil_append, Nat.reduceAdd, Nat.reduceSub, Nat.reduceLeDiff, List.replicate, Bool.false_eq_true, if_false, if_true, ite_true, ite_false, true_and, and_true, Bool.not_true, Bool.not_false, decide_true, decide_false, shaped_fr, eqv_fr2]
  by_cases e : c = c'
  · simp only [e, dSliceA, oCatA, dIsi, pR3, pR4, pR5, dSeq, dAsg, dVar, dC, dOp, dUn, dCB, dCall, dCallK, pId, pRev, dCons, dNil, dTup, dLst, dRet, dRetN, dIfS, dTest, dNot, dAnd, dOr, dIf, dAndV, dOrV, dNotV, dNext, dDrop, dUnp, setAll, dPar, dPar3, dTy, tyD, dChain, dChain3, oI, oI0, oGcd, oLen, oAbs, oInt, ixT_tup, ixL_lst, fr_at0, fr_at1, oNeg, oEq, oNe, oRepr, oEqS, oCat, oRepL, allD, dSliceL, dSliceT, oCatT, oIsN, oNotN, isNone_fr, isNone_non, isNone_tup, isNone_list, isNone_int, isNone_bool, dPart, dNoPart, dAsgOwn, dFreeze, dParO2, dParO3, dPeekT, dPeekI, dYes, oSum, oTupOf, oMin, oIsB, oNotB, oMax, oMinL, dParOD, dParDO, dAppend, entry, atI_0, atI_1, atI_2, atI_3, List.map_cons, List.map_nil, List.length_cons, List.length_nil, List.set_cons_zero, List.set_cons_succ, List.getElem?_cons_zero, List.getElem?_cons_succ, List.cons_append, List.nil_append, Nat.reduceAdd, Nat.reduceSub, Nat.reduceLeDiff, List.replicate, Bool.false_eq_true, if_false, if_true, ite_true, ite_false, true_and, and_true, Bool.not_true, Bool.not_false, decide_true, decide_false]
    subst e
    refine ⟨l, s, c, k, rfl, r, l', s', c, k', rfl, r', ?_⟩
    simp only [dSliceA, oCatA, dIsi, pR3, pR4, pR5, dSeq, dAsg, dVar, dC, dOp, dUn, dCB, dCall, dCallK, pId, pRev, dCons, dNil, dTup, dLst, dRet, dRetN, dIfS, dTest, dNot, dAnd, dOr, dIf, dAndV, dOrV, dNotV, dNext, dDrop, dUnp, setAll, dPar, dPar3, dTy, tyD, dChain, dChain3, oI, oI0, oGcd, oLen, oAbs, oInt, ixT_tup, ixL_lst, fr_at0, fr_at1, oNeg, oEq, oNe, oRepr, oEqS, oCat, oRepL, allD, dSliceL, dSliceT, oCatT, oIsN, oNotN, isNone_fr, isNone_non, isNone_tup, isNone_list, isNone_int, isNone_bool, dPart, dNoPart, dAsgOwn, dFreeze, dParO2, dParO3, dPeekT, dPeekI, dYes, oSum, oTupOf, oMin, oIsB, oNotB, oMax, oMinL, dParOD, dParDO, dAppend, entry, atI_0, atI_1, atI_2, atI_3, List.map_cons, List.map_nil, List.length_cons, List.length_nil, List.set_cons_zero, List.set_cons_succ, List.getElem?_cons_zero, List.getElem?_cons_succ, List.cons_append, List.nil_append, Nat.reduceAdd, Nat.reduceSub, Nat.reduceLeDiff, List.replicate, Bool.false_eq_true, if_false, if_true, ite_true, ite_false, true_and, and_true, Bool.not_true, Bool.not_false, decide_true, decide_false, shaped_fr, eqv_fr2]
    simpa using q
  · simp only [e, dSliceA, oCatA, dIsi, pR3, pR4, pR5, dSeq, dAsg, dVar, dC, dOp, dUn, dCB, dCall, dCallK, pId, pRev, dCons, dNil, dTup, dLst, dRet, dRetN, dIfS, dTest, dNot, dAnd, dOr, dIf, dAndV, dOrV, dNotV, dNext, dDrop, dUnp, setAll, dPar, dPar3, dTy, tyD, dChain, dChain3, oI, oI0, oGcd, oLen, oAbs, oInt, ixT_tup, ixL_lst, fr_at0, fr_at1, oNeg, oEq, oNe, oRepr, oEqS, oCat, oRepL, allD, dSliceL, dSliceT, oCatT, oIsN, oNotN, isNone_fr, isNone_non, isNone_tup, isNone_list, isNone_int, isNone_bool, dPart, dNoPart, dAsgOwn, dFreeze, dParO2, dParO3, dPeekT, dPeekI, dYes, oSum, oTupOf, oMin, oIsB, oNotB, oMax, oMinL, dParOD, dParDO, dAppend, entry, atI_0, atI_1, atI_2, atI_3, List.map_cons, List.map_nil, List.length_cons, List.length_nil, List.set_cons_zero, List.set_cons_succ, List.getElem?_cons_zero, List.getElem?_cons_succ, List.cons_append, List.nil_append, Nat.reduceAdd, Nat.reduceSub, Nat.reduceLeDiff, List.replicate, Bool.false_eq_true, if_false, if_true, ite_true, ite_false, true_and, and_true, Bool.not_true, Bool.not_false, decide_true, decide_false]
    simpa [e] using q
def s__law_by : DSp := fun ds n R => ds = [.draws] ∧ n + 2 < LIM ∧ ∀ q : Rat, Sz 6 q → R (FV q) (n + 2)
/-- _law_by. Slots: draws_so -/
def t__law_by : DTS :=
  (dRet (dCall s__law_share (dCons (dOp oSub (dCall s__law_draw (dCons (dVar 0) (dCons (dC (.int 81)) dNil))) (dC (.int 40))) (dCons (dOp oAdd (dC (.int 1)) (dCall s__law_draw (dCons (dVar 0) (dCons (dC (.int 7)) dNil)))) dNil))))
theorem p__law_by (ds : List DV) (n : Nat) (R : DV → Nat → Prop) (h : s__law_by ds n R) : Goal t__law_by 1 ds n R := by
  obtain ⟨rfl, hn, k⟩ := h
  simp only [Goal, t__law_by, dSliceA, oCatA, dIsi, pR3, pR4, pR5, dSeq, dAsg, dVar, dC, dOp, dUn, dCB, dCall, dCallK, pId, pRev, dCons, dNil, dTup, dLst, dRet, dRetN, dIfS, dTest, dNot, dAnd, dOr, dIf, dAndV, dOrV, dNotV, dNext, dDrop, dUnp, setAll, dPar, dPar3, dTy, tyD, dChain, dChain3, oI, oI0, oGcd, oLen, oAbs, oInt, ixT_tup, ixL_lst, fr_at0, fr_at1, oNeg, oEq, oNe, oRepr, oEqS, oCat, oRepL, allD, dSliceL, dSliceT, oCatT, oIsN, oNotN, isNone_fr, isNone_non, isNone_tup, isNone_list, isNone_int, isNone_bool, dPart, dNoPart, dAsgOwn, dFreeze, dParO2, dParO3, dPeekT, dPeekI, dYes, oSum, oTupOf, oMin, oIsB, oNotB, oMax, oMinL, dParOD, dParDO, dAppend, entry, atI_0, atI_1, atI_2, atI_3, List.map_cons, List.map_nil, List.length_cons, List.length_nil, List.set_cons_zero, List.set_cons_succ, List.getElem?_cons_zero, List.getElem?_cons_succ, List.cons_append, List.nil_append, Nat.reduceAdd, Nat.reduceSub, Nat.reduceLeDiff, List.replicate, Bool.false_eq_true, if_false, if_true, ite_true, ite_false, true_and, and_true, Bool.not_true, Bool.not_false, decide_true, decide_false]
  refine draw_go (lim := 81) rfl (by decide) (by decide) (by omega) fun x hx => ?_
  simp only [dSliceA, oCatA, dIsi, pR3, pR4, pR5, dSeq, dAsg, dVar, dC, dOp, dUn, dCB, dCall, dCallK, pId, pRev, dCons, dNil, dTup, dLst, dRet, dRetN, dIfS, dTest, dNot, dAnd, dOr, dIf, dAndV, dOrV, dNotV, dNext, dDrop, dUnp, setAll, dPar, dPar3, dTy, tyD, dChain, dChain3, oI, oI0, oGcd, oLen, oAbs, oInt, ixT_tup, ixL_lst, fr_at0, fr_at1, oNeg, oEq, oNe, oRepr, oEqS, oCat, oRepL, allD, dSliceL, dSliceT, oCatT, oIsN, oNotN, isNone_fr, isNone_non, isNone_tup, isNone_list, isNone_int, isNone_bool, dPart, dNoPart, dAsgOwn, dFreeze, dParO2, dParO3, dPeekT, dPeekI, dYes, oSum, oTupOf, oMin, oIsB, oNotB, oMax, oMinL, dParOD, dParDO, dAppend, entry, atI_0, atI_1, atI_2, atI_3, List.map_cons, List.map_nil, List.length_cons, List.length_nil, List.set_cons_zero, List.set_cons_succ, List.getElem?_cons_zero, List.getElem?_cons_succ, List.cons_append, List.nil_append, Nat.reduceAdd, Nat.reduceSub, Nat.reduceLeDiff, List.replicate, Bool.false_eq_true, if_false, if_true, ite_true, ite_false, true_and, and_true, Bool.not_true, Bool.not_false, decide_true, decide_false]
  refine draw_go (lim := 7) rfl (by decide) (by decide) (by omega) fun y hy => ?_
  have d0 : (0 : Int) < 1 + (y : Int) := by omega
  have bl : B 6 ((x : Int) - 40).natAbs := by
    unfold B
    have : ((x : Int) - 40).natAbs < 64 := by omega
    exact this
  refine ⟨(x : Int) - 40, 1 + (y : Int), rfl, d0, bl.mono (by decide), (B_of (k := 3) (by omega) (by omega)).mono (by decide), ?_⟩
  exact k _ (Sz.of_div d0 bl (B_of (by omega) (by omega)))
def s__law_up_by : DSp := fun ds n R => ∃ l s c k b : Rat, ds = [SV l s c k, FV b] ∧ Sz 40 l ∧ Sz 4 c ∧ Sz 100 k ∧ Sz 40 b ∧ R (SV (l + b) s c (k + (1 - c) * b)) n
/-- _law_up_by. Slots: rule_so, by_so, rest -/
def t__law_up_by : DTS :=
  (dSeq (dAsg 2 (dCall s__law_times (dCons (dCall s__law_minus (dCons (dTup (dCons (dC (.int 1)) (dCons (dC (.int 1)) dNil))) (dCons (dOp oIxT (dVar 0) (dC (.int 2))) dNil))) (dCons (dVar 1) dNil))))
  (dRet (dTup (dCons (dCall s__law_plus (dCons (dOp oIxT (dVar 0) (dC (.int 0))) (dCons (dVar 1) dNil))) (dCons (dOp oIxT (dVar 0) (dC (.int 1))) (dCons (dOp oIxT (dVar 0) (dC (.int 2))) (dCons (dCall s__law_plus (dCons (dOp oIxT (dVar 0) (dC (.int 3))) (dCons (dVar 2) dNil))) dNil)))))))
theorem p__law_up_by (ds : List DV) (n : Nat) (R : DV → Nat → Prop) (h : s__law_up_by ds n R) : Goal t__law_up_by 3 ds n R := by
  obtain ⟨l, s, c, k, b, rfl, zl, zc, zk, zb, q⟩ := h
  simp only [Goal, t__law_up_by, dSliceA, oCatA, dIsi, pR3, pR4, pR5, dSeq, dAsg, dVar, dC, dOp, dUn, dCB, dCall, dCallK, pId, pRev, dCons, dNil, dTup, dLst, dRet, dRetN, dIfS, dTest, dNot, dAnd, dOr, dIf, dAndV, dOrV, dNotV, dNext, dDrop, dUnp, setAll, dPar, dPar3, dTy, tyD, dChain, dChain3, oI, oI0, oGcd, oLen, oAbs, oInt, ixT_tup, ixL_lst, fr_at0, fr_at1, oNeg, oEq, oNe, oRepr, oEqS, oCat, oRepL, allD, dSliceL, dSliceT, oCatT, oIsN, oNotN, isNone_fr, isNone_non, isNone_tup, isNone_list, isNone_int, isNone_bool, dPart, dNoPart, dAsgOwn, dFreeze, dParO2, dParO3, dPeekT, dPeekI, dYes, oSum, oTupOf, oMin, oIsB, oNotB, oMax, oMinL, dParOD, dParDO, dAppend, entry, atI_0, atI_1, atI_2, atI_3, List.map_cons, List.map_nil, List.length_cons, List.length_nil, List.set_cons_zero, List.set_cons_succ, List.getElem?_cons_zero, List.getElem?_cons_succ, List.cons_append, List.nil_append, Nat.reduceAdd, Nat.reduceSub, Nat.reduceLeDiff, List.replicate, Bool.false_eq_true, if_false, if_true, ite_true, ite_false, true_and, and_true, Bool.not_true, Bool.not_false, decide_true, decide_false, fr_one]
  have z1 := one_sz.sub zc
  exact ⟨1, c, rfl, one_sz.mono (by decide), zc.mono (by decide), 1 - c, b, rfl, z1.mono (by decide), zb.mono (by decide), l, b, rfl, zl.mono (by decide), zb.mono (by decide), k, (1 - c) * b, rfl, zk.mono (by decide), (z1.mul zb).mono (by decide), by simp, q⟩
def s__law_scaled_by : DSp := fun ds n R => ∃ l s c k b : Rat, ds = [SV l s c k, FV b] ∧ Sz 40 l ∧ Sz 40 s ∧ Sz 100 k ∧ Sz 40 b ∧ R (SV (l * b) (s * b) c (k * b)) n
/-- _law_scaled_by. Slots: rule_so, by_so -/
def t__law_scaled_by : DTS :=
  (dRet (dTup (dCons (dCall s__law_times (dCons (dOp oIxT (dVar 0) (dC (.int 0))) (dCons (dVar 1) dNil))) (dCons (dCall s__law_times (dCons (dOp oIxT (dVar 0) (dC (.int 1))) (dCons (dVar 1) dNil))) (dCons (dOp oIxT (dVar 0) (dC (.int 2))) (dCons (dCall s__law_times (dCons (dOp oIxT (dVar 0) (dC (.int 3))) (dCons (dVar 1) dNil))) dNil))))))
theorem p__law_scaled_by (ds : List DV) (n : Nat) (R : DV → Nat → Prop) (h : s__law_scaled_by ds n R) : Goal t__law_scaled_by 2 ds n R := by
  obtain ⟨l, s, c, k, b, rfl, zl, zs, zk, zb, q⟩ := h
  simp only [Goal, t__law_scaled_by, dSliceA, oCatA, dIsi, pR3, pR4, pR5, dSeq, dAsg, dVar, dC, dOp, dUn, dCB, dCall, dCallK, pId, pRev, dCons, dNil, dTup, dLst, dRet, dRetN, dIfS, dTest, dNot, dAnd, dOr, dIf, dAndV, dOrV, dNotV, dNext, dDrop, dUnp, setAll, dPar, dPar3, dTy, tyD, dChain, dChain3, oI, oI0, oGcd, oLen, oAbs, oInt, ixT_tup, ixL_lst, fr_at0, fr_at1, oNeg, oEq, oNe, oRepr, oEqS, oCat, oRepL, allD, dSliceL, dSliceT, oCatT, oIsN, oNotN, isNone_fr, isNone_non, isNone_tup, isNone_list, isNone_int, isNone_bool, dPart, dNoPart, dAsgOwn, dFreeze, dParO2, dParO3, dPeekT, dPeekI, dYes, oSum, oTupOf, oMin, oIsB, oNotB, oMax, oMinL, dParOD, dParDO, dAppend, entry, atI_0, atI_1, atI_2, atI_3, List.map_cons, List.map_nil, List.length_cons, List.length_nil, List.set_cons_zero, List.set_cons_succ, List.getElem?_cons_zero, List.getElem?_cons_succ, List.cons_append, List.nil_append, Nat.reduceAdd, Nat.reduceSub, Nat.reduceLeDiff, List.replicate, Bool.false_eq_true, if_false, if_true, ite_true, ite_false, true_and, and_true, Bool.not_true, Bool.not_false, decide_true, decide_false]
  exact ⟨l, b, rfl, zl.mono (by decide), zb.mono (by decide), s, b, rfl, zs.mono (by decide), zb.mono (by decide), k, b, rfl, zk.mono (by decide), zb.mono (by decide), by simp, q⟩
/-- a setting by LIMIT, STEP, PART, HEIGHT -/
structure Hs (l s c h : Rat) : Prop where
  s0 : 0 < s
  c0 : 0 < c
  c1 : c < 1
  cd : (c.den : Int) ≤ 8
  ch : c ≤ h
  zl : Sz 99 l
  zs : Sz 99 s
  zc : Sz 4 c
  zk : Sz 99 (keepOf l s c h)
theorem Hs.rule {l s c h : Rat} (d : Hs l s c h) : Rule l s c (keepOf l s c h) := by
  refine ⟨d.zl.bd, d.zs.bd, (d.zc.mono (by decide)).bd, d.zk.bd, d.s0, d.c0, d.c1, Int.le_trans d.cd (by decide), ?_⟩
  have z : 0 ≤ (h - c) * s := Rat.mul_nonneg (by have := d.ch; grind) (Rat.le_of_lt d.s0)
  unfold keepOf
  grind
theorem keep_height {l s c h : Rat} (s0 : 0 < s) : (l - c * l - keepOf l s c h) / s = h := by
  have z : s ≠ 0 := by grind
  unfold keepOf
  grind
theorem keep_height2 {l s c h : Rat} (s0 : 0 < s) : ((1 - c) * l - keepOf l s c h) / s = h := by
  have z : s ≠ 0 := by grind
  unfold keepOf
  grind
theorem keep_moved (l s c h b : Rat) : keepOf l s c h + (b - c * b) = keepOf (l + b) s c h := by unfold keepOf; grind
theorem keep_up (l s c h b : Rat) : keepOf l s c h + (1 - c) * b = keepOf (l + b) s c h := by unfold keepOf; grind
theorem keep_scaled (l s c h b : Rat) : keepOf l s c h * b = keepOf (l * b) (s * b) c h := by unfold keepOf; grind
theorem keep_plain (c h : Rat) : -h = keepOf 0 1 c h := by unfold keepOf; grind
/-- the other way up -/
theorem flip_fr {g : Rat} (h : 0 < g) : PyData.tuple [.int g.den, .int g.num] = fr (1 / g) := by
  have n0 := (num_pos_iff g).2 h
  have e := div_div' 1 g h
  obtain ⟨e1, e2⟩ := red (a := (1 : Rat).num * g.den) (b := (1 : Rat).den * g.num) (by simpa using n0)
  rw [e] at e1 e2
  have g1 : Nat.gcd ((1 : Rat).num * (g.den : Int)).natAbs (((1 : Rat).den : Int) * g.num).natAbs = 1 := by
    have z := g.reduced
    simp only [Rat.one_num, Rat.one_den]
    rw [Int.one_mul, show ((1 : Nat) : Int) = 1 from rfl, Int.one_mul, Nat.gcd_comm]
    simpa using z
  rw [g1] at e1 e2
  simp only [Rat.one_num, Rat.one_den] at e1 e2
  refine fr_of ?_ ?_
  · rw [e1]; simp
  · rw [e2]; simp
theorem inv_sz {k : Nat} {g : Rat} (z : Sz k g) (h : 0 < g) : Sz (k + 1) (1 / g) := (one_sz.div z h).mono (by omega)
end Sx

set_option Elab.async false
set_option linter.all false
set_option maxRecDepth 100000
set_option maxHeartbeats 4000000
namespace Sx
open PySem PySem.Spec L2
theorem neg_fr (h : Rat) : PyData.tuple [.int (-h.num), .int h.den] = fr (-h) := rfl
theorem fr_fold (q : Rat) : PyData.tuple [.int q.num, .int q.den] = fr q := rfl
theorem tame_sv {a b c d : Nat} {l s x k : Rat} (h1 : Sz a l) (h2 : Sz b s) (h3 : Sz c x) (h4 : Sz d k) (e1 : a ≤ 1900) (e2 : b ≤ 1900) (e3 : c ≤ 1900) (e4 : d ≤ 1900) : tame (.tuple [fr l, fr s, fr x, fr k]) := ⟨tame_fr h1 e1, tame_fr h2 e2, tame_fr h3 e3, tame_fr h4 e4, trivial⟩
/-! ### the checked operations -/
def s_plus : DSp := fun ds n R => ∃ p q : Rat, ds = [FV p, FV q] ∧ Bd p ∧ Bd q ∧ R (FV (p + q)) n
def s_minus : DSp := fun ds n R => ∃ p q : Rat, ds = [FV p, FV q] ∧ Bd p ∧ Bd q ∧ R (FV (p - q)) n
def s_times : DSp := fun ds n R => ∃ p q : Rat, ds = [FV p, FV q] ∧ Bd p ∧ Bd q ∧ R (FV (p * q)) n
def s_over : DSp := fun ds n R => ∃ p q : Rat, ds = [FV p, FV q] ∧ Bd p ∧ Bd q ∧ 0 < q ∧ R (FV (p / q)) n
def s_less : DSp := fun ds n R => ∃ p q : Rat, ds = [FV p, FV q] ∧ Bd p ∧ Bd q ∧ R (BV (decide (p < q))) n
/-- plus. Slots: one, other -/
def t_plus : DTS :=
  (dSeq (dDrop (dCall s_need_fraction (dCons (dVar 0) dNil)))
  (dSeq (dDrop (dCall s_need_fraction (dCons (dVar 1) dNil)))
  (dRet (dCall s_sum_of (dCons (dVar 0) (dCons (dVar 1) dNil))))))
/-- minus. Slots: one, other -/
def t_minus : DTS :=
  (dSeq (dDrop (dCall s_need_fraction (dCons (dVar 0) dNil)))
  (dSeq (dDrop (dCall s_need_fraction (dCons (dVar 1) dNil)))
  (dRet (dCall s_difference_of (dCons (dVar 0) (dCons (dVar 1) dNil))))))
/-- times. Slots: one, other -/
def t_times : DTS :=
  (dSeq (dDrop (dCall s_need_fraction (dCons (dVar 0) dNil)))
  (dSeq (dDrop (dCall s_need_fraction (dCons (dVar 1) dNil)))
  (dRet (dCall s_product_of (dCons (dVar 0) (dCons (dVar 1) dNil))))))
/-- over. Slots: one, other -/
def t_over : DTS :=
  (dSeq (dDrop (dCall s_need_fraction (dCons (dVar 0) dNil)))
  (dSeq (dDrop (dCall s_need_fraction (dCons (dVar 1) dNil)))
  (dSeq (dIfS (dTest (dOp oEq (dOp oIxT (dVar 1) (dC (.int 0))) (dC (.int 0)))) dNever dNext)
  (dRet (dCall s_quotient_of (dCons (dVar 0) (dCons (dVar 1) dNil)))))))
/-- less. Slots: one, other -/
def t_less : DTS :=
  (dSeq (dDrop (dCall s_need_fraction (dCons (dVar 0) dNil)))
  (dSeq (dDrop (dCall s_need_fraction (dCons (dVar 1) dNil)))
  (dRet (dCall s_is_less (dCons (dVar 0) (dCons (dVar 1) dNil))))))
theorem p_plus (ds : List DV) (n : Nat) (R : DV → Nat → Prop) (h : s_plus ds n R) : Goal t_plus 2 ds n R := by
  obtain ⟨p, q, rfl, bp, bq, k⟩ := h
  simp only [Goal, t_plus, dSliceA, oCatA, dIsi, pR3, pR4, pR5, dSeq, dAsg, dVar, dC, dOp, dUn, dCB, dCall, dCallK, pId, pRev, dCons, dNil, dTup, dLst, dRet, dRetN, dIfS, dTest, dNot, dAnd, dOr, dIf, dAndV, dOrV, dNotV, dNext, dDrop, dUnp, setAll, dPar, dPar3, dTy, tyD, dChain, dChain3, oI, oI0, oGcd, oLen, oAbs, oInt, ixT_tup, ixL_lst, fr_at0, fr_at1, oNeg, oEq, oNe, oRepr, oEqS, oCat, oRepL, allD, dSliceL, dSliceT, oCatT, oIsN, oNotN, isNone_fr, isNone_non, isNone_tup, isNone_list, isNone_int, isNone_bool, dPart, dNoPart, dAsgOwn, dFreeze, dParO2, dParO3, dPeekT, dPeekI, dYes, oSum, oTupOf, oMin, oIsB, oNotB, oMax, oMinL, dParOD, dParDO, dAppend, entry, atI_0, atI_1, atI_2, atI_3, List.map_cons, List.map_nil, List.length_cons, List.length_nil, List.set_cons_zero, List.set_cons_succ, List.getElem?_cons_zero, List.getElem?_cons_succ, List.cons_append, List.nil_append, Nat.reduceAdd, Nat.reduceSub, Nat.reduceLeDiff, List.replicate, Bool.false_eq_true, if_false, if_true, ite_true, ite_false, true_and, and_true, Bool.not_true, Bool.not_false, decide_true, decide_false]
  exact ⟨p, rfl, bp, q, rfl, bq, p, q, rfl, bp.sz.mono (by decide), bq.sz.mono (by decide), k⟩
theorem p_minus (ds : List DV) (n : Nat) (R : DV → Nat → Prop) (h : s_minus ds n R) : Goal t_minus 2 ds n R := by
  obtain ⟨p, q, rfl, bp, bq, k⟩ := h
  simp only [Goal, t_minus, dSliceA, oCatA, dIsi, pR3, pR4, pR5, dSeq, dAsg, dVar, dC, dOp, dUn, dCB, dCall, dCallK, pId, pRev, dCons, dNil, dTup, dLst, dRet, dRetN, dIfS, dTest, dNot, dAnd, dOr, dIf, dAndV, dOrV, dNotV, dNext, dDrop, dUnp, setAll, dPar, dPar3, dTy, tyD, dChain, dChain3, oI, oI0, oGcd, oLen, oAbs, oInt, ixT_tup, ixL_lst, fr_at0, fr_at1, oNeg, oEq, oNe, oRepr, oEqS, oCat, oRepL, allD, dSliceL, dSliceT, oCatT, oIsN, oNotN, isNone_fr, isNone_non, isNone_tup, isNone_list, isNone_int, isNone_bool, dPart, dNoPart, dAsgOwn, dFreeze, dParO2, dParO3, dPeekT, dPeekI, dYes, oSum, oTupOf, oMin, oIsB, oNotB, oMax, oMinL, dParOD, dParDO, dAppend, entry, atI_0, atI_1, atI_2, atI_3, List.map_cons, List.map_nil, List.length_cons, List.length_nil, List.set_cons_zero, List.set_cons_succ, List.getElem?_cons_zero, List.getElem?_cons_succ, List.cons_append, List.nil_append, Nat.reduceAdd, Nat.reduceSub, Nat.reduceLeDiff, List.replicate, Bool.false_eq_true, if_false, if_true, ite_true, ite_false, true_and, and_true, Bool.not_true, Bool.not_false, decide_true, decide_false]
  exact ⟨p, rfl, bp, q, rfl, bq, p, q, rfl, bp.sz.mono (by decide), bq.sz.mono (by decide), k⟩
theorem p_times (ds : List DV) (n : Nat) (R : DV → Nat → Prop) (h : s_times ds n R) : Goal t_times 2 ds n R := by
  obtain ⟨p, q, rfl, bp, bq, k⟩ := h
  simp only [Goal, t_times, dSliceA, oCatA, dIsi, pR3, pR4, pR5, dSeq, dAsg, dVar, dC, dOp, dUn, dCB, dCall, dCallK, pId, pRev, dCons, dNil, dTup, dLst, dRet, dRetN, dIfS, dTest, dNot, dAnd, dOr, dIf, dAndV, dOrV, dNotV, dNext, dDrop, dUnp, setAll, dPar, dPar3, dTy, tyD, dChain, dChain3, oI, oI0, oGcd, oLen, oAbs, oInt, ixT_tup, ixL_lst, fr_at0, fr_at1, oNeg, oEq, oNe, oRepr, oEqS, oCat, oRepL, allD, dSliceL, dSliceT, oCatT, oIsN, oNotN, isNone_fr, isNone_non, isNone_tup, isNone_list, isNone_int, isNone_bool, dPart, dNoPart, dAsgOwn, dFreeze, dParO2, dParO3, dPeekT, dPeekI, dYes, oSum, oTupOf, oMin, oIsB, oNotB, oMax, oMinL, dParOD, dParDO, dAppend, entry, atI_0, atI_1, atI_2, atI_3, List.map_cons, List.map_nil, List.length_cons, List.length_nil, List.set_cons_zero, List.set_cons_succ, List.getElem?_cons_zero, List.getElem?_cons_succ, List.cons_append, List.nil_append, Nat.reduceAdd, Nat.reduceSub, Nat.reduceLeDiff, List.replicate, Bool.false_eq_true, if_false, if_true, ite_true, ite_false, true_and, and_true, Bool.not_true, Bool.not_false, decide_true, decide_false]
  exact ⟨p, rfl, bp, q, rfl, bq, p, q, rfl, bp.sz.mono (by decide), bq.sz.mono (by decide), k⟩
theorem p_over (ds : List DV) (n : Nat) (R : DV → Nat → Prop) (h : s_over ds n R) : Goal t_over 2 ds n R := by
  obtain ⟨p, q, rfl, bp, bq, q0, k⟩ := h
  have n0 : (q.num == 0) = false := by
    have := (num_pos_iff q).2 q0
    rw [beq_eq_false_iff_ne]
    omega
  simp only [Goal, t_over, dSliceA, oCatA, dIsi, pR3, pR4, pR5, dSeq, dAsg, dVar, dC, dOp, dUn, dCB, dCall, dCallK, pId, pRev, dCons, dNil, dTup, dLst, dRet, dRetN, dIfS, dTest, dNot, dAnd, dOr, dIf, dAndV, dOrV, dNotV, dNext, dDrop, dUnp, setAll, dPar, dPar3, dTy, tyD, dChain, dChain3, oI, oI0, oGcd, oLen, oAbs, oInt, ixT_tup, ixL_lst, fr_at0, fr_at1, oNeg, oEq, oNe, oRepr, oEqS, oCat, oRepL, allD, dSliceL, dSliceT, oCatT, oIsN, oNotN, isNone_fr, isNone_non, isNone_tup, isNone_list, isNone_int, isNone_bool, dPart, dNoPart, dAsgOwn, dFreeze, dParO2, dParO3, dPeekT, dPeekI, dYes, oSum, oTupOf, oMin, oIsB, oNotB, oMax, oMinL, dParOD, dParDO, dAppend, entry, atI_0, atI_1, atI_2, atI_3, List.map_cons, List.map_nil, List.length_cons, List.length_nil, List.set_cons_zero, List.set_cons_succ, List.getElem?_cons_zero, List.getElem?_cons_succ, List.cons_append, List.nil_append, Nat.reduceAdd, Nat.reduceSub, Nat.reduceLeDiff, List.replicate, Bool.false_eq_true, if_false, if_true, ite_true, ite_false, true_and, and_true, Bool.not_true, Bool.not_false, decide_true, decide_false]
  refine ⟨p, rfl, bp, q, rfl, bq, ?_⟩
  simp only [dSliceA, oCatA, dIsi, pR3, pR4, pR5, dSeq, dAsg, dVar, dC, dOp, dUn, dCB, dCall, dCallK, pId, pRev, dCons, dNil, dTup, dLst, dRet, dRetN, dIfS, dTest, dNot, dAnd, dOr, dIf, dAndV, dOrV, dNotV, dNext, dDrop, dUnp, setAll, dPar, dPar3, dTy, tyD, dChain, dChain3, oI, oI0, oGcd, oLen, oAbs, oInt, ixT_tup, ixL_lst, fr_at0, fr_at1, oNeg, oEq, oNe, oRepr, oEqS, oCat, oRepL, allD, dSliceL, dSliceT, oCatT, oIsN, oNotN, isNone_fr, isNone_non, isNone_tup, isNone_list, isNone_int, isNone_bool, dPart, dNoPart, dAsgOwn, dFreeze, dParO2, dParO3, dPeekT, dPeekI, dYes, oSum, oTupOf, oMin, oIsB, oNotB, oMax, oMinL, dParOD, dParDO, dAppend, entry, atI_0, atI_1, atI_2, atI_3, List.map_cons, List.map_nil, List.length_cons, List.length_nil, List.set_cons_zero, List.set_cons_succ, List.getElem?_cons_zero, List.getElem?_cons_succ, List.cons_append, List.nil_append, Nat.reduceAdd, Nat.reduceSub, Nat.reduceLeDiff, List.replicate, Bool.false_eq_true, if_false, if_true, ite_true, ite_false, true_and, and_true, Bool.not_true, Bool.not_false, decide_true, decide_false, shaped_int, eqv_int, n0]
  exact ⟨p, q, rfl, bp.sz.mono (by decide), bq.sz.mono (by decide), q0, k⟩
theorem p_less (ds : List DV) (n : Nat) (R : DV → Nat → Prop) (h : s_less ds n R) : Goal t_less 2 ds n R := by
  obtain ⟨p, q, rfl, bp, bq, k⟩ := h
  simp only [Goal, t_less, dSliceA, oCatA, dIsi, pR3, pR4, pR5, dSeq, dAsg, dVar, dC, dOp, dUn, dCB, dCall, dCallK, pId, pRev, dCons, dNil, dTup, dLst, dRet, dRetN, dIfS, dTest, dNot, dAnd, dOr, dIf, dAndV, dOrV, dNotV, dNext, dDrop, dUnp, setAll, dPar, dPar3, dTy, tyD, dChain, dChain3, oI, oI0, oGcd, oLen, oAbs, oInt, ixT_tup, ixL_lst, fr_at0, fr_at1, oNeg, oEq, oNe, oRepr, oEqS, oCat, oRepL, allD, dSliceL, dSliceT, oCatT, oIsN, oNotN, isNone_fr, isNone_non, isNone_tup, isNone_list, isNone_int, isNone_bool, dPart, dNoPart, dAsgOwn, dFreeze, dParO2, dParO3, dPeekT, dPeekI, dYes, oSum, oTupOf, oMin, oIsB, oNotB, oMax, oMinL, dParOD, dParDO, dAppend, entry, atI_0, atI_1, atI_2, atI_3, List.map_cons, List.map_nil, List.length_cons, List.length_nil, List.set_cons_zero, List.set_cons_succ, List.getElem?_cons_zero, List.getElem?_cons_succ, List.cons_append, List.nil_append, Nat.reduceAdd, Nat.reduceSub, Nat.reduceLeDiff, List.replicate, Bool.false_eq_true, if_false, if_true, ite_true, ite_false, true_and, and_true, Bool.not_true, Bool.not_false, decide_true, decide_false]
  exact ⟨p, rfl, bp, q, rfl, bq, is_less_go p q (bp.sz.mono (by decide)) (bq.sz.mono (by decide)) k⟩
end Sx

/-! Ro: ticks, rounds, spots. -/
namespace Sx
/-- the least whole number that is not below -/
def upQ (q : Rat) : Int := -((-q.num) / (q.den : Int))
theorem den_q (q : Rat) : (0 : Rat) < ((q.den : Int) : Rat) := Rat.intCast_pos.2 (by have := q.den_pos; omega)
theorem q_den (q : Rat) : q * ((q.den : Int) : Rat) = (q.num : Rat) := by
  have h := as_div q
  have d := den_q q
  generalize ((q.den : Int) : Rat) = x at *
  generalize ((q.num : Int) : Rat) = y at *
  have : x ≠ 0 := by grind
  rw [h]
  exact Rat.div_mul_cancel this
theorem upQ_ge (q : Rat) : q ≤ (upQ q : Rat) := by
  have dp := den_q q
  have e := q_den q
  refine Rat.not_lt.1 fun c => ?_
  have c2 := Rat.mul_lt_mul_of_pos_right c dp
  rw [e, ← Rat.intCast_mul] at c2
  have c3 := Rat.intCast_lt_intCast.1 c2
  have z := Int.mul_ediv_self_le (x := -q.num) (k := (q.den : Int)) (by have := q.den_pos; omega)
  unfold upQ at c3
  rw [Int.neg_mul, Int.mul_comm] at c3
  omega
theorem upQ_lt (q : Rat) : (upQ q : Rat) < q + 1 := by
  have dp := den_q q
  have e := q_den q
  refine Rat.not_le.1 fun c => ?_
  have c2 := Rat.mul_le_mul_of_nonneg_right c (Rat.le_of_lt dp)
  have e2 : (q + 1) * ((q.den : Int) : Rat) = ((q.num + (q.den : Int) : Int) : Rat) := by
    rw [Rat.intCast_add, ← e]; grind
  rw [e2, ← Rat.intCast_mul] at c2
  have c3 := Rat.intCast_le_intCast.1 c2
  have z := Int.lt_mul_ediv_self_add (x := -q.num) (k := (q.den : Int)) (by have := q.den_pos; omega)
  unfold upQ at c3
  rw [Int.neg_mul, Int.mul_comm] at c3
  omega
/-! ticks -/
def tk (l s c k v : Rat) : Rat := if l < v + s then c * (v + s) + k else v + s
def lv (l s c k v : Rat) : Nat → Rat
  | 0 => v
  | j + 1 => tk l s c k (lv l s c k v j)
theorem lv_moved (l s c k v b : Rat) : ∀ j, lv (l + b) s c (k + (b - c * b)) (v + b) j = lv l s c k v j + b
  | 0 => rfl
  | j + 1 => by
    simp only [lv, lv_moved l s c k v b j]
    generalize lv l s c k v j = x
    unfold tk
    by_cases h : l < x + s
    · have h2 : l + b < x + b + s := by grind
      rw [if_pos h, if_pos h2]; grind
    · have h2 : ¬ l + b < x + b + s := by grind
      rw [if_neg h, if_neg h2]; grind
theorem mul_lt_iff {a b g : Rat} (h : 0 < g) : a * g < b * g ↔ a < b := by
  constructor
  · intro w
    refine Rat.not_le.1 fun z => ?_
    have := Rat.mul_le_mul_of_nonneg_right z (Rat.le_of_lt h)
    grind
  · intro w
    exact Rat.mul_lt_mul_of_pos_right w h
theorem lv_scaled (l s c k v : Rat) {g : Rat} (h0 : 0 < g) : ∀ j, lv (l * g) (s * g) c (k * g) (v * g) j = lv l s c k v j * g
  | 0 => rfl
  | j + 1 => by
    simp only [lv, lv_scaled l s c k v h0 j]
    generalize lv l s c k v j = x
    unfold tk
    have e : x * g + s * g = (x + s) * g := by grind
    by_cases h : l < x + s
    · have h2 : l * g < x * g + s * g := by rw [e, mul_lt_iff h0]; exact h
      rw [if_pos h, if_pos h2]; grind
    · have h2 : ¬ l * g < x * g + s * g := by rw [e, mul_lt_iff h0]; exact h
      rw [if_neg h, if_neg h2]; grind
/-! rounds -/
def sz1 (c h p : Rat) : Int := 1 - upQ (c * p - h)
def nx1 (c h p : Rat) : Rat := c * p - h + (sz1 c h p : Rat)
def sp (c h p : Rat) : Nat → Rat
  | 0 => p
  | i + 1 => nx1 c h (sp c h p i)
def si (c h p : Rat) (i : Nat) : Int := sz1 c h (sp c h p i)
theorem nx_range (c h p : Rat) : 0 < nx1 c h p ∧ nx1 c h p ≤ 1 := by
  unfold nx1 sz1
  have h1 := upQ_ge (c * p - h)
  have h2 := upQ_lt (c * p - h)
  rw [Rat.intCast_sub]
  generalize (upQ (c * p - h) : Rat) = u at *
  generalize c * p - h = x at *
  have : ((1 : Int) : Rat) = 1 := rfl
  rw [this]
  constructor <;> grind
theorem sp_range {c h p : Rat} (p0 : 0 < p) (p1 : p ≤ 1) : ∀ i, 0 < sp c h p i ∧ sp c h p i ≤ 1
  | 0 => ⟨p0, p1⟩
  | _ + 1 => nx_range ..
theorem si_pos {c h p : Rat} (c0 : 0 < c) (ch : c ≤ h) (p0 : 0 < p) (p1 : p ≤ 1) (i : Nat) : 1 ≤ si c h p i := by
  obtain ⟨q0, q1⟩ := sp_range (c := c) (h := h) p0 p1 i
  unfold si sz1
  generalize sp c h p i = q at *
  have z := Rat.mul_le_mul_of_nonneg_left q1 (Rat.le_of_lt c0)
  have h2 := upQ_lt (c * q - h)
  have h3 : (upQ (c * q - h) : Rat) < ((1 : Int) : Rat) := by
    have : ((1 : Int) : Rat) = 1 := rfl
    grind
  have := Rat.intCast_lt_intCast.1 h3
  omega
theorem si_le {c h p : Rat} (c0 : 0 < c) (p0 : 0 < p) (p1 : p ≤ 1) {N : Int} (hN : h ≤ (N : Rat)) (i : Nat) : si c h p i ≤ 1 + N := by
  obtain ⟨q0, q1⟩ := sp_range (c := c) (h := h) p0 p1 i
  unfold si sz1
  generalize sp c h p i = q at *
  have z := Rat.mul_nonneg (Rat.le_of_lt c0) (Rat.le_of_lt q0)
  have h2 := upQ_ge (c * q - h)
  have h3 : ((-N : Int) : Rat) ≤ (upQ (c * q - h) : Rat) := by
    rw [Rat.intCast_neg]
    grind
  have := Rat.intCast_le_intCast.1 h3
  omega
def sumSi (c h p : Rat) : Nat → Int
  | 0 => 0
  | i + 1 => sumSi c h p i + si c h p i
theorem whole_le {u' u q' q : Rat} {S' S : Int} (e' : q' - (S' : Rat) = u') (e : q - (S : Rat) = u) (h : u' ≤ u) (q0 : 0 < q') (q1 : q ≤ 1) : S ≤ S' := by
  have : (S : Rat) < ((S' + 1 : Int) : Rat) := by
    rw [Rat.intCast_add]
    have : ((1 : Int) : Rat) = 1 := rfl
    grind
  have := Rat.intCast_lt_intCast.1 this
  omega
/-- with a greater height no fewer ticks -/
theorem more_ticks {c h h' p : Rat} (c0 : 0 < c) (c1 : c < 1) (p0 : 0 < p) (p1 : p ≤ 1) (hh : h ≤ h') : ∀ i, sp c h' p i - (sumSi c h' p i : Rat) ≤ sp c h p i - (sumSi c h p i : Rat) ∧ sumSi c h p i ≤ sumSi c h' p i
  | 0 => ⟨Rat.le_refl, Int.le_refl _⟩
  | i + 1 => by
    obtain ⟨i1, i2⟩ := more_ticks c0 c1 p0 p1 hh i
    have key : sp c h' p (i + 1) - (sumSi c h' p (i + 1) : Rat) ≤ sp c h p (i + 1) - (sumSi c h p (i + 1) : Rat) := by
      have i3 : (sumSi c h p i : Rat) ≤ (sumSi c h' p i : Rat) := Rat.intCast_le_intCast.2 i2
      have e : ∀ x, sp c x p (i + 1) - (sumSi c x p (i + 1) : Rat) = c * sp c x p i - x - (sumSi c x p i : Rat) := fun x => by
        show nx1 c x (sp c x p i) - ((sumSi c x p i + si c x p i : Int) : Rat) = _
        rw [Rat.intCast_add]
        unfold nx1 si
        grind
      rw [e, e]
      generalize sp c h' p i = q' at *
      generalize sp c h p i = q at *
      generalize (sumSi c h' p i : Rat) = S' at *
      generalize (sumSi c h p i : Rat) = S at *
      have z1 := Rat.mul_le_mul_of_nonneg_left i1 (Rat.le_of_lt c0)
      have z2 := Rat.mul_le_mul_of_nonneg_left i3 (show (0 : Rat) ≤ 1 - c by grind)
      grind
    exact ⟨key, whole_le rfl rfl key (sp_range p0 p1 (i + 1)).1 (sp_range p0 p1 (i + 1)).2⟩
/-! sizes -/
theorem De.bds {D m : Nat} {q : Rat} (h : De D m q) : -((m : Int) : Rat) ≤ q ∧ q ≤ ((m : Int) : Rat) := by
  obtain ⟨d, a, e1, e2⟩ := h
  have dp : (0 : Rat) < ((D : Int) : Rat) := Rat.intCast_pos.2 (by omega)
  have t : ((a.natAbs : Nat) : Int) ≤ ((m * D : Nat) : Int) := by exact_mod_cast e2
  rw [Int.natCast_mul] at t
  have up : a ≤ (m : Int) * (D : Int) := by omega
  have lo : -((m : Int) * (D : Int)) ≤ a := by omega
  have up' : (a : Rat) ≤ ((m : Int) : Rat) * ((D : Int) : Rat) := by rw [← Rat.intCast_mul]; exact Rat.intCast_le_intCast.2 up
  have lo' : -(((m : Int) : Rat) * ((D : Int) : Rat)) ≤ (a : Rat) := by
    rw [← Rat.intCast_mul, ← Rat.intCast_neg]; exact Rat.intCast_le_intCast.2 lo
  have eq : q * ((D : Int) : Rat) = (a : Rat) := by
    rw [e1]; exact Rat.div_mul_cancel (by grind)
  rw [← eq] at up' lo'
  constructor
  · refine Rat.not_lt.1 fun c => ?_
    have := Rat.mul_lt_mul_of_pos_right c dp
    grind
  · refine Rat.not_lt.1 fun c => ?_
    have := Rat.mul_lt_mul_of_pos_right c dp
    grind
theorem De.intOver {D : Nat} (h : 0 < D) (i : Int) : De D i.natAbs (i : Rat) := by
  refine ⟨h, i * (D : Int), ?_, by rw [Int.natAbs_mul]; exact Nat.le_refl _⟩
  have z := cast_ne h
  rw [Rat.intCast_mul]
  generalize ((D : Int) : Rat) = x at *
  grind
theorem De.down {D m l : Nat} {q : Rat} (h : De D m q) (h1 : -((l : Int) : Rat) ≤ q) (h2 : q ≤ ((l : Int) : Rat)) : De D l q := by
  have a := De.intOver h.pos (l : Int)
  have b := a.neg
  have e : ((l : Int)).natAbs = l := by simp
  rw [e] at a b
  exact h.between b a h1 h2
theorem de_sp {dc E M : Nat} {c h p : Rat} (hc : De dc 1 c) (hE : De (dc * E) M h) (m : Nat) (hp : De m 1 p) (h0 : 0 < E) (p0 : 0 < p) (p1 : p ≤ 1) : ∀ i, De (dc * E * m * dc ^ i) 1 (sp c h p i)
  | 0 => by
    refine hp.dvd (dc * E) ?_ ?_
    · rw [Nat.pow_zero, Nat.mul_one]; ac_rfl
    · rw [Nat.pow_zero, Nat.mul_one]; exact Nat.mul_pos hE.pos hp.pos
  | i + 1 => by
    have ih := de_sp hc hE m hp h0 p0 p1 i
    obtain ⟨r0, r1⟩ := sp_range (c := c) (h := h) p0 p1 (i + 1)
    have w1 := hc.mul ih
    have eq : dc * (dc * E * m * dc ^ i) = dc * E * m * dc ^ (i + 1) := by rw [Nat.pow_succ]; ac_rfl
    rw [eq] at w1
    have w2 : De (dc * E * m * dc ^ (i + 1)) M h := by
      refine hE.dvd (m * dc ^ (i + 1)) (by ac_rfl) w1.pos
    have w3 := De.intOver w1.pos (sz1 c h (sp c h p i))
    have w4 := (w1.sub w2).add w3
    refine De.down w4 ?_ ?_
    · have : -(((1 : Nat) : Int) : Rat) ≤ 0 := by decide +kernel
      exact Rat.le_trans this (Rat.le_of_lt r0)
    · exact r1
theorem lv_in {l s c k v : Rat} (s0 : 0 < s) (c0 : 0 < c) (hk : c * (l + s) + k ≤ l) (hv : v ≤ l) : ∀ j, lv l s c k v j ≤ l ∧ (v ≤ lv l s c k v j ∨ c * l + k ≤ lv l s c k v j)
  | 0 => ⟨hv, .inl Rat.le_refl⟩
  | j + 1 => by
    obtain ⟨i1, i2⟩ := lv_in s0 c0 hk hv j
    simp only [lv]
    generalize lv l s c k v j = x at *
    unfold tk
    by_cases hc : l < x + s
    · rw [if_pos hc]
      have z1 := Rat.mul_le_mul_of_nonneg_left (Rat.le_of_lt hc) (Rat.le_of_lt c0)
      have z2 := Rat.mul_le_mul_of_nonneg_left (show x + s ≤ l + s by grind) (Rat.le_of_lt c0)
      exact ⟨by grind, .inr (by grind)⟩
    · rw [if_neg hc]
      exact ⟨by grind, i2.imp (fun z => by grind) fun z => by grind⟩
theorem lv_de {l s c k v : Rat} (s0 : 0 < s) (c0 : 0 < c) (hk : c * (l + s) + k ≤ l) (hv : v ≤ l) {dc D M a b : Nat} (ec : De dc 1 c) (es : De D a s) (ek : De D b k) (el : De D M l) (ev : De D M v) (eb : De D M (c * l + k)) : ∀ j, De (D * dc ^ j) M (lv l s c k v j)
  | 0 => by
    rw [Nat.pow_zero, Nat.mul_one]; exact ev
  | j + 1 => by
    have ih := lv_de s0 c0 hk hv ec es ek el ev eb j
    obtain ⟨i1, i2⟩ := lv_in s0 c0 hk hv (j + 1)
    have pj : 0 < dc ^ j := Nat.pow_pos ec.pos
    have pj1 : 0 < dc ^ (j + 1) := Nat.pow_pos ec.pos
    have fin : ∀ m, De (D * dc ^ (j + 1)) m (lv l s c k v (j + 1)) → De (D * dc ^ (j + 1)) M (lv l s c k v (j + 1)) := fun m w => by
      rcases i2 with z | z
      · exact w.between ev el z i1
      · exact w.between eb el z i1
    have e : lv l s c k v (j + 1) = tk l s c k (lv l s c k v j) := rfl
    rw [e] at fin
    rw [e]
    unfold tk at fin ⊢
    by_cases hc : l < lv l s c k v j + s
    · rw [if_pos hc] at fin ⊢
      have w1 : De (D * dc ^ (j + 1)) (1 * (M + a)) (c * (lv l s c k v j + s)) := (ec.mul (ih.add (es.wide pj))).dvd 1 (by rw [Nat.pow_succ]; ac_rfl) (Nat.mul_pos es.pos pj1)
      exact fin _ (w1.add (ek.wide pj1))
    · rw [if_neg hc] at fin ⊢
      have w1 : De (D * dc ^ (j + 1)) (M + a) (lv l s c k v j + s) := (ih.add (es.wide pj)).dvd dc (by rw [Nat.pow_succ]; ac_rfl) (Nat.mul_pos es.pos pj1)
      exact fin _ w1
end Sx

set_option Elab.async false
set_option linter.all false
set_option maxRecDepth 100000
set_option maxHeartbeats 8000000
namespace Sx
open PySem PySem.Spec L2
def lvD (l s c k v : Rat) (N : Nat) : List PyData := (List.range N).map fun j => fr (lv l s c k v (j + 1))
def cuD (l s c k v : Rat) (N : Nat) : List PyData := (List.range N).map fun j => .bool (decide (l < lv l s c k v j + s))
def siD (c h p : Rat) (N : Nat) : List PyData := (List.range N).map fun i => .int (si c h p i)
def spD (c h p : Rat) (N : Nat) : List PyData := (List.range N).map fun i => fr (sp c h p (i + 1))
def p0D (c h p : Rat) (N : Nat) : List PyData := (List.range N).map fun i => fr (sp c h p i)
theorem lvD_len (l s c k v : Rat) (N : Nat) : (lvD l s c k v N).length = N := by simp [lvD]
theorem cuD_len (l s c k v : Rat) (N : Nat) : (cuD l s c k v N).length = N := by simp [cuD]
theorem siD_len (c h p : Rat) (N : Nat) : (siD c h p N).length = N := by simp [siD]
theorem spD_len (c h p : Rat) (N : Nat) : (spD c h p N).length = N := by simp [spD]
theorem p0D_len (c h p : Rat) (N : Nat) : (p0D c h p N).length = N := by simp [p0D]
theorem lvD_succ (l s c k v : Rat) (N : Nat) : lvD l s c k v N ++ [fr (lv l s c k v (N + 1))] = lvD l s c k v (N + 1) := by simp [lvD, List.range_succ]
theorem cuD_succ (l s c k v : Rat) (N : Nat) : cuD l s c k v N ++ [.bool (decide (l < lv l s c k v N + s))] = cuD l s c k v (N + 1) := by simp [cuD, List.range_succ]
theorem siD_succ (c h p : Rat) (N : Nat) : siD c h p N ++ [.int (si c h p N)] = siD c h p (N + 1) := by simp [siD, List.range_succ]
theorem spD_succ (c h p : Rat) (N : Nat) : spD c h p N ++ [fr (sp c h p (N + 1))] = spD c h p (N + 1) := by simp [spD, List.range_succ]
theorem p0D_succ (c h p : Rat) (N : Nat) : p0D c h p N ++ [fr (sp c h p N)] = p0D c h p (N + 1) := by simp [p0D, List.range_succ]
def s__law_first : DSp := fun ds n R => ∃ l s c k : Rat, ds = [.draws, SV l s c k] ∧ Sz 6 l ∧ Sz 4 s ∧ n + 3 < LIM ∧ ∀ f : Rat, 0 ≤ f → Sz 6 f → (∃ e : Nat, e ≤ 5 ∧ De e 40 f) → ∀ m, n ≤ m → m ≤ n + 3 → R (FV (l - f * s)) m
/-- _law_first. Slots: draws_so, rule_so, top_so, step_so, far -/
def t__law_first : DTS :=
  (dSeq (dPar 2 3 (dCons (dOp oIxT (dVar 1) (dC (.int 0))) (dCons (dOp oIxT (dVar 1) (dC (.int 1))) dNil)))
  (dSeq (dAsg 4 (dCall s__law_share (dCons (dCall s__law_draw (dCons (dVar 0) (dCons (dC (.int 40)) dNil))) (dCons (dOp oAdd (dC (.int 1)) (dCall s__law_draw (dCons (dVar 0) (dCons (dC (.int 5)) dNil)))) dNil))))
  (dRet (dIf (dTest (dOp oEq (dCall s__law_draw (dCons (dVar 0) (dCons (dC (.int 5)) dNil))) (dC (.int 0)))) (dVar 2) (dCall s__law_minus (dCons (dVar 2) (dCons (dCall s__law_times (dCons (dVar 4) (dCons (dVar 3) dNil))) dNil)))))))
theorem p__law_first (ds : List DV) (n : Nat) (R : DV → Nat → Prop) (h : s__law_first ds n R) : Goal t__law_first 5 ds n R := by
  obtain ⟨l, s, c, k, rfl, zl, zs, hn, q⟩ := h
  simp only [Goal, t__law_first, dSeq, dPar, dCons, dNil, dOp, dVar, dC, List.getElem?_cons_zero, List.getElem?_cons_succ, List.replicate, List.cons_append, List.nil_append, List.length_cons, List.length_nil, Nat.reduceAdd, Nat.reduceSub, List.map_cons, List.map_nil, ixT_tup, atI_0, atI_1, List.set_cons_zero, List.set_cons_succ]
  simp only [dSliceA, oCatA, dIsi, pR3, pR4, pR5, dSeq, dAsg, dVar, dC, dOp, dUn, dCB, dCall, dCallK, pId, pRev, dCons, dNil, dTup, dLst, dRet, dRetN, dIfS, dTest, dNot, dAnd, dOr, dIf, dAndV, dOrV, dNotV, dNext, dDrop, dUnp, setAll, dPar, dPar3, dTy, tyD, dChain, dChain3, oI, oI0, oGcd, oLen, oAbs, oInt, ixT_tup, ixL_lst, fr_at0, fr_at1, oNeg, oEq, oNe, oRepr, oEqS, oCat, oRepL, allD, dSliceL, dSliceT, oCatT, oIsN, oNotN, isNone_fr, isNone_non, isNone_tup, isNone_list, isNone_int, isNone_bool, dPart, dNoPart, dAsgOwn, dFreeze, dParO2, dParO3, dPeekT, dPeekI, dYes, oSum, oTupOf, oMin, oIsB, oNotB, oMax, oMinL, dParOD, dParDO, dAppend, entry, atI_0, atI_1, atI_2, atI_3, List.map_cons, List.map_nil, List.length_cons, List.length_nil, List.set_cons_zero, List.set_cons_succ, List.getElem?_cons_zero, List.getElem?_cons_succ, List.cons_append, List.nil_append, Nat.reduceAdd, Nat.reduceSub, Nat.reduceLeDiff, List.replicate, Bool.false_eq_true, if_false, if_true, ite_true, ite_false, true_and, and_true, Bool.not_true, Bool.not_false, decide_true, decide_false]
  refine draw_go (lim := 40) rfl (by decide) (by decide) (by omega) fun x hx => ?_
  refine draw_go (lim := 5) rfl (by decide) (by decide) (by omega) fun y hy => ?_
  have d0 : (0 : Int) < 1 + (y : Int) := by omega
  refine ⟨(x : Int), 1 + (y : Int), rfl, d0, (B_of (k := 6) (by omega) (by omega)).mono (by decide), (B_of (k := 6) (by omega) (by omega)).mono (by decide), ?_⟩
  have zf : Sz 6 (((x : Int) : Rat) / ((1 + (y : Int) : Int) : Rat)) := Sz.of_div d0 (B_of (by omega) (by omega)) (B_of (by omega) (by omega))
  have ef : De (1 + y) 40 (((x : Int) : Rat) / ((1 + (y : Int) : Int) : Rat)) := De.of (a := (x : Int)) (D := 1 + y) (by omega) (by omega)
  have f0 : 0 ≤ ((x : Int) : Rat) / ((1 + (y : Int) : Int) : Rat) := by
    refine Rat.not_lt.1 fun w => ?_
    have dp : (0 : Rat) < ((1 + (y : Int) : Int) : Rat) := Rat.intCast_pos.2 d0
    have w2 := Rat.mul_lt_mul_of_pos_right w dp
    have ne : ((1 + (y : Int) : Int) : Rat) ≠ 0 := fun z => by rw [z] at dp; exact absurd dp (by decide)
    rw [Rat.div_mul_cancel ne] at w2
    have : (0 : Rat) ≤ ((x : Int) : Rat) := Rat.intCast_nonneg.2 (by omega)
    grind
  generalize ((x : Int) : Rat) / ((1 + (y : Int) : Int) : Rat) = f at *
  simp only [dSliceA, oCatA, dIsi, pR3, pR4, pR5, dSeq, dAsg, dVar, dC, dOp, dUn, dCB, dCall, dCallK, pId, pRev, dCons, dNil, dTup, dLst, dRet, dRetN, dIfS, dTest, dNot, dAnd, dOr, dIf, dAndV, dOrV, dNotV, dNext, dDrop, dUnp, setAll, dPar, dPar3, dTy, tyD, dChain, dChain3, oI, oI0, oGcd, oLen, oAbs, oInt, ixT_tup, ixL_lst, fr_at0, fr_at1, oNeg, oEq, oNe, oRepr, oEqS, oCat, oRepL, allD, dSliceL, dSliceT, oCatT, oIsN, oNotN, isNone_fr, isNone_non, isNone_tup, isNone_list, isNone_int, isNone_bool, dPart, dNoPart, dAsgOwn, dFreeze, dParO2, dParO3, dPeekT, dPeekI, dYes, oSum, oTupOf, oMin, oIsB, oNotB, oMax, oMinL, dParOD, dParDO, dAppend, entry, atI_0, atI_1, atI_2, atI_3, List.map_cons, List.map_nil, List.length_cons, List.length_nil, List.set_cons_zero, List.set_cons_succ, List.getElem?_cons_zero, List.getElem?_cons_succ, List.cons_append, List.nil_append, Nat.reduceAdd, Nat.reduceSub, Nat.reduceLeDiff, List.replicate, Bool.false_eq_true, if_false, if_true, ite_true, ite_false, true_and, and_true, Bool.not_true, Bool.not_false, decide_true, decide_false]
  refine draw_go (lim := 5) rfl (by decide) (by decide) (by omega) fun z hz => ?_
  simp only [dSliceA, oCatA, dIsi, pR3, pR4, pR5, dSeq, dAsg, dVar, dC, dOp, dUn, dCB, dCall, dCallK, pId, pRev, dCons, dNil, dTup, dLst, dRet, dRetN, dIfS, dTest, dNot, dAnd, dOr, dIf, dAndV, dOrV, dNotV, dNext, dDrop, dUnp, setAll, dPar, dPar3, dTy, tyD, dChain, dChain3, oI, oI0, oGcd, oLen, oAbs, oInt, ixT_tup, ixL_lst, fr_at0, fr_at1, oNeg, oEq, oNe, oRepr, oEqS, oCat, oRepL, allD, dSliceL, dSliceT, oCatT, oIsN, oNotN, isNone_fr, isNone_non, isNone_tup, isNone_list, isNone_int, isNone_bool, dPart, dNoPart, dAsgOwn, dFreeze, dParO2, dParO3, dPeekT, dPeekI, dYes, oSum, oTupOf, oMin, oIsB, oNotB, oMax, oMinL, dParOD, dParDO, dAppend, entry, atI_0, atI_1, atI_2, atI_3, List.map_cons, List.map_nil, List.length_cons, List.length_nil, List.set_cons_zero, List.set_cons_succ, List.getElem?_cons_zero, List.getElem?_cons_succ, List.cons_append, List.nil_append, Nat.reduceAdd, Nat.reduceSub, Nat.reduceLeDiff, List.replicate, Bool.false_eq_true, if_false, if_true, ite_true, ite_false, true_and, and_true, Bool.not_true, Bool.not_false, decide_true, decide_false, SeqAt.shaped]
  by_cases e : (z : Int) = 0
  · have z0 : De 1 40 (0 : Rat) := De.int 0 40 (by decide)
    have e1 : PyData.eqv (.int (z : Int)) (.int 0) = true := by simp [PyData.eqv, e]
    simp only [e1, dSliceA, oCatA, dIsi, pR3, pR4, pR5, dSeq, dAsg, dVar, dC, dOp, dUn, dCB, dCall, dCallK, pId, pRev, dCons, dNil, dTup, dLst, dRet, dRetN, dIfS, dTest, dNot, dAnd, dOr, dIf, dAndV, dOrV, dNotV, dNext, dDrop, dUnp, setAll, dPar, dPar3, dTy, tyD, dChain, dChain3, oI, oI0, oGcd, oLen, oAbs, oInt, ixT_tup, ixL_lst, fr_at0, fr_at1, oNeg, oEq, oNe, oRepr, oEqS, oCat, oRepL, allD, dSliceL, dSliceT, oCatT, oIsN, oNotN, isNone_fr, isNone_non, isNone_tup, isNone_list, isNone_int, isNone_bool, dPart, dNoPart, dAsgOwn, dFreeze, dParO2, dParO3, dPeekT, dPeekI, dYes, oSum, oTupOf, oMin, oIsB, oNotB, oMax, oMinL, dParOD, dParDO, dAppend, entry, atI_0, atI_1, atI_2, atI_3, List.map_cons, List.map_nil, List.length_cons, List.length_nil, List.set_cons_zero, List.set_cons_succ, List.getElem?_cons_zero, List.getElem?_cons_succ, List.cons_append, List.nil_append, Nat.reduceAdd, Nat.reduceSub, Nat.reduceLeDiff, List.replicate, Bool.false_eq_true, if_false, if_true, ite_true, ite_false, true_and, and_true, Bool.not_true, Bool.not_false, decide_true, decide_false]
    have := q 0 Rat.le_refl ⟨B.of (by decide), B.of (by decide)⟩ ⟨1, by decide, z0⟩ (n + 3) (by omega) (by omega)
    have e2 : l - 0 * s = l := by grind
    rw [e2] at this
    exact ⟨rfl, rfl, this⟩
  · have e1 : PyData.eqv (.int (z : Int)) (.int 0) = false := by simp [PyData.eqv]; omega
    simp only [e1, dSliceA, oCatA, dIsi, pR3, pR4, pR5, dSeq, dAsg, dVar, dC, dOp, dUn, dCB, dCall, dCallK, pId, pRev, dCons, dNil, dTup, dLst, dRet, dRetN, dIfS, dTest, dNot, dAnd, dOr, dIf, dAndV, dOrV, dNotV, dNext, dDrop, dUnp, setAll, dPar, dPar3, dTy, tyD, dChain, dChain3, oI, oI0, oGcd, oLen, oAbs, oInt, ixT_tup, ixL_lst, fr_at0, fr_at1, oNeg, oEq, oNe, oRepr, oEqS, oCat, oRepL, allD, dSliceL, dSliceT, oCatT, oIsN, oNotN, isNone_fr, isNone_non, isNone_tup, isNone_list, isNone_int, isNone_bool, dPart, dNoPart, dAsgOwn, dFreeze, dParO2, dParO3, dPeekT, dPeekI, dYes, oSum, oTupOf, oMin, oIsB, oNotB, oMax, oMinL, dParOD, dParDO, dAppend, entry, atI_0, atI_1, atI_2, atI_3, List.map_cons, List.map_nil, List.length_cons, List.length_nil, List.set_cons_zero, List.set_cons_succ, List.getElem?_cons_zero, List.getElem?_cons_succ, List.cons_append, List.nil_append, Nat.reduceAdd, Nat.reduceSub, Nat.reduceLeDiff, List.replicate, Bool.false_eq_true, if_false, if_true, ite_true, ite_false, true_and, and_true, Bool.not_true, Bool.not_false, decide_true, decide_false]
    refine ⟨rfl, rfl, f, s, rfl, zf.mono (by decide), zs.mono (by decide), l, f * s, rfl, zl.mono (by decide), (zf.mul zs).mono (by decide), ?_⟩
    exact q f f0 zf ⟨1 + y, by omega, ef⟩ _ (by omega) (by omega)
def s__law_levels : DSp := fun ds n R => ∃ l s c k v : Rat, ∃ N : Nat, ds = [SV l s c k, FV v, IV (N : Int)] ∧ N ≤ 900 ∧ Sz 120 l ∧ Sz 80 s ∧ Sz 4 c ∧ Sz 100 k ∧ (∀ j, j < N → Sz 160 (lv l s c k v j)) ∧ R (TV [.list (lvD l s c k v N), .list (cuD l s c k v N)]) n
/-- _law_levels. Slots: rule_so, here, often, found, cuts_so, step, up -/
def t__law_levels : DTS :=
  (dSeq (dParO2 3 4)
  (dSeq (dForR 5 (dVar 2) (dSeq (dUnp [1, 6] (dCall s__law_tick (dCons (dVar 0) (dCons (dVar 1) dNil))))
  (dSeq (dAppend 3 (dVar 1))
  (dAppend 4 (dOp oNotN (dVar 6) (dC .none))))))
  (dFreeze 3 (dFreeze 4 (dRet (dTup (dCons (dVar 3) (dCons (dVar 4) dNil))))))))
theorem p__law_levels (ds : List DV) (n : Nat) (R : DV → Nat → Prop) (h : s__law_levels ds n R) : Goal t__law_levels 7 ds n R := by
  obtain ⟨l, s, c, k, v, N, rfl, hN, zl, zs, zc, zk, zv, q⟩ := h
  simp only [Goal, t__law_levels, dForR, dSliceA, oCatA, dIsi, pR3, pR4, pR5, dSeq, dAsg, dVar, dC, dOp, dUn, dCB, dCall, dCallK, pId, pRev, dCons, dNil, dTup, dLst, dRet, dRetN, dIfS, dTest, dNot, dAnd, dOr, dIf, dAndV, dOrV, dNotV, dNext, dDrop, dUnp, setAll, dPar, dPar3, dTy, tyD, dChain, dChain3, oI, oI0, oGcd, oLen, oAbs, oInt, ixT_tup, ixL_lst, fr_at0, fr_at1, oNeg, oEq, oNe, oRepr, oEqS, oCat, oRepL, allD, dSliceL, dSliceT, oCatT, oIsN, oNotN, isNone_fr, isNone_non, isNone_tup, isNone_list, isNone_int, isNone_bool, dPart, dNoPart, dAsgOwn, dFreeze, dParO2, dParO3, dPeekT, dPeekI, dYes, oSum, oTupOf, oMin, oIsB, oNotB, oMax, oMinL, dParOD, dParDO, dAppend, entry, atI_0, atI_1, atI_2, atI_3, List.map_cons, List.map_nil, List.length_cons, List.length_nil, List.set_cons_zero, List.set_cons_succ, List.getElem?_cons_zero, List.getElem?_cons_succ, List.cons_append, List.nil_append, Nat.reduceAdd, Nat.reduceSub, Nat.reduceLeDiff, List.replicate, Bool.false_eq_true, if_false, if_true, ite_true, ite_false, true_and, and_true, Bool.not_true, Bool.not_false, decide_true, decide_false]
  refine ⟨by decide, ⟨by omega, by omega⟩, fun j env m => m = n ∧ j ≤ N ∧ ∃ o5 o6, env = [some (SV l s c k), some (FV (lv l s c k v j)), some (IV (N : Int)), some (.own (lvD l s c k v j)), some (.own (cuD l s c k v j)), o5, o6], ⟨rfl, by omega, none, none, rfl⟩, ?_, ?_⟩
  · rintro j env m hj ⟨rfl, hj0, o5, o6, rfl⟩
    have hj' : j < N := by omega
    simp only [dSliceA, oCatA, dIsi, pR3, pR4, pR5, dSeq, dAsg, dVar, dC, dOp, dUn, dCB, dCall, dCallK, pId, pRev, dCons, dNil, dTup, dLst, dRet, dRetN, dIfS, dTest, dNot, dAnd, dOr, dIf, dAndV, dOrV, dNotV, dNext, dDrop, dUnp, setAll, dPar, dPar3, dTy, tyD, dChain, dChain3, oI, oI0, oGcd, oLen, oAbs, oInt, ixT_tup, ixL_lst, fr_at0, fr_at1, oNeg, oEq, oNe, oRepr, oEqS, oCat, oRepL, allD, dSliceL, dSliceT, oCatT, oIsN, oNotN, isNone_fr, isNone_non, isNone_tup, isNone_list, isNone_int, isNone_bool, dPart, dNoPart, dAsgOwn, dFreeze, dParO2, dParO3, dPeekT, dPeekI, dYes, oSum, oTupOf, oMin, oIsB, oNotB, oMax, oMinL, dParOD, dParDO, dAppend, entry, atI_0, atI_1, atI_2, atI_3, List.map_cons, List.map_nil, List.length_cons, List.length_nil, List.set_cons_zero, List.set_cons_succ, List.getElem?_cons_zero, List.getElem?_cons_succ, List.cons_append, List.nil_append, Nat.reduceAdd, Nat.reduceSub, Nat.reduceLeDiff, List.replicate, Bool.false_eq_true, if_false, if_true, ite_true, ite_false, true_and, and_true, Bool.not_true, Bool.not_false, decide_true, decide_false]
    refine ⟨l, s, c, k, lv l s c k v j, rfl, zl, zs, zc, zk, zv j hj', fun hc => ?_, fun hc => ?_⟩
    · have e : c * (lv l s c k v j + s) + k = lv l s c k v (j + 1) := by simp only [lv, tk, if_pos hc]
      simp only [dSliceA, oCatA, dIsi, pR3, pR4, pR5, dSeq, dAsg, dVar, dC, dOp, dUn, dCB, dCall, dCallK, pId, pRev, dCons, dNil, dTup, dLst, dRet, dRetN, dIfS, dTest, dNot, dAnd, dOr, dIf, dAndV, dOrV, dNotV, dNext, dDrop, dUnp, setAll, dPar, dPar3, dTy, tyD, dChain, dChain3, oI, oI0, oGcd, oLen, oAbs, oInt, ixT_tup, ixL_lst, fr_at0, fr_at1, oNeg, oEq, oNe, oRepr, oEqS, oCat, oRepL, allD, dSliceL, dSliceT, oCatT, oIsN, oNotN, isNone_fr, isNone_non, isNone_tup, isNone_list, isNone_int, isNone_bool, dPart, dNoPart, dAsgOwn, dFreeze, dParO2, dParO3, dPeekT, dPeekI, dYes, oSum, oTupOf, oMin, oIsB, oNotB, oMax, oMinL, dParOD, dParDO, dAppend, entry, atI_0, atI_1, atI_2, atI_3, List.map_cons, List.map_nil, List.length_cons, List.length_nil, List.set_cons_zero, List.set_cons_succ, List.getElem?_cons_zero, List.getElem?_cons_succ, List.cons_append, List.nil_append, Nat.reduceAdd, Nat.reduceSub, Nat.reduceLeDiff, List.replicate, Bool.false_eq_true, if_false, if_true, ite_true, ite_false, true_and, and_true, Bool.not_true, Bool.not_false, decide_true, decide_false, lvD_len, cuD_len, e]
      have b : cuD l s c k v j ++ [.bool true] = cuD l s c k v (j + 1) := by rw [← cuD_succ, decide_eq_true hc]
      refine ⟨by omega, by omega, by omega, some (IV (j : Int)), some (FV (lv l s c k v j + s)), ?_⟩
      rw [lvD_succ]
      show [_, _, _, _, some (DV.own (cuD l s c k v j ++ [PyData.bool true])), _, _] = _
      rw [b]
    · have e : lv l s c k v j + s = lv l s c k v (j + 1) := by simp only [lv, tk, if_neg hc]
      simp only [dSliceA, oCatA, dIsi, pR3, pR4, pR5, dSeq, dAsg, dVar, dC, dOp, dUn, dCB, dCall, dCallK, pId, pRev, dCons, dNil, dTup, dLst, dRet, dRetN, dIfS, dTest, dNot, dAnd, dOr, dIf, dAndV, dOrV, dNotV, dNext, dDrop, dUnp, setAll, dPar, dPar3, dTy, tyD, dChain, dChain3, oI, oI0, oGcd, oLen, oAbs, oInt, ixT_tup, ixL_lst, fr_at0, fr_at1, oNeg, oEq, oNe, oRepr, oEqS, oCat, oRepL, allD, dSliceL, dSliceT, oCatT, oIsN, oNotN, isNone_fr, isNone_non, isNone_tup, isNone_list, isNone_int, isNone_bool, dPart, dNoPart, dAsgOwn, dFreeze, dParO2, dParO3, dPeekT, dPeekI, dYes, oSum, oTupOf, oMin, oIsB, oNotB, oMax, oMinL, dParOD, dParDO, dAppend, entry, atI_0, atI_1, atI_2, atI_3, List.map_cons, List.map_nil, List.length_cons, List.length_nil, List.set_cons_zero, List.set_cons_succ, List.getElem?_cons_zero, List.getElem?_cons_succ, List.cons_append, List.nil_append, Nat.reduceAdd, Nat.reduceSub, Nat.reduceLeDiff, List.replicate, Bool.false_eq_true, if_false, if_true, ite_true, ite_false, true_and, and_true, Bool.not_true, Bool.not_false, decide_true, decide_false, lvD_len, cuD_len, e]
      have b : cuD l s c k v j ++ [.bool false] = cuD l s c k v (j + 1) := by rw [← cuD_succ, decide_eq_false hc]
      refine ⟨by omega, by omega, by omega, some (IV (j : Int)), some (.dat .none), ?_⟩
      rw [lvD_succ]
      show [_, _, _, _, some (DV.own (cuD l s c k v j ++ [PyData.bool false])), _, _] = _
      rw [b]
  · rintro env m ⟨rfl, _, o5, o6, rfl⟩
    simp only [dSliceA, oCatA, dIsi, pR3, pR4, pR5, dSeq, dAsg, dVar, dC, dOp, dUn, dCB, dCall, dCallK, pId, pRev, dCons, dNil, dTup, dLst, dRet, dRetN, dIfS, dTest, dNot, dAnd, dOr, dIf, dAndV, dOrV, dNotV, dNext, dDrop, dUnp, setAll, dPar, dPar3, dTy, tyD, dChain, dChain3, oI, oI0, oGcd, oLen, oAbs, oInt, ixT_tup, ixL_lst, fr_at0, fr_at1, oNeg, oEq, oNe, oRepr, oEqS, oCat, oRepL, allD, dSliceL, dSliceT, oCatT, oIsN, oNotN, isNone_fr, isNone_non, isNone_tup, isNone_list, isNone_int, isNone_bool, dPart, dNoPart, dAsgOwn, dFreeze, dParO2, dParO3, dPeekT, dPeekI, dYes, oSum, oTupOf, oMin, oIsB, oNotB, oMax, oMinL, dParOD, dParDO, dAppend, entry, atI_0, atI_1, atI_2, atI_3, List.map_cons, List.map_nil, List.length_cons, List.length_nil, List.set_cons_zero, List.set_cons_succ, List.getElem?_cons_zero, List.getElem?_cons_succ, List.cons_append, List.nil_append, Nat.reduceAdd, Nat.reduceSub, Nat.reduceLeDiff, List.replicate, Bool.false_eq_true, if_false, if_true, ite_true, ite_false, true_and, and_true, Bool.not_true, Bool.not_false, decide_true, decide_false]
    exact q
def s__law_up : DSp := fun ds n R => ∃ q : Rat, ds = [FV q] ∧ Sz 500 q ∧ R (IV (upQ q)) n
/-- _law_up. Slots: one -/
def t__law_up : DTS :=
  (dRet (dUn oNeg (dOp oDiv (dUn oNeg (dOp oIxT (dVar 0) (dC (.int 0)))) (dOp oIxT (dVar 0) (dC (.int 1))))))
theorem p__law_up (ds : List DV) (n : Nat) (R : DV → Nat → Prop) (h : s__law_up ds n R) : Goal t__law_up 1 ds n R := by
  obtain ⟨q, rfl, zq, k⟩ := h
  simp only [Goal, t__law_up, dSliceA, oCatA, dIsi, pR3, pR4, pR5, dSeq, dAsg, dVar, dC, dOp, dUn, dCB, dCall, dCallK, pId, pRev, dCons, dNil, dTup, dLst, dRet, dRetN, dIfS, dTest, dNot, dAnd, dOr, dIf, dAndV, dOrV, dNotV, dNext, dDrop, dUnp, setAll, dPar, dPar3, dTy, tyD, dChain, dChain3, oI, oI0, oGcd, oLen, oAbs, oInt, ixT_tup, ixL_lst, fr_at0, fr_at1, oNeg, oEq, oNe, oRepr, oEqS, oCat, oRepL, allD, dSliceL, dSliceT, oCatT, oIsN, oNotN, isNone_fr, isNone_non, isNone_tup, isNone_list, isNone_int, isNone_bool, dPart, dNoPart, dAsgOwn, dFreeze, dParO2, dParO3, dPeekT, dPeekI, dYes, oSum, oTupOf, oMin, oIsB, oNotB, oMax, oMinL, dParOD, dParDO, dAppend, entry, atI_0, atI_1, atI_2, atI_3, List.map_cons, List.map_nil, List.length_cons, List.length_nil, List.set_cons_zero, List.set_cons_succ, List.getElem?_cons_zero, List.getElem?_cons_succ, List.cons_append, List.nil_append, Nat.reduceAdd, Nat.reduceSub, Nat.reduceLeDiff, List.replicate, Bool.false_eq_true, if_false, if_true, ite_true, ite_false, true_and, and_true, Bool.not_true, Bool.not_false, decide_true, decide_false]
  exact ⟨⟨by have := q.den_pos; omega, logB (den_B zq) (by decide)⟩, k⟩
def s__law_next : DSp := fun ds n R => ∃ c h p : Rat, ds = [FV c, FV h, FV p] ∧ Sz 10 c ∧ Sz 101 h ∧ Sz 150 p ∧ Sz 150 ((sz1 c h p : Int) : Rat) ∧ R (TV [.int (sz1 c h p), fr (nx1 c h p)]) n
/-- _law_next. Slots: cut_so, lot_so, here, back, size -/
def t__law_next : DTS :=
  (dSeq (dAsg 3 (dCall s__law_minus (dCons (dCall s__law_times (dCons (dVar 0) (dCons (dVar 2) dNil))) (dCons (dVar 1) dNil))))
  (dSeq (dAsg 4 (dOp oSub (dC (.int 1)) (dCall s__law_up (dCons (dVar 3) dNil))))
  (dRet (dTup (dCons (dVar 4) (dCons (dCall s__law_plus (dCons (dVar 3) (dCons (dTup (dCons (dVar 4) (dCons (dC (.int 1)) dNil))) dNil))) dNil))))))
theorem fr_int (i : Int) : PyData.tuple [.int i, .int 1] = fr (i : Rat) := rfl
theorem p__law_next (ds : List DV) (n : Nat) (R : DV → Nat → Prop) (h : s__law_next ds n R) : Goal t__law_next 5 ds n R := by
  obtain ⟨c, h, p, rfl, zc, zh, zp, zs, k⟩ := h
  simp only [Goal, t__law_next, dSliceA, oCatA, dIsi, pR3, pR4, pR5, dSeq, dAsg, dVar, dC, dOp, dUn, dCB, dCall, dCallK, pId, pRev, dCons, dNil, dTup, dLst, dRet, dRetN, dIfS, dTest, dNot, dAnd, dOr, dIf, dAndV, dOrV, dNotV, dNext, dDrop, dUnp, setAll, dPar, dPar3, dTy, tyD, dChain, dChain3, oI, oI0, oGcd, oLen, oAbs, oInt, ixT_tup, ixL_lst, fr_at0, fr_at1, oNeg, oEq, oNe, oRepr, oEqS, oCat, oRepL, allD, dSliceL, dSliceT, oCatT, oIsN, oNotN, isNone_fr, isNone_non, isNone_tup, isNone_list, isNone_int, isNone_bool, dPart, dNoPart, dAsgOwn, dFreeze, dParO2, dParO3, dPeekT, dPeekI, dYes, oSum, oTupOf, oMin, oIsB, oNotB, oMax, oMinL, dParOD, dParDO, dAppend, entry, atI_0, atI_1, atI_2, atI_3, List.map_cons, List.map_nil, List.length_cons, List.length_nil, List.set_cons_zero, List.set_cons_succ, List.getElem?_cons_zero, List.getElem?_cons_succ, List.cons_append, List.nil_append, Nat.reduceAdd, Nat.reduceSub, Nat.reduceLeDiff, List.replicate, Bool.false_eq_true, if_false, if_true, ite_true, ite_false, true_and, and_true, Bool.not_true, Bool.not_false, decide_true, decide_false]
  refine ⟨c, p, rfl, zc.mono (by decide), zp.mono (by decide), c * p, h, rfl, (zc.mul zp).mono (by decide), zh.mono (by decide), ?_⟩
  simp only [dSliceA, oCatA, dIsi, pR3, pR4, pR5, dSeq, dAsg, dVar, dC, dOp, dUn, dCB, dCall, dCallK, pId, pRev, dCons, dNil, dTup, dLst, dRet, dRetN, dIfS, dTest, dNot, dAnd, dOr, dIf, dAndV, dOrV, dNotV, dNext, dDrop, dUnp, setAll, dPar, dPar3, dTy, tyD, dChain, dChain3, oI, oI0, oGcd, oLen, oAbs, oInt, ixT_tup, ixL_lst, fr_at0, fr_at1, oNeg, oEq, oNe, oRepr, oEqS, oCat, oRepL, allD, dSliceL, dSliceT, oCatT, oIsN, oNotN, isNone_fr, isNone_non, isNone_tup, isNone_list, isNone_int, isNone_bool, dPart, dNoPart, dAsgOwn, dFreeze, dParO2, dParO3, dPeekT, dPeekI, dYes, oSum, oTupOf, oMin, oIsB, oNotB, oMax, oMinL, dParOD, dParDO, dAppend, entry, atI_0, atI_1, atI_2, atI_3, List.map_cons, List.map_nil, List.length_cons, List.length_nil, List.set_cons_zero, List.set_cons_succ, List.getElem?_cons_zero, List.getElem?_cons_succ, List.cons_append, List.nil_append, Nat.reduceAdd, Nat.reduceSub, Nat.reduceLeDiff, List.replicate, Bool.false_eq_true, if_false, if_true, ite_true, ite_false, true_and, and_true, Bool.not_true, Bool.not_false, decide_true, decide_false]
  refine ⟨c * p - h, rfl, ((zc.mul zp).sub zh).mono (by decide), ?_⟩
  simp only [dSliceA, oCatA, dIsi, pR3, pR4, pR5, dSeq, dAsg, dVar, dC, dOp, dUn, dCB, dCall, dCallK, pId, pRev, dCons, dNil, dTup, dLst, dRet, dRetN, dIfS, dTest, dNot, dAnd, dOr, dIf, dAndV, dOrV, dNotV, dNext, dDrop, dUnp, setAll, dPar, dPar3, dTy, tyD, dChain, dChain3, oI, oI0, oGcd, oLen, oAbs, oInt, ixT_tup, ixL_lst, fr_at0, fr_at1, oNeg, oEq, oNe, oRepr, oEqS, oCat, oRepL, allD, dSliceL, dSliceT, oCatT, oIsN, oNotN, isNone_fr, isNone_non, isNone_tup, isNone_list, isNone_int, isNone_bool, dPart, dNoPart, dAsgOwn, dFreeze, dParO2, dParO3, dPeekT, dPeekI, dYes, oSum, oTupOf, oMin, oIsB, oNotB, oMax, oMinL, dParOD, dParDO, dAppend, entry, atI_0, atI_1, atI_2, atI_3, List.map_cons, List.map_nil, List.length_cons, List.length_nil, List.set_cons_zero, List.set_cons_succ, List.getElem?_cons_zero, List.getElem?_cons_succ, List.cons_append, List.nil_append, Nat.reduceAdd, Nat.reduceSub, Nat.reduceLeDiff, List.replicate, Bool.false_eq_true, if_false, if_true, ite_true, ite_false, true_and, and_true, Bool.not_true, Bool.not_false, decide_true, decide_false]
  have e : (1 : Int) - upQ (c * p - h) = sz1 c h p := rfl
  rw [e]
  refine ⟨c * p - h, ((sz1 c h p : Int) : Rat), rfl, ((zc.mul zp).sub zh).mono (by decide), zs.mono (by decide), ?_⟩
  simp only [dSliceA, oCatA, dIsi, pR3, pR4, pR5, dSeq, dAsg, dVar, dC, dOp, dUn, dCB, dCall, dCallK, pId, pRev, dCons, dNil, dTup, dLst, dRet, dRetN, dIfS, dTest, dNot, dAnd, dOr, dIf, dAndV, dOrV, dNotV, dNext, dDrop, dUnp, setAll, dPar, dPar3, dTy, tyD, dChain, dChain3, oI, oI0, oGcd, oLen, oAbs, oInt, ixT_tup, ixL_lst, fr_at0, fr_at1, oNeg, oEq, oNe, oRepr, oEqS, oCat, oRepL, allD, dSliceL, dSliceT, oCatT, oIsN, oNotN, isNone_fr, isNone_non, isNone_tup, isNone_list, isNone_int, isNone_bool, dPart, dNoPart, dAsgOwn, dFreeze, dParO2, dParO3, dPeekT, dPeekI, dYes, oSum, oTupOf, oMin, oIsB, oNotB, oMax, oMinL, dParOD, dParDO, dAppend, entry, atI_0, atI_1, atI_2, atI_3, List.map_cons, List.map_nil, List.length_cons, List.length_nil, List.set_cons_zero, List.set_cons_succ, List.getElem?_cons_zero, List.getElem?_cons_succ, List.cons_append, List.nil_append, Nat.reduceAdd, Nat.reduceSub, Nat.reduceLeDiff, List.replicate, Bool.false_eq_true, if_false, if_true, ite_true, ite_false, true_and, and_true, Bool.not_true, Bool.not_false, decide_true, decide_false]
  exact k
def s__law_spots : DSp := fun ds n R => ∃ c h p : Rat, ∃ N : Nat, ds = [FV c, FV h, FV p, IV (N : Int)] ∧ N ≤ 900 ∧ Sz 10 c ∧ Sz 101 h ∧ (∀ i, i < N → Sz 150 (sp c h p i) ∧ Sz 150 ((si c h p i : Int) : Rat)) ∧ R (TV [.list (siD c h p N), .list (spD c h p N)]) n
/-- _law_spots. Slots: cut_so, lot_so, here, often, found, spots_so, step, size -/
def t__law_spots : DTS :=
  (dSeq (dParO2 4 5)
  (dSeq (dForR 6 (dVar 3) (dSeq (dUnp [7, 2] (dCall s__law_next (dCons (dVar 0) (dCons (dVar 1) (dCons (dVar 2) dNil)))))
  (dSeq (dAppend 4 (dVar 7))
  (dAppend 5 (dVar 2)))))
  (dFreeze 4 (dFreeze 5 (dRet (dTup (dCons (dVar 4) (dCons (dVar 5) dNil))))))))
theorem p__law_spots (ds : List DV) (n : Nat) (R : DV → Nat → Prop) (h : s__law_spots ds n R) : Goal t__law_spots 8 ds n R := by
  obtain ⟨c, h, p, N, rfl, hN, zc, zh, zp, q⟩ := h
  simp only [Goal, t__law_spots, dForR, dSliceA, oCatA, dIsi, pR3, pR4, pR5, dSeq, dAsg, dVar, dC, dOp, dUn, dCB, dCall, dCallK, pId, pRev, dCons, dNil, dTup, dLst, dRet, dRetN, dIfS, dTest, dNot, dAnd, dOr, dIf, dAndV, dOrV, dNotV, dNext, dDrop, dUnp, setAll, dPar, dPar3, dTy, tyD, dChain, dChain3, oI, oI0, oGcd, oLen, oAbs, oInt, ixT_tup, ixL_lst, fr_at0, fr_at1, oNeg, oEq, oNe, oRepr, oEqS, oCat, oRepL, allD, dSliceL, dSliceT, oCatT, oIsN, oNotN, isNone_fr, isNone_non, isNone_tup, isNone_list, isNone_int, isNone_bool, dPart, dNoPart, dAsgOwn, dFreeze, dParO2, dParO3, dPeekT, dPeekI, dYes, oSum, oTupOf, oMin, oIsB, oNotB, oMax, oMinL, dParOD, dParDO, dAppend, entry, atI_0, atI_1, atI_2, atI_3, List.map_cons, List.map_nil, List.length_cons, List.length_nil, List.set_cons_zero, List.set_cons_succ, List.getElem?_cons_zero, List.getElem?_cons_succ, List.cons_append, List.nil_append, Nat.reduceAdd, Nat.reduceSub, Nat.reduceLeDiff, List.replicate, Bool.false_eq_true, if_false, if_true, ite_true, ite_false, true_and, and_true, Bool.not_true, Bool.not_false, decide_true, decide_false]
  refine ⟨by decide, ⟨by omega, by omega⟩, fun j env m => m = n ∧ j ≤ N ∧ ∃ o6 o7, env = [some (FV c), some (FV h), some (FV (sp c h p j)), some (IV (N : Int)), some (.own (siD c h p j)), some (.own (spD c h p j)), o6, o7], ⟨rfl, by omega, none, none, rfl⟩, ?_, ?_⟩
  · rintro j env m hj ⟨rfl, hj0, o6, o7, rfl⟩
    have hj' : j < N := by omega
    simp only [dSliceA, oCatA, dIsi, pR3, pR4, pR5, dSeq, dAsg, dVar, dC, dOp, dUn, dCB, dCall, dCallK, pId, pRev, dCons, dNil, dTup, dLst, dRet, dRetN, dIfS, dTest, dNot, dAnd, dOr, dIf, dAndV, dOrV, dNotV, dNext, dDrop, dUnp, setAll, dPar, dPar3, dTy, tyD, dChain, dChain3, oI, oI0, oGcd, oLen, oAbs, oInt, ixT_tup, ixL_lst, fr_at0, fr_at1, oNeg, oEq, oNe, oRepr, oEqS, oCat, oRepL, allD, dSliceL, dSliceT, oCatT, oIsN, oNotN, isNone_fr, isNone_non, isNone_tup, isNone_list, isNone_int, isNone_bool, dPart, dNoPart, dAsgOwn, dFreeze, dParO2, dParO3, dPeekT, dPeekI, dYes, oSum, oTupOf, oMin, oIsB, oNotB, oMax, oMinL, dParOD, dParDO, dAppend, entry, atI_0, atI_1, atI_2, atI_3, List.map_cons, List.map_nil, List.length_cons, List.length_nil, List.set_cons_zero, List.set_cons_succ, List.getElem?_cons_zero, List.getElem?_cons_succ, List.cons_append, List.nil_append, Nat.reduceAdd, Nat.reduceSub, Nat.reduceLeDiff, List.replicate, Bool.false_eq_true, if_false, if_true, ite_true, ite_false, true_and, and_true, Bool.not_true, Bool.not_false, decide_true, decide_false]
    refine ⟨c, h, sp c h p j, rfl, zc, zh, (zp j hj').1, (zp j hj').2, ?_⟩
    simp only [dSliceA, oCatA, dIsi, pR3, pR4, pR5, dSeq, dAsg, dVar, dC, dOp, dUn, dCB, dCall, dCallK, pId, pRev, dCons, dNil, dTup, dLst, dRet, dRetN, dIfS, dTest, dNot, dAnd, dOr, dIf, dAndV, dOrV, dNotV, dNext, dDrop, dUnp, setAll, dPar, dPar3, dTy, tyD, dChain, dChain3, oI, oI0, oGcd, oLen, oAbs, oInt, ixT_tup, ixL_lst, fr_at0, fr_at1, oNeg, oEq, oNe, oRepr, oEqS, oCat, oRepL, allD, dSliceL, dSliceT, oCatT, oIsN, oNotN, isNone_fr, isNone_non, isNone_tup, isNone_list, isNone_int, isNone_bool, dPart, dNoPart, dAsgOwn, dFreeze, dParO2, dParO3, dPeekT, dPeekI, dYes, oSum, oTupOf, oMin, oIsB, oNotB, oMax, oMinL, dParOD, dParDO, dAppend, entry, atI_0, atI_1, atI_2, atI_3, List.map_cons, List.map_nil, List.length_cons, List.length_nil, List.set_cons_zero, List.set_cons_succ, List.getElem?_cons_zero, List.getElem?_cons_succ, List.cons_append, List.nil_append, Nat.reduceAdd, Nat.reduceSub, Nat.reduceLeDiff, List.replicate, Bool.false_eq_true, if_false, if_true, ite_true, ite_false, true_and, and_true, Bool.not_true, Bool.not_false, decide_true, decide_false, siD_len, spD_len]
    refine ⟨by omega, by omega, by omega, some (IV (j : Int)), some (IV (sz1 c h (sp c h p j))), ?_⟩
    have e1 : siD c h p j ++ [PyData.int (sz1 c h (sp c h p j))] = siD c h p (j + 1) := siD_succ ..
    have e2 : spD c h p j ++ [fr (nx1 c h (sp c h p j))] = spD c h p (j + 1) := spD_succ ..
    rw [e1, e2]
    rfl
  · rintro env m ⟨rfl, _, o6, o7, rfl⟩
    simp only [dSliceA, oCatA, dIsi, pR3, pR4, pR5, dSeq, dAsg, dVar, dC, dOp, dUn, dCB, dCall, dCallK, pId, pRev, dCons, dNil, dTup, dLst, dRet, dRetN, dIfS, dTest, dNot, dAnd, dOr, dIf, dAndV, dOrV, dNotV, dNext, dDrop, dUnp, setAll, dPar, dPar3, dTy, tyD, dChain, dChain3, oI, oI0, oGcd, oLen, oAbs, oInt, ixT_tup, ixL_lst, fr_at0, fr_at1, oNeg, oEq, oNe, oRepr, oEqS, oCat, oRepL, allD, dSliceL, dSliceT, oCatT, oIsN, oNotN, isNone_fr, isNone_non, isNone_tup, isNone_list, isNone_int, isNone_bool, dPart, dNoPart, dAsgOwn, dFreeze, dParO2, dParO3, dPeekT, dPeekI, dYes, oSum, oTupOf, oMin, oIsB, oNotB, oMax, oMinL, dParOD, dParDO, dAppend, entry, atI_0, atI_1, atI_2, atI_3, List.map_cons, List.map_nil, List.length_cons, List.length_nil, List.set_cons_zero, List.set_cons_succ, List.getElem?_cons_zero, List.getElem?_cons_succ, List.cons_append, List.nil_append, Nat.reduceAdd, Nat.reduceSub, Nat.reduceLeDiff, List.replicate, Bool.false_eq_true, if_false, if_true, ite_true, ite_false, true_and, and_true, Bool.not_true, Bool.not_false, decide_true, decide_false]
    exact q
/-- the sizes of a run's rounds: first the one behind the start -/
def rz (c h p : Rat) : Nat → Int
  | 0 => 1
  | i + 1 => si c h p i
def rzD (c h p : Rat) (N : Nat) : List PyData := (List.range N).map fun i => .int (rz c h p i)
theorem rzD_len (c h p : Rat) (N : Nat) : (rzD c h p N).length = N := by simp [rzD]
theorem rzD_succ (c h p : Rat) (N : Nat) : rzD c h p N ++ [.int (rz c h p N)] = rzD c h p (N + 1) := by simp [rzD, List.range_succ]
theorem rzD_cons (c h p : Rat) (N : Nat) : rzD c h p (N + 1) = .int 1 :: siD c h p N := by
  simp [rzD, List.range_succ_eq_map, siD, rz]
theorem p0D_cons (c h p : Rat) (N : Nat) : p0D c h p (N + 1) = fr p :: spD c h p N := by
  simp [p0D, List.range_succ_eq_map, spD, sp]
theorem cut_tail (x : PyData) (xs : List PyData) : cutD (x :: xs) (some 1) none = xs := by
  have e1 : HT.sIx (x :: xs).length 0 (some 1) = 1 := by simp [HT.sIx]
  have e2 : HT.sIx (x :: xs).length (x :: xs).length none = (x :: xs).length := by simp [HT.sIx]
  unfold cutD
  rw [e1, e2]
  simp
theorem sz_int {k : Nat} {i : Int} (h : B k i.natAbs) (e : 1 ≤ k) : Sz k (i : Rat) := ⟨by simpa using h, by
  have : ((i : Rat)).den = 1 := rfl
  rw [this]
  exact (B.of (by decide) : B 1 1).mono e⟩
end Sx

set_option Elab.async false
set_option linter.all false
set_option maxRecDepth 100000
set_option maxHeartbeats 4000000
/-! Sq: the readings as equations for simp; sizes found by a tactic. -/
namespace Sx
open PySem PySem.Spec L2
theorem fr_eq (p q : Rat) : (fr p = fr q) = (p = q) := by
  refine propext ⟨fun h => ?_, fun h => by rw [h]⟩
  simp only [fr, PyData.tuple.injEq, List.cons.injEq, PyData.int.injEq, and_true] at h
  exact Rat.ext h.1 (by exact_mod_cast h.2)
theorem FV_eq (p q : Rat) : ((DV.dat (fr p)) = (DV.dat (fr q))) = (p = q) := by rw [DV.dat.injEq, fr_eq]
theorem natc_eq (a b : Nat) : ((a : Int) = (b : Int)) = (a = b) := propext ⟨fun h => by omega, fun h => by omega⟩
theorem e_sum_of (p q : Rat) (n : Nat) (R : DV → Nat → Prop) : s_sum_of [FV p, FV q] n R = (Sz 8000 p ∧ Sz 8000 q ∧ R (FV (p + q)) n) := by
  refine propext ⟨?_, fun hh => ⟨p, q, rfl, hh⟩⟩
  rintro ⟨p', q', hh, rr⟩
  simp only [List.cons.injEq, DV.dat.injEq, PyData.tuple.injEq, PyData.int.injEq, PyData.list.injEq, fr_eq, natc_eq, and_true, true_and] at hh
  try simp only [hh]
  first | exact rr | (subst hh; exact rr)
theorem e_difference_of (p q : Rat) (n : Nat) (R : DV → Nat → Prop) : s_difference_of [FV p, FV q] n R = (Sz 8000 p ∧ Sz 8000 q ∧ R (FV (p - q)) n) := by
  refine propext ⟨?_, fun hh => ⟨p, q, rfl, hh⟩⟩
  rintro ⟨p', q', hh, rr⟩
  simp only [List.cons.injEq, DV.dat.injEq, PyData.tuple.injEq, PyData.int.injEq, PyData.list.injEq, fr_eq, natc_eq, and_true, true_and] at hh
  try simp only [hh]
  first | exact rr | (subst hh; exact rr)
theorem e_product_of (p q : Rat) (n : Nat) (R : DV → Nat → Prop) : s_product_of [FV p, FV q] n R = (Sz 8000 p ∧ Sz 8000 q ∧ R (FV (p * q)) n) := by
  refine propext ⟨?_, fun hh => ⟨p, q, rfl, hh⟩⟩
  rintro ⟨p', q', hh, rr⟩
  simp only [List.cons.injEq, DV.dat.injEq, PyData.tuple.injEq, PyData.int.injEq, PyData.list.injEq, fr_eq, natc_eq, and_true, true_and] at hh
  try simp only [hh]
  first | exact rr | (subst hh; exact rr)
theorem e_quotient_of (p q : Rat) (n : Nat) (R : DV → Nat → Prop) : s_quotient_of [FV p, FV q] n R = (Sz 8000 p ∧ Sz 8000 q ∧ 0 < q ∧ R (FV (p / q)) n) := by
  refine propext ⟨?_, fun hh => ⟨p, q, rfl, hh⟩⟩
  rintro ⟨p', q', hh, rr⟩
  simp only [List.cons.injEq, DV.dat.injEq, PyData.tuple.injEq, PyData.int.injEq, PyData.list.injEq, fr_eq, natc_eq, and_true, true_and] at hh
  try simp only [hh]
  first | exact rr | (subst hh; exact rr)
theorem e_negative_of (p : Rat) (n : Nat) (R : DV → Nat → Prop) : s_negative_of [FV p] n R = (R (FV (-p)) n) := by
  refine propext ⟨?_, fun hh => ⟨p, rfl, hh⟩⟩
  rintro ⟨p', hh, rr⟩
  simp only [List.cons.injEq, DV.dat.injEq, PyData.tuple.injEq, PyData.int.injEq, PyData.list.injEq, fr_eq, natc_eq, and_true, true_and] at hh
  try simp only [hh]
  first | exact rr | (subst hh; exact rr)
theorem e_is_integer (i : Int) (n : Nat) (R : DV → Nat → Prop) : s_is_integer [IV i] n R = (R (BV true) n) := by
  refine propext ⟨?_, fun hh => ⟨i, rfl, hh⟩⟩
  rintro ⟨i', hh, rr⟩
  simp only [List.cons.injEq, DV.dat.injEq, PyData.tuple.injEq, PyData.int.injEq, PyData.list.injEq, fr_eq, natc_eq, and_true, true_and] at hh
  try simp only [hh]
  first | exact rr | (subst hh; exact rr)
theorem e_is_fraction (q : Rat) (n : Nat) (R : DV → Nat → Prop) : s_is_fraction [FV q] n R = (Bd q ∧ R (BV true) n) := by
  refine propext ⟨?_, fun hh => ⟨q, rfl, hh⟩⟩
  rintro ⟨q', hh, rr⟩
  simp only [List.cons.injEq, DV.dat.injEq, PyData.tuple.injEq, PyData.int.injEq, PyData.list.injEq, fr_eq, natc_eq, and_true, true_and] at hh
  try simp only [hh]
  first | exact rr | (subst hh; exact rr)
theorem e_need_fraction (q : Rat) (n : Nat) (R : DV → Nat → Prop) : s_need_fraction [FV q] n R = (Bd q ∧ R (FV q) n) := by
  refine propext ⟨?_, fun hh => ⟨q, rfl, hh⟩⟩
  rintro ⟨q', hh, rr⟩
  simp only [List.cons.injEq, DV.dat.injEq, PyData.tuple.injEq, PyData.int.injEq, PyData.list.injEq, fr_eq, natc_eq, and_true, true_and] at hh
  try simp only [hh]
  first | exact rr | (subst hh; exact rr)
theorem e_is_less (p q : Rat) (n : Nat) (R : DV → Nat → Prop) : s_is_less [FV p, FV q] n R = ((B 400000 p.num.natAbs ∧ B 400000 ((p.den : Nat) : Int).natAbs ∧ B 400000 q.num.natAbs ∧ B 400000 ((q.den : Nat) : Int).natAbs) ∧ R (BV (decide (p < q))) n) := by
  refine propext ⟨?_, fun ⟨hh, k⟩ => ⟨p.num, p.den, q.num, q.den, rfl, hh, by simp only [lt_num]; exact k⟩⟩
  rintro ⟨a, b, c, d, hh, hB, rr⟩
  have h1 : DV.dat (fr p) = TV [.int a, .int b] ∧ DV.dat (fr q) = TV [.int c, .int d] := by simpa using hh
  obtain ⟨h1, h2⟩ := h1
  simp only [fr, DV.dat.injEq, PyData.tuple.injEq, List.cons.injEq, PyData.int.injEq, and_true] at h1 h2
  obtain ⟨rfl, rfl⟩ := h1
  obtain ⟨rfl, rfl⟩ := h2
  simp only [lt_num] at rr
  exact ⟨hB, rr⟩
theorem e_is_lessR (a b c d : Int) (n : Nat) (R : DV → Nat → Prop) : s_is_less [.dat (.tuple [.int a, .int b]), .dat (.tuple [.int c, .int d])] n R = ((B 400000 a.natAbs ∧ B 400000 b.natAbs ∧ B 400000 c.natAbs ∧ B 400000 d.natAbs) ∧ R (BV (decide (a * d < c * b))) n) := by
  refine propext ⟨?_, fun ⟨hh, k⟩ => ⟨a, b, c, d, rfl, hh, k⟩⟩
  rintro ⟨a', b', c', d', hh, hB, rr⟩
  simp only [List.cons.injEq, DV.dat.injEq, PyData.tuple.injEq, PyData.int.injEq, and_true] at hh
  obtain ⟨⟨rfl, rfl⟩, ⟨rfl, rfl⟩⟩ := hh
  exact ⟨hB, rr⟩
theorem sz4 {p q : Rat} {i j : Nat} (hp : Sz i p) (hq : Sz j q) (h1 : i ≤ 400000) (h2 : j ≤ 400000) : B 400000 p.num.natAbs ∧ B 400000 ((p.den : Nat) : Int).natAbs ∧ B 400000 q.num.natAbs ∧ B 400000 ((q.den : Nat) : Int).natAbs := ⟨hp.n.mono h1, (den_B hp).mono h1, hq.n.mono h2, (den_B hq).mono h2⟩
theorem e_is_above_nought (q : Rat) (n : Nat) (R : DV → Nat → Prop) : s_is_above_nought [FV q] n R = (Bd q ∧ 0 < q ∧ R (BV true) n) := by
  refine propext ⟨?_, fun hh => ⟨q, rfl, hh⟩⟩
  rintro ⟨q', hh, rr⟩
  simp only [List.cons.injEq, DV.dat.injEq, PyData.tuple.injEq, PyData.int.injEq, PyData.list.injEq, fr_eq, natc_eq, and_true, true_and] at hh
  try simp only [hh]
  first | exact rr | (subst hh; exact rr)
theorem e_is_part (q : Rat) (n : Nat) (R : DV → Nat → Prop) : s_is_part [FV q] n R = (Bd q ∧ 0 < q ∧ q < 1 ∧ (q.den : Int) ≤ 1000 ∧ R (BV true) n) := by
  refine propext ⟨?_, fun hh => ⟨q, rfl, hh⟩⟩
  rintro ⟨q', hh, rr⟩
  simp only [List.cons.injEq, DV.dat.injEq, PyData.tuple.injEq, PyData.int.injEq, PyData.list.injEq, fr_eq, natc_eq, and_true, true_and] at hh
  try simp only [hh]
  first | exact rr | (subst hh; exact rr)
theorem e_is_spot (q : Rat) (n : Nat) (R : DV → Nat → Prop) : s_is_spot [FV q] n R = (Bd q ∧ 0 < q ∧ q ≤ 1 ∧ R (BV true) n) := by
  refine propext ⟨?_, fun hh => ⟨q, rfl, hh⟩⟩
  rintro ⟨q', hh, rr⟩
  simp only [List.cons.injEq, DV.dat.injEq, PyData.tuple.injEq, PyData.int.injEq, PyData.list.injEq, fr_eq, natc_eq, and_true, true_and] at hh
  try simp only [hh]
  first | exact rr | (subst hh; exact rr)
theorem e_need_part (q : Rat) (n : Nat) (R : DV → Nat → Prop) : s_need_part [FV q] n R = (Bd q ∧ 0 < q ∧ q < 1 ∧ (q.den : Int) ≤ 1000 ∧ R (FV q) n) := by
  refine propext ⟨?_, fun hh => ⟨q, rfl, hh⟩⟩
  rintro ⟨q', hh, rr⟩
  simp only [List.cons.injEq, DV.dat.injEq, PyData.tuple.injEq, PyData.int.injEq, PyData.list.injEq, fr_eq, natc_eq, and_true, true_and] at hh
  try simp only [hh]
  first | exact rr | (subst hh; exact rr)
theorem e_need_height (c h : Rat) (n : Nat) (R : DV → Nat → Prop) : s_need_height [FV c, FV h] n R = (Bd c ∧ Bd h ∧ c ≤ h ∧ R (FV h) n) := by
  refine propext ⟨?_, fun hh => ⟨c, h, rfl, hh⟩⟩
  rintro ⟨c', h', hh, rr⟩
  simp only [List.cons.injEq, DV.dat.injEq, PyData.tuple.injEq, PyData.int.injEq, PyData.list.injEq, fr_eq, natc_eq, and_true, true_and] at hh
  try simp only [hh]
  first | exact rr | (subst hh; exact rr)
theorem e_level_cut (c k l : Rat) (n : Nat) (R : DV → Nat → Prop) : s_level_cut [FV c, FV k, FV l] n R = (Sz 500 c ∧ Sz 500 k ∧ Sz 7000 l ∧ R (FV (c * l + k)) n) := by
  refine propext ⟨?_, fun hh => ⟨c, k, l, rfl, hh⟩⟩
  rintro ⟨c', k', l', hh, rr⟩
  simp only [List.cons.injEq, DV.dat.injEq, PyData.tuple.injEq, PyData.int.injEq, PyData.list.injEq, fr_eq, natc_eq, and_true, true_and] at hh
  try simp only [hh]
  first | exact rr | (subst hh; exact rr)
theorem e_need_setting (l s c k : Rat) (n : Nat) (R : DV → Nat → Prop) : s_need_setting [SV l s c k] n R = (Rule l s c k ∧ R (SV l s c k) n) := by
  refine propext ⟨?_, fun hh => ⟨l, s, c, k, rfl, hh⟩⟩
  rintro ⟨l', s', c', k', hh, rr⟩
  simp only [List.cons.injEq, DV.dat.injEq, PyData.tuple.injEq, PyData.int.injEq, PyData.list.injEq, fr_eq, natc_eq, and_true, true_and] at hh
  try simp only [hh]
  first | exact rr | (subst hh; exact rr)
theorem e_height_of (l s c k : Rat) (n : Nat) (R : DV → Nat → Prop) : s_height_of [SV l s c k] n R = (Rule l s c k ∧ R (FV ((l - c * l - k) / s)) n) := by
  refine propext ⟨?_, fun hh => ⟨l, s, c, k, rfl, hh⟩⟩
  rintro ⟨l', s', c', k', hh, rr⟩
  simp only [List.cons.injEq, DV.dat.injEq, PyData.tuple.injEq, PyData.int.injEq, PyData.list.injEq, fr_eq, natc_eq, and_true, true_and] at hh
  try simp only [hh]
  first | exact rr | (subst hh; exact rr)
theorem e_setting_of (c h : Rat) (n : Nat) (R : DV → Nat → Prop) : s_setting_of [FV c, FV h] n R = (Bd c ∧ 0 < c ∧ c < 1 ∧ (c.den : Int) ≤ 1000 ∧ Bd h ∧ c ≤ h ∧ R (SV 0 1 c (-h)) n) := by
  refine propext ⟨?_, fun hh => ⟨c, h, rfl, hh⟩⟩
  rintro ⟨c', h', hh, rr⟩
  simp only [List.cons.injEq, DV.dat.injEq, PyData.tuple.injEq, PyData.int.injEq, PyData.list.injEq, fr_eq, natc_eq, and_true, true_and] at hh
  try simp only [hh]
  first | exact rr | (subst hh; exact rr)
theorem e_spot_level (l s c k p : Rat) (n : Nat) (R : DV → Nat → Prop) : s_spot_level [SV l s c k, FV p] n R = (Rule l s c k ∧ Bd p ∧ 0 < p ∧ p ≤ 1 ∧ R (FV (l + p * s)) n) := by
  refine propext ⟨?_, fun hh => ⟨l, s, c, k, p, rfl, hh⟩⟩
  rintro ⟨l', s', c', k', p', hh, rr⟩
  simp only [List.cons.injEq, DV.dat.injEq, PyData.tuple.injEq, PyData.int.injEq, PyData.list.injEq, fr_eq, natc_eq, and_true, true_and] at hh
  try simp only [hh]
  first | exact rr | (subst hh; exact rr)
theorem e_level_spot (l s c k v : Rat) (n : Nat) (R : DV → Nat → Prop) : s_level_spot [SV l s c k, FV v] n R = (Rule l s c k ∧ Bd v ∧ l < v ∧ v ≤ l + s ∧ R (FV ((v - l) / s)) n) := by
  refine propext ⟨?_, fun hh => ⟨l, s, c, k, v, rfl, hh⟩⟩
  rintro ⟨l', s', c', k', v', hh, rr⟩
  simp only [List.cons.injEq, DV.dat.injEq, PyData.tuple.injEq, PyData.int.injEq, PyData.list.injEq, fr_eq, natc_eq, and_true, true_and] at hh
  try simp only [hh]
  first | exact rr | (subst hh; exact rr)
theorem e_moved (l s c k b : Rat) (n : Nat) (R : DV → Nat → Prop) : s_moved [SV l s c k, FV b] n R = (Rule l s c k ∧ Bd b ∧ R (SV (l + b) s c (k + (b - c * b))) n) := by
  refine propext ⟨?_, fun hh => ⟨l, s, c, k, b, rfl, hh⟩⟩
  rintro ⟨l', s', c', k', b', hh, rr⟩
  simp only [List.cons.injEq, DV.dat.injEq, PyData.tuple.injEq, PyData.int.injEq, PyData.list.injEq, fr_eq, natc_eq, and_true, true_and] at hh
  try simp only [hh]
  first | exact rr | (subst hh; exact rr)
theorem e_scaled (l s c k b : Rat) (n : Nat) (R : DV → Nat → Prop) : s_scaled [SV l s c k, FV b] n R = (Rule l s c k ∧ Bd b ∧ 0 < b ∧ R (SV (l * b) (s * b) c (k * b)) n) := by
  refine propext ⟨?_, fun hh => ⟨l, s, c, k, b, rfl, hh⟩⟩
  rintro ⟨l', s', c', k', b', hh, rr⟩
  simp only [List.cons.injEq, DV.dat.injEq, PyData.tuple.injEq, PyData.int.injEq, PyData.list.injEq, fr_eq, natc_eq, and_true, true_and] at hh
  try simp only [hh]
  first | exact rr | (subst hh; exact rr)
theorem e_alike (l s c k l' s' c' k' : Rat) (n : Nat) (R : DV → Nat → Prop) : s_alike [SV l s c k, SV l' s' c' k'] n R = (Rule l s c k ∧ Rule l' s' c' k' ∧ R (BV (decide (c = c') && decide ((l - c * l - k) / s = (l' - c' * l' - k') / s'))) n) := by
  refine propext ⟨?_, fun hh => ⟨l, s, c, k, l', s', c', k', rfl, hh⟩⟩
  rintro ⟨l', s', c', k', l'', s'', c'', k'', hh, rr⟩
  simp only [List.cons.injEq, DV.dat.injEq, PyData.tuple.injEq, PyData.int.injEq, PyData.list.injEq, fr_eq, natc_eq, and_true, true_and] at hh
  try simp only [hh]
  first | exact rr | (subst hh; exact rr)
theorem e__law_plus (p q : Rat) (n : Nat) (R : DV → Nat → Prop) : s__law_plus [FV p, FV q] n R = (Sz 2200 p ∧ Sz 2200 q ∧ R (FV (p + q)) n) := by
  refine propext ⟨?_, fun hh => ⟨p, q, rfl, hh⟩⟩
  rintro ⟨p', q', hh, rr⟩
  simp only [List.cons.injEq, DV.dat.injEq, PyData.tuple.injEq, PyData.int.injEq, PyData.list.injEq, fr_eq, natc_eq, and_true, true_and] at hh
  try simp only [hh]
  first | exact rr | (subst hh; exact rr)
theorem e__law_minus (p q : Rat) (n : Nat) (R : DV → Nat → Prop) : s__law_minus [FV p, FV q] n R = (Sz 2200 p ∧ Sz 2200 q ∧ R (FV (p - q)) n) := by
  refine propext ⟨?_, fun hh => ⟨p, q, rfl, hh⟩⟩
  rintro ⟨p', q', hh, rr⟩
  simp only [List.cons.injEq, DV.dat.injEq, PyData.tuple.injEq, PyData.int.injEq, PyData.list.injEq, fr_eq, natc_eq, and_true, true_and] at hh
  try simp only [hh]
  first | exact rr | (subst hh; exact rr)
theorem e__law_times (p q : Rat) (n : Nat) (R : DV → Nat → Prop) : s__law_times [FV p, FV q] n R = (Sz 2200 p ∧ Sz 2200 q ∧ R (FV (p * q)) n) := by
  refine propext ⟨?_, fun hh => ⟨p, q, rfl, hh⟩⟩
  rintro ⟨p', q', hh, rr⟩
  simp only [List.cons.injEq, DV.dat.injEq, PyData.tuple.injEq, PyData.int.injEq, PyData.list.injEq, fr_eq, natc_eq, and_true, true_and] at hh
  try simp only [hh]
  first | exact rr | (subst hh; exact rr)
theorem e__law_below (p q : Rat) (n : Nat) (R : DV → Nat → Prop) : s__law_below [FV p, FV q] n R = (Sz 2200 p ∧ Sz 2200 q ∧ R (BV (decide (p < q))) n) := by
  refine propext ⟨?_, fun hh => ⟨p, q, rfl, hh⟩⟩
  rintro ⟨p', q', hh, rr⟩
  simp only [List.cons.injEq, DV.dat.injEq, PyData.tuple.injEq, PyData.int.injEq, PyData.list.injEq, fr_eq, natc_eq, and_true, true_and] at hh
  try simp only [hh]
  first | exact rr | (subst hh; exact rr)
theorem e__law_share (a b : Int) (n : Nat) (R : DV → Nat → Prop) : s__law_share [IV a, IV b] n R = (0 < b ∧ B 8900 a.natAbs ∧ B 8900 b.natAbs ∧ R (FV ((a : Rat) / (b : Rat))) n) := by
  refine propext ⟨?_, fun hh => ⟨a, b, rfl, hh⟩⟩
  rintro ⟨a', b', hh, rr⟩
  simp only [List.cons.injEq, DV.dat.injEq, PyData.tuple.injEq, PyData.int.injEq, PyData.list.injEq, fr_eq, natc_eq, and_true, true_and] at hh
  try simp only [hh]
  first | exact rr | (subst hh; exact rr)
theorem e_reduced (a b : Int) (n : Nat) (R : DV → Nat → Prop) : s_reduced [IV a, IV b] n R = (0 < b ∧ B 8500 a.natAbs ∧ B 8500 b.natAbs ∧ R (FV ((a : Rat) / (b : Rat))) n) := by
  refine propext ⟨?_, fun hh => ⟨a, b, rfl, hh⟩⟩
  rintro ⟨a', b', hh, rr⟩
  simp only [List.cons.injEq, DV.dat.injEq, PyData.tuple.injEq, PyData.int.injEq, PyData.list.injEq, fr_eq, natc_eq, and_true, true_and] at hh
  try simp only [hh]
  first | exact rr | (subst hh; exact rr)
theorem e__law_tick (l s c k v : Rat) (n : Nat) (R : DV → Nat → Prop) : s__law_tick [SV l s c k, FV v] n R = (Sz 120 l ∧ Sz 80 s ∧ Sz 4 c ∧ Sz 100 k ∧ Sz 160 v ∧ (l < v + s → R (TV [fr (c * (v + s) + k), fr (v + s)]) n) ∧ (¬ l < v + s → R (TV [fr (v + s), .none]) n)) := by
  refine propext ⟨?_, fun hh => ⟨l, s, c, k, v, rfl, hh⟩⟩
  rintro ⟨l', s', c', k', v', hh, rr⟩
  simp only [List.cons.injEq, DV.dat.injEq, PyData.tuple.injEq, PyData.int.injEq, PyData.list.injEq, fr_eq, natc_eq, and_true, true_and] at hh
  try simp only [hh]
  first | exact rr | (subst hh; exact rr)
theorem e__law_cut (n : Nat) (R : DV → Nat → Prop) : s__law_cut [.draws] n R = (n + 2 < LIM ∧ ∀ q : Rat, 0 < q → q < 1 → (q.den : Int) ≤ 8 → Sz 4 q → (∃ low : Nat, low ≤ 8 ∧ De low 1 q) → R (FV q) (n + 2)) := propext ⟨fun h => h.2, fun h => ⟨rfl, h⟩⟩
theorem e__law_lot (c : Rat) (n : Nat) (R : DV → Nat → Prop) : s__law_lot [.draws, FV c] n R = (Sz 4 c ∧ n + 2 < LIM ∧ ∀ q : Rat, c ≤ q → Sz 12 q → (∀ d : Nat, De d 1 c → ∃ E : Nat, 0 < E ∧ E ≤ 12 ∧ De (d * E) 9 q) → R (FV q) (n + 2)) := by
  refine propext ⟨?_, fun hh => ⟨c, rfl, hh⟩⟩
  rintro ⟨c', hh, rr⟩
  simp only [List.cons.injEq, DV.dat.injEq, PyData.tuple.injEq, PyData.int.injEq, PyData.list.injEq, fr_eq, natc_eq, and_true, true_and] at hh
  try simp only [hh]
  first | exact rr | (subst hh; exact rr)
theorem e__law_spot (n : Nat) (R : DV → Nat → Prop) : s__law_spot [.draws] n R = (n + 2 < LIM ∧ ∀ q : Rat, 0 < q → q ≤ 1 → Sz 5 q → (∃ low : Nat, low ≤ 30 ∧ De low 1 q) → R (FV q) (n + 2)) := propext ⟨fun h => h.2, fun h => ⟨rfl, h⟩⟩
theorem e__law_rule (n : Nat) (R : DV → Nat → Prop) : s__law_rule [.draws] n R = (n + 8 < LIM ∧ ∀ l s c h : Rat, Drawn' l s c h → Den l s c h → R (SV l s c (keepOf l s c h)) (n + 8)) := propext ⟨fun h => h.2, fun h => ⟨rfl, h⟩⟩
theorem e__law_first (l s c k : Rat) (n : Nat) (R : DV → Nat → Prop) : s__law_first [.draws, SV l s c k] n R = (Sz 6 l ∧ Sz 4 s ∧ n + 3 < LIM ∧ ∀ f : Rat, 0 ≤ f → Sz 6 f → (∃ e : Nat, e ≤ 5 ∧ De e 40 f) → ∀ m, n ≤ m → m ≤ n + 3 → R (FV (l - f * s)) m) := by
  refine propext ⟨?_, fun hh => ⟨l, s, c, k, rfl, hh⟩⟩
  rintro ⟨l', s', c', k', hh, rr⟩
  simp only [List.cons.injEq, DV.dat.injEq, PyData.tuple.injEq, PyData.int.injEq, PyData.list.injEq, fr_eq, natc_eq, and_true, true_and] at hh
  try simp only [hh]
  first | exact rr | (subst hh; exact rr)
theorem e__law_overR (a b : Int) (q : Rat) (n : Nat) (R : DV → Nat → Prop) : s__law_over [.dat (.tuple [.int a, .int b]), FV q] n R = ((0 < b ∧ B 2200 a.natAbs ∧ B 2200 b.natAbs) ∧ Sz 2200 q ∧ 0 < q ∧ R (FV ((a : Rat) / (b : Rat) / q)) n) := by
  refine propext ⟨?_, fun ⟨h1, h2, h3, k⟩ => ⟨a, b, q, rfl, h1, h2, h3, k⟩⟩
  rintro ⟨a', b', q', hh, h1, h2, h3, k⟩
  simp only [List.cons.injEq, DV.dat.injEq, PyData.tuple.injEq, PyData.int.injEq, fr_eq, and_true] at hh
  obtain ⟨⟨rfl, rfl⟩, rfl⟩ := hh
  exact ⟨h1, h2, h3, k⟩
theorem num_over_den (p : Rat) : (p.num : Rat) / ((p.den : Int) : Rat) = p := by
  have h := q_den0 p
  have d0 : (0 : Rat) < ((p.den : Int) : Rat) := Rat.intCast_pos.2 (den_pos p)
  generalize ((p.den : Int) : Rat) = x at *
  have h1 : x ≠ 0 := by grind
  rw [← h]
  grind
theorem e__law_over (p q : Rat) (n : Nat) (R : DV → Nat → Prop) : s__law_over [FV p, FV q] n R = (Sz 2200 p ∧ Sz 2200 q ∧ 0 < q ∧ R (FV (p / q)) n) := by
  have h := e__law_overR p.num p.den q n R
  rw [num_over_den] at h
  refine h.trans (propext ⟨fun ⟨⟨_, h1, h2⟩, r⟩ => ⟨⟨h1, by simpa using h2⟩, r⟩, fun ⟨h1, r⟩ => ⟨⟨den_pos p, h1.n, den_B h1⟩, r⟩⟩)
theorem e_like (a : PyData) (n : Nat) (R : DV → Nat → Prop) : s__law_like [.dat a, .dat a] n R = ((seqD a = true ∧ Tidy a) ∧ R (BV true) n) := by
  refine propext ⟨?_, fun ⟨⟨h1, h2⟩, h3⟩ => ⟨a, a, rfl, rfl, h1, h2, h3⟩⟩
  rintro ⟨x, y, hh, rfl, h1, h2, h3⟩
  simp only [List.cons.injEq, DV.dat.injEq, and_true] at hh
  obtain ⟨rfl, _⟩ := hh
  exact ⟨⟨h1, h2⟩, h3⟩
end Sx

set_option Elab.async false
set_option linter.all false
set_option maxRecDepth 100000
set_option maxHeartbeats 4000000
/-! Sr1: the package's spots -/
namespace Sx
open PySem PySem.Spec L2
def s_need_number : DSp := fun ds n R => ∃ i a b : Int, ds = [IV i, IV a, IV b] ∧ a ≤ i ∧ i ≤ b ∧ R (IV i) n
def s_need_spot : DSp := fun ds n R => ∃ q : Rat, ds = [FV q] ∧ Bd q ∧ 0 < q ∧ q ≤ 1 ∧ R (FV q) n
/-- need_number. Slots: value, least, most -/
def t_need_number : DTS :=
  (dSeq (dIfS (dOr (dNot (dTest (dCall s_is_integer (dCons (dVar 0) dNil)))) (dNot (dTest (dChain oLe oLe (dVar 1) (dVar 0) (dVar 2))))) dNever dNext)
  (dRet (dVar 0)))
/-- need_spot. Slots: spot -/
def t_need_spot : DTS :=
  (dSeq (dIfS (dNot (dTest (dCall s_is_spot (dCons (dVar 0) dNil)))) dNever dNext)
  (dRet (dVar 0)))
theorem e_need_number (i a b : Int) (n : Nat) (R : DV → Nat → Prop) : s_need_number [IV i, IV a, IV b] n R = (a ≤ i ∧ i ≤ b ∧ R (IV i) n) := by
  refine propext ⟨?_, fun hh => ⟨i, a, b, rfl, hh⟩⟩
  rintro ⟨i', a', b', hh, rr⟩
  simp only [List.cons.injEq, DV.dat.injEq, PyData.tuple.injEq, PyData.int.injEq, PyData.list.injEq, fr_eq, natc_eq, and_true, true_and] at hh
  try simp only [hh]
  first | exact rr | (subst hh; exact rr)
theorem e_need_spot (q : Rat) (n : Nat) (R : DV → Nat → Prop) : s_need_spot [FV q] n R = (Bd q ∧ 0 < q ∧ q ≤ 1 ∧ R (FV q) n) := by
  refine propext ⟨?_, fun hh => ⟨q, rfl, hh⟩⟩
  rintro ⟨q', hh, rr⟩
  simp only [List.cons.injEq, DV.dat.injEq, PyData.tuple.injEq, PyData.int.injEq, PyData.list.injEq, fr_eq, natc_eq, and_true, true_and] at hh
  try simp only [hh]
  first | exact rr | (subst hh; exact rr)
theorem p_need_number (ds : List DV) (n : Nat) (R : DV → Nat → Prop) (h : s_need_number ds n R) : Goal t_need_number 3 ds n R := by
  obtain ⟨i, a, b, rfl, h1, h2, k⟩ := h
  simp only [Goal, t_need_number, dSliceA, oCatA, dIsi, pR3, pR4, pR5, dSeq, dAsg, dVar, dC, dOp, dUn, dCB, dCall, dCallK, pId, pRev, dCons, dNil, dTup, dLst, dRet, dRetN, dIfS, dTest, dNot, dAnd, dOr, dIf, dAndV, dOrV, dNotV, dNext, dDrop, dUnp, setAll, dPar, dPar3, dTy, tyD, dChain, dChain3, oI, oI0, oGcd, oLen, oAbs, oInt, ixT_tup, ixL_lst, fr_at0, fr_at1, oNeg, oEq, oNe, oRepr, oEqS, oCat, oRepL, allD, dSliceL, dSliceT, oCatT, oIsN, oNotN, isNone_fr, isNone_non, isNone_tup, isNone_list, isNone_int, isNone_bool, dPart, dNoPart, dAsgOwn, dFreeze, dParO2, dParO3, dPeekT, dPeekI, dYes, oSum, oTupOf, oMin, oIsB, oNotB, oMax, oMinL, dParOD, dParDO, dAppend, entry, atI_0, atI_1, atI_2, atI_3, List.map_cons, List.map_nil, List.length_cons, List.length_nil, List.set_cons_zero, List.set_cons_succ, List.getElem?_cons_zero, List.getElem?_cons_succ, List.cons_append, List.nil_append, Nat.reduceAdd, Nat.reduceSub, Nat.reduceLeDiff, List.replicate, Bool.false_eq_true, if_false, if_true, ite_true, ite_false, true_and, and_true, Bool.not_true, Bool.not_false, decide_true, decide_false, e_is_integer, h1, h2]
  exact k
theorem p_need_spot (ds : List DV) (n : Nat) (R : DV → Nat → Prop) (h : s_need_spot ds n R) : Goal t_need_spot 1 ds n R := by
  obtain ⟨q, rfl, b, q0, q1, k⟩ := h
  simp only [Goal, t_need_spot, dSliceA, oCatA, dIsi, pR3, pR4, pR5, dSeq, dAsg, dVar, dC, dOp, dUn, dCB, dCall, dCallK, pId, pRev, dCons, dNil, dTup, dLst, dRet, dRetN, dIfS, dTest, dNot, dAnd, dOr, dIf, dAndV, dOrV, dNotV, dNext, dDrop, dUnp, setAll, dPar, dPar3, dTy, tyD, dChain, dChain3, oI, oI0, oGcd, oLen, oAbs, oInt, ixT_tup, ixL_lst, fr_at0, fr_at1, oNeg, oEq, oNe, oRepr, oEqS, oCat, oRepL, allD, dSliceL, dSliceT, oCatT, oIsN, oNotN, isNone_fr, isNone_non, isNone_tup, isNone_list, isNone_int, isNone_bool, dPart, dNoPart, dAsgOwn, dFreeze, dParO2, dParO3, dPeekT, dPeekI, dYes, oSum, oTupOf, oMin, oIsB, oNotB, oMax, oMinL, dParOD, dParDO, dAppend, entry, atI_0, atI_1, atI_2, atI_3, List.map_cons, List.map_nil, List.length_cons, List.length_nil, List.set_cons_zero, List.set_cons_succ, List.getElem?_cons_zero, List.getElem?_cons_succ, List.cons_append, List.nil_append, Nat.reduceAdd, Nat.reduceSub, Nat.reduceLeDiff, List.replicate, Bool.false_eq_true, if_false, if_true, ite_true, ite_false, true_and, and_true, Bool.not_true, Bool.not_false, decide_true, decide_false, e_is_spot]
  exact ⟨b, q0, q1, k⟩
/-- a PART, a HEIGHT from it on -/
structure Ht (c h : Rat) : Prop where
  bc : Bd c
  c0 : 0 < c
  c1 : c < 1
  cd : (c.den : Int) ≤ 1000
  bh : Bd h
  ch : c ≤ h
structure Spt (p : Rat) : Prop where
  b : Bd p
  p0 : 0 < p
  p1 : p ≤ 1
def s_need_cut : DSp := fun ds n R => ∃ c h p : Rat, ds = [FV c, FV h, FV p] ∧ Ht c h ∧ Spt p ∧ R (.dat .none) n
/-- need_cut. Slots: part, height, spot -/
def t_need_cut : DTS :=
  (dSeq (dDrop (dCall s_need_part (dCons (dVar 0) dNil)))
  (dSeq (dDrop (dCall s_need_height (dCons (dVar 0) (dCons (dVar 1) dNil))))
  (dDrop (dCall s_need_spot (dCons (dVar 2) dNil)))))
theorem e_need_cut (c h p : Rat) (n : Nat) (R : DV → Nat → Prop) : s_need_cut [FV c, FV h, FV p] n R = (Ht c h ∧ Spt p ∧ R (.dat .none) n) := by
  refine propext ⟨?_, fun hh => ⟨c, h, p, rfl, hh⟩⟩
  rintro ⟨c', h', p', hh, rr⟩
  simp only [List.cons.injEq, DV.dat.injEq, PyData.tuple.injEq, PyData.int.injEq, PyData.list.injEq, fr_eq, natc_eq, and_true, true_and] at hh
  try simp only [hh]
  first | exact rr | (subst hh; exact rr)
theorem p_need_cut (ds : List DV) (n : Nat) (R : DV → Nat → Prop) (hh : s_need_cut ds n R) : Goal t_need_cut 3 ds n R := by
  obtain ⟨c, h, p, rfl, ⟨bc, c0, c1, cd, bh, ch⟩, ⟨b, p0, p1⟩, k⟩ := hh
  simp only [Goal, t_need_cut, dSliceA, oCatA, dIsi, pR3, pR4, pR5, dSeq, dAsg, dVar, dC, dOp, dUn, dCB, dCall, dCallK, pId, pRev, dCons, dNil, dTup, dLst, dRet, dRetN, dIfS, dTest, dNot, dAnd, dOr, dIf, dAndV, dOrV, dNotV, dNext, dDrop, dUnp, setAll, dPar, dPar3, dTy, tyD, dChain, dChain3, oI, oI0, oGcd, oLen, oAbs, oInt, ixT_tup, ixL_lst, fr_at0, fr_at1, oNeg, oEq, oNe, oRepr, oEqS, oCat, oRepL, allD, dSliceL, dSliceT, oCatT, oIsN, oNotN, isNone_fr, isNone_non, isNone_tup, isNone_list, isNone_int, isNone_bool, dPart, dNoPart, dAsgOwn, dFreeze, dParO2, dParO3, dPeekT, dPeekI, dYes, oSum, oTupOf, oMin, oIsB, oNotB, oMax, oMinL, dParOD, dParDO, dAppend, entry, atI_0, atI_1, atI_2, atI_3, List.map_cons, List.map_nil, List.length_cons, List.length_nil, List.set_cons_zero, List.set_cons_succ, List.getElem?_cons_zero, List.getElem?_cons_succ, List.cons_append, List.nil_append, Nat.reduceAdd, Nat.reduceSub, Nat.reduceLeDiff, List.replicate, Bool.false_eq_true, if_false, if_true, ite_true, ite_false, true_and, and_true, Bool.not_true, Bool.not_false, decide_true, decide_false, e_need_part, e_need_height, e_need_spot]
  exact ⟨bc, c0, c1, cd, bc, bh, ch, b, p0, p1, k⟩
/-! rounds one after the other, over one divisor -/
def rdD (c h p : Rat) (j : Nat) : Int := (h.den : Int) * (p.den : Int) * (c.den : Int) ^ j
def rdR (c h p : Rat) (j : Nat) : Int := h.num * (p.den : Int) * (c.den : Int) ^ j
def rdP (c h p : Rat) : Nat → Int
  | 0 => p.num * (h.den : Int)
  | j + 1 => si c h p j * rdD c h p (j + 1) - (rdR c h p (j + 1) - c.num * rdP c h p j)
theorem rdD_pos (c h p : Rat) (j : Nat) : 0 < rdD c h p j := by
  have a := h.den_pos
  have b := p.den_pos
  have d := c.den_pos
  exact Int.mul_pos (Int.mul_pos (by omega) (by omega)) (Int.pow_pos (by omega))
theorem rdD_succ (c h p : Rat) (j : Nat) : rdD c h p j * (c.den : Int) = rdD c h p (j + 1) := by unfold rdD; rw [Int.pow_succ, Int.mul_assoc]
theorem rdR_succ (c h p : Rat) (j : Nat) : rdR c h p j * (c.den : Int) = rdR c h p (j + 1) := by unfold rdR; rw [Int.pow_succ, Int.mul_assoc]
theorem rdR_eq (c h p : Rat) (j : Nat) : ((rdR c h p j : Int) : Rat) = h * ((rdD c h p j : Int) : Rat) := by
  unfold rdR rdD
  simp only [Rat.intCast_mul]
  rw [← q_den h]
  generalize ((h.den : Int) : Rat) = x
  generalize ((p.den : Int) : Rat) = y
  generalize ((((c.den : Int) ^ j : Int)) : Rat) = z
  grind
theorem rdP_eq (c h p : Rat) : ∀ j, ((rdP c h p j : Int) : Rat) = sp c h p j * ((rdD c h p j : Int) : Rat)
  | 0 => by
    unfold rdP rdD sp
    simp only [Rat.intCast_mul, Int.pow_zero, Int.mul_one]
    rw [← q_den p]
    generalize ((h.den : Int) : Rat) = x
    generalize ((p.den : Int) : Rat) = y
    grind
  | j + 1 => by
    have ih := rdP_eq c h p j
    have eR := rdR_eq c h p (j + 1)
    have eD : ((rdD c h p (j + 1) : Int) : Rat) = ((rdD c h p j : Int) : Rat) * ((c.den : Int) : Rat) := by rw [← rdD_succ, Rat.intCast_mul]
    have ec := q_den c
    unfold rdP
    rw [Rat.intCast_sub, Rat.intCast_sub, Rat.intCast_mul, Rat.intCast_mul, eR, ih, ← ec]
    show _ = nx1 c h (sp c h p j) * _
    unfold nx1
    show _ = (c * sp c h p j - h + ((si c h p j : Int) : Rat)) * _
    rw [eD]
    generalize ((rdD c h p j : Int) : Rat) = D
    generalize ((c.den : Int) : Rat) = b
    generalize sp c h p j = s
    generalize ((si c h p j : Int) : Rat) = k
    grind
/-- the least whole number above -/
theorem floor_of_up {a : Int} {d : Int} (hd : 0 < d) (q : Rat) (e : (a : Rat) = q * (d : Rat)) : a / d + 1 = 1 - upQ (-q) := by
  have dp : (0 : Rat) < (d : Rat) := Rat.intCast_pos.2 hd
  have h1 := upQ_ge (-q)
  have h2 := upQ_lt (-q)
  -- u = upQ (-q): -q ≤ u < -q + 1
  have u1 : ((-upQ (-q) : Int) : Rat) ≤ q := by rw [Rat.intCast_neg]; grind
  have u2 : q < ((-upQ (-q) + 1 : Int) : Rat) := by
    rw [Rat.intCast_add, Rat.intCast_neg]
    have : ((1 : Int) : Rat) = 1 := rfl
    grind
  have ef : ∃ f, f = -upQ (-q) := ⟨_, rfl⟩
  obtain ⟨f, hf⟩ := ef
  rw [← hf] at u1 u2
  have v1 := Rat.mul_le_mul_of_nonneg_right u1 (Rat.le_of_lt dp)
  have v2 := Rat.mul_lt_mul_of_pos_right u2 dp
  rw [← e, ← Rat.intCast_mul] at v1
  rw [← e, ← Rat.intCast_mul] at v2
  have w1 := Rat.intCast_le_intCast.1 v1
  have w2 := Rat.intCast_lt_intCast.1 v2
  have : a / d = f := by
    apply Int.le_antisymm
    · exact Int.lt_add_one_iff.1 (Int.ediv_lt_of_lt_mul hd w2)
    · exact Int.le_ediv_of_mul_le hd w1
  omega
theorem rd_ticks (c h p : Rat) (j : Nat) : (rdR c h p (j + 1) - c.num * rdP c h p j) / rdD c h p (j + 1) + 1 = si c h p j := by
  have e := floor_of_up (rdD_pos c h p (j + 1)) (a := rdR c h p (j + 1) - c.num * rdP c h p j) (h - c * sp c h p j) (by
    have eR := rdR_eq c h p (j + 1)
    have ih := rdP_eq c h p j
    have eD : ((rdD c h p (j + 1) : Int) : Rat) = ((rdD c h p j : Int) : Rat) * ((c.den : Int) : Rat) := by rw [← rdD_succ, Rat.intCast_mul]
    have ec := q_den c
    rw [Rat.intCast_sub, Rat.intCast_mul, eR, ih, eD, ← ec]
    generalize ((rdD c h p j : Int) : Rat) = D
    generalize ((c.den : Int) : Rat) = b
    generalize sp c h p j = s
    grind)
  rw [e]
  unfold si sz1
  have : -(h - c * sp c h p j) = c * sp c h p j - h := by grind
  rw [this]
theorem rdP_range {c h p : Rat} (p0 : 0 < p) (p1 : p ≤ 1) (j : Nat) : 0 < rdP c h p j ∧ rdP c h p j ≤ rdD c h p j := by
  obtain ⟨a, b⟩ := sp_range (c := c) (h := h) p0 p1 j
  have e := rdP_eq c h p j
  have dp : (0 : Rat) < ((rdD c h p j : Int) : Rat) := Rat.intCast_pos.2 (rdD_pos ..)
  constructor
  · have : (0 : Rat) < ((rdP c h p j : Int) : Rat) := by rw [e]; exact Rat.mul_pos a dp
    exact Rat.intCast_pos.1 this
  · have := Rat.mul_le_mul_of_nonneg_right b (Rat.le_of_lt dp)
    rw [← e, Rat.one_mul] at this
    exact Rat.intCast_le_intCast.1 this
def rwD (c h p : Rat) (N : Nat) : List PyData := (List.range N).map fun i => .tuple [.int (rdP c h p (i + 1)), .int (rdD c h p (i + 1))]
theorem rwD_len (c h p : Rat) (N : Nat) : (rwD c h p N).length = N := by simp [rwD]
theorem rwD_succ (c h p : Rat) (N : Nat) : rwD c h p N ++ [.tuple [.int (rdP c h p (N + 1)), .int (rdD c h p (N + 1))]] = rwD c h p (N + 1) := by simp [rwD, List.range_succ]
theorem pow_B {k n : Nat} {j : Nat} (h : B k (n ^ j)) : B k (((n : Nat) : Int) ^ j).natAbs := by
  rw [Int.natAbs_pow]; simpa using h
theorem rdD_B {c h p : Rat} {j : Nat} (zh : Sz 101 h) (zp : Sz 4000 p) (hb : B 4000 (c.den ^ j)) : B 8101 (rdD c h p j).natAbs := by
  unfold rdD
  exact natAbs_mul_B (natAbs_mul_B (den_B zh) (den_B zp)) (pow_B hb)
theorem rdR_B {c h p : Rat} {j : Nat} (zh : Sz 101 h) (zp : Sz 4000 p) (hb : B 4000 (c.den ^ j)) : B 8101 (rdR c h p j).natAbs := by
  unfold rdR
  exact natAbs_mul_B (natAbs_mul_B zh.n (den_B zp)) (pow_B hb)
def s_rounds_from : DSp := fun ds n R => ∃ c h p : Rat, ∃ N : Nat, ds = [FV c, FV h, FV p, IV (N : Int)] ∧ N ≤ 1000 ∧ Sz 10 c ∧ Sz 101 h ∧ Sz 4000 p ∧ 0 < c ∧ c ≤ h ∧ 0 < p ∧ p ≤ 1 ∧ (∀ j, j ≤ N → B 4000 (c.den ^ j)) ∧ R (TV [.list (siD c h p N), .list (rwD c h p N)]) n
/-- rounds_from. Slots: part, height, spot, count, above, below, divisor, rise, place, rounds, spots, _, lack, ticks -/
def t_rounds_from : DTS :=
  (dSeq (dUnp [4, 5] (dVar 0))
  (dSeq (dAsg 6 (dOp oMul (dOp oIxT (dVar 1) (dC (.int 1))) (dOp oIxT (dVar 2) (dC (.int 1)))))
  (dSeq (dAsg 7 (dOp oMul (dOp oIxT (dVar 1) (dC (.int 0))) (dOp oIxT (dVar 2) (dC (.int 1)))))
  (dSeq (dAsg 8 (dOp oMul (dOp oIxT (dVar 2) (dC (.int 0))) (dOp oIxT (dVar 1) (dC (.int 1)))))
  (dSeq (dAsgOwn 9 dNil)
  (dSeq (dAsgOwn 10 dNil)
  (dSeq (dForR 11 (dVar 3) (dSeq (dAsg 6 (dOp oMul (dVar 6) (dVar 5)))
  (dSeq (dAsg 7 (dOp oMul (dVar 7) (dVar 5)))
  (dSeq (dAsg 12 (dOp oSub (dVar 7) (dOp oMul (dVar 4) (dVar 8))))
  (dSeq (dAsg 13 (dOp oAdd (dOp oDiv (dVar 12) (dVar 6)) (dC (.int 1))))
  (dSeq (dAsg 8 (dOp oSub (dOp oMul (dVar 13) (dVar 6)) (dVar 12)))
  (dSeq (dAppend 9 (dVar 13))
  (dAppend 10 (dTup (dCons (dVar 8) (dCons (dVar 6) dNil)))))))))))
  (dFreeze 9 (dFreeze 10 (dRet (dTup (dCons (dVar 9) (dCons (dVar 10) dNil)))))))))))))
theorem e_rounds_from (c h p : Rat) (N : Nat) (n : Nat) (R : DV → Nat → Prop) : s_rounds_from [FV c, FV h, FV p, IV (N : Int)] n R = (N ≤ 1000 ∧ Sz 10 c ∧ Sz 101 h ∧ Sz 4000 p ∧ 0 < c ∧ c ≤ h ∧ 0 < p ∧ p ≤ 1 ∧ (∀ j, j ≤ N → B 4000 (c.den ^ j)) ∧ R (TV [.list (siD c h p N), .list (rwD c h p N)]) n) := by
  refine propext ⟨?_, fun hh => ⟨c, h, p, N, rfl, hh⟩⟩
  rintro ⟨c', h', p', N', hh, rr⟩
  simp only [List.cons.injEq, DV.dat.injEq, PyData.tuple.injEq, PyData.int.injEq, PyData.list.injEq, fr_eq, natc_eq, and_true, true_and] at hh
  try simp only [hh]
  first | exact rr | (subst hh; exact rr)
theorem p_rounds_from (ds : List DV) (n : Nat) (R : DV → Nat → Prop) (hh : s_rounds_from ds n R) : Goal t_rounds_from 14 ds n R := by
  obtain ⟨c, h, p, N, rfl, hN, zc, zh, zp, c0, ch, p0, p1, hb, k⟩ := hh
  show Goal t_rounds_from 14 [.dat (.tuple [.int c.num, .int c.den]), .dat (.tuple [.int h.num, .int h.den]), .dat (.tuple [.int p.num, .int p.den]), IV (N : Int)] n R
  simp only [Goal, t_rounds_from, dForR, dSliceA, oCatA, dIsi, pR3, pR4, pR5, dSeq, dAsg, dVar, dC, dOp, dUn, dCB, dCall, dCallK, pId, pRev, dCons, dNil, dTup, dLst, dRet, dRetN, dIfS, dTest, dNot, dAnd, dOr, dIf, dAndV, dOrV, dNotV, dNext, dDrop, dUnp, setAll, dPar, dPar3, dTy, tyD, dChain, dChain3, oI, oI0, oGcd, oLen, oAbs, oInt, ixT_tup, ixL_lst, fr_at0, fr_at1, oNeg, oEq, oNe, oRepr, oEqS, oCat, oRepL, allD, dSliceL, dSliceT, oCatT, oIsN, oNotN, isNone_fr, isNone_non, isNone_tup, isNone_list, isNone_int, isNone_bool, dPart, dNoPart, dAsgOwn, dFreeze, dParO2, dParO3, dPeekT, dPeekI, dYes, oSum, oTupOf, oMin, oIsB, oNotB, oMax, oMinL, dParOD, dParDO, dAppend, entry, atI_0, atI_1, atI_2, atI_3, List.map_cons, List.map_nil, List.length_cons, List.length_nil, List.set_cons_zero, List.set_cons_succ, List.getElem?_cons_zero, List.getElem?_cons_succ, List.cons_append, List.nil_append, Nat.reduceAdd, Nat.reduceSub, Nat.reduceLeDiff, List.replicate, Bool.false_eq_true, if_false, if_true, ite_true, ite_false, true_and, and_true, Bool.not_true, Bool.not_false, decide_true, decide_false]
  refine ⟨mulB (den_B zh) (den_B zp) (by decide), mulB zh.n (den_B zp) (by decide), mulB zp.n (den_B zh) (by decide), ?_⟩
  refine ⟨⟨by omega, by omega⟩, fun j env m => m = n ∧ j ≤ N ∧ ∃ o11 o12 o13, env = [some (.dat (.tuple [.int c.num, .int c.den])), some (.dat (.tuple [.int h.num, .int h.den])), some (.dat (.tuple [.int p.num, .int p.den])), some (IV (N : Int)), some (IV c.num), some (IV (c.den : Int)), some (IV (rdD c h p j)), some (IV (rdR c h p j)), some (IV (rdP c h p j)), some (.own (siD c h p j)), some (.own (rwD c h p j)), o11, o12, o13], ⟨rfl, by omega, none, none, none, ?_⟩, ?_, ?_⟩
  · simp only [rdD, rdR, rdP, Int.pow_zero, Int.mul_one, siD, rwD, List.range_zero, List.map_nil]
  · rintro j env m hj ⟨rfl, hj0, o11, o12, o13, rfl⟩
    have hj' : j < N := by omega
    have bj := hb j hj0
    have bj1 := hb (j + 1) (by omega)
    have bD := rdD_B (c := c) (j := j) zh zp bj
    have bD1 := rdD_B (c := c) (j := j + 1) zh zp bj1
    have bR := rdR_B (c := c) (j := j) zh zp bj
    obtain ⟨P0, P1⟩ := rdP_range (c := c) (h := h) p0 p1 j
    have bP : B 8101 (rdP c h p j).natAbs := bD.le (by omega)
    have sg := si_pos c0 ch p0 p1 j
    have d0 := rdD_pos c h p (j + 1)
    have cm : CMulW (si c h p j) (rdD c h p (j + 1)) := by
      have hR := rdR_B (c := c) (j := j + 1) zh zp bj1
      have bl : B 16300 (rdR c h p (j + 1) - c.num * rdP c h p j).natAbs := (natAbs_sub_B (hR.mono (by decide : 8101 ≤ 8111)) (natAbs_mul_B zc.n bP)).mono (by decide)
      have es := rd_ticks c h p j
      have bq : ((rdR c h p (j + 1) - c.num * rdP c h p j) / rdD c h p (j + 1)).natAbs ≤ (rdR c h p (j + 1) - c.num * rdP c h p j).natAbs := by
        have := Int.natAbs_ediv_le_natAbs (rdR c h p (j + 1) - c.num * rdP c h p j) (rdD c h p (j + 1))
        exact this
      have bs : B 16301 (si c h p j).natAbs := by
        unfold B at bl ⊢
        rw [Nat.pow_succ]
        omega
      exact mulB bs bD1 (by decide)
    simp only [dSliceA, oCatA, dIsi, pR3, pR4, pR5, dSeq, dAsg, dVar, dC, dOp, dUn, dCB, dCall, dCallK, pId, pRev, dCons, dNil, dTup, dLst, dRet, dRetN, dIfS, dTest, dNot, dAnd, dOr, dIf, dAndV, dOrV, dNotV, dNext, dDrop, dUnp, setAll, dPar, dPar3, dTy, tyD, dChain, dChain3, oI, oI0, oGcd, oLen, oAbs, oInt, ixT_tup, ixL_lst, fr_at0, fr_at1, oNeg, oEq, oNe, oRepr, oEqS, oCat, oRepL, allD, dSliceL, dSliceT, oCatT, oIsN, oNotN, isNone_fr, isNone_non, isNone_tup, isNone_list, isNone_int, isNone_bool, dPart, dNoPart, dAsgOwn, dFreeze, dParO2, dParO3, dPeekT, dPeekI, dYes, oSum, oTupOf, oMin, oIsB, oNotB, oMax, oMinL, dParOD, dParDO, dAppend, entry, atI_0, atI_1, atI_2, atI_3, List.map_cons, List.map_nil, List.length_cons, List.length_nil, List.set_cons_zero, List.set_cons_succ, List.getElem?_cons_zero, List.getElem?_cons_succ, List.cons_append, List.nil_append, Nat.reduceAdd, Nat.reduceSub, Nat.reduceLeDiff, List.replicate, Bool.false_eq_true, if_false, if_true, ite_true, ite_false, true_and, and_true, Bool.not_true, Bool.not_false, decide_true, decide_false]
    simp only [rdD_succ, rdR_succ]
    refine ⟨mulB bD (den_B zc) (by decide), mulB bR (den_B zc) (by decide), mulB zc.n bP (by decide), ⟨d0, logB bD1 (by decide)⟩, ?_⟩
    simp only [rd_ticks]
    refine ⟨cm, ?_⟩
    simp only [siD_len, rwD_len, dSliceA, oCatA, dIsi, pR3, pR4, pR5, dSeq, dAsg, dVar, dC, dOp, dUn, dCB, dCall, dCallK, pId, pRev, dCons, dNil, dTup, dLst, dRet, dRetN, dIfS, dTest, dNot, dAnd, dOr, dIf, dAndV, dOrV, dNotV, dNext, dDrop, dUnp, setAll, dPar, dPar3, dTy, tyD, dChain, dChain3, oI, oI0, oGcd, oLen, oAbs, oInt, ixT_tup, ixL_lst, fr_at0, fr_at1, oNeg, oEq, oNe, oRepr, oEqS, oCat, oRepL, allD, dSliceL, dSliceT, oCatT, oIsN, oNotN, isNone_fr, isNone_non, isNone_tup, isNone_list, isNone_int, isNone_bool, dPart, dNoPart, dAsgOwn, dFreeze, dParO2, dParO3, dPeekT, dPeekI, dYes, oSum, oTupOf, oMin, oIsB, oNotB, oMax, oMinL, dParOD, dParDO, dAppend, entry, atI_0, atI_1, atI_2, atI_3, List.map_cons, List.map_nil, List.length_cons, List.length_nil, List.set_cons_zero, List.set_cons_succ, List.getElem?_cons_zero, List.getElem?_cons_succ, List.cons_append, List.nil_append, Nat.reduceAdd, Nat.reduceSub, Nat.reduceLeDiff, List.replicate, Bool.false_eq_true, if_false, if_true, ite_true, ite_false, true_and, and_true, Bool.not_true, Bool.not_false, decide_true, decide_false]
    have e0 : si c h p j * rdD c h p (j + 1) - (rdR c h p (j + 1) - c.num * rdP c h p j) = rdP c h p (j + 1) := rfl
    rw [siD_succ, e0, rwD_succ]
    exact ⟨by omega, by omega, by omega, _, _, _, rfl⟩
  · rintro env m ⟨rfl, _, o11, o12, o13, rfl⟩
    simp only [dSliceA, oCatA, dIsi, pR3, pR4, pR5, dSeq, dAsg, dVar, dC, dOp, dUn, dCB, dCall, dCallK, pId, pRev, dCons, dNil, dTup, dLst, dRet, dRetN, dIfS, dTest, dNot, dAnd, dOr, dIf, dAndV, dOrV, dNotV, dNext, dDrop, dUnp, setAll, dPar, dPar3, dTy, tyD, dChain, dChain3, oI, oI0, oGcd, oLen, oAbs, oInt, ixT_tup, ixL_lst, fr_at0, fr_at1, oNeg, oEq, oNe, oRepr, oEqS, oCat, oRepL, allD, dSliceL, dSliceT, oCatT, oIsN, oNotN, isNone_fr, isNone_non, isNone_tup, isNone_list, isNone_int, isNone_bool, dPart, dNoPart, dAsgOwn, dFreeze, dParO2, dParO3, dPeekT, dPeekI, dYes, oSum, oTupOf, oMin, oIsB, oNotB, oMax, oMinL, dParOD, dParDO, dAppend, entry, atI_0, atI_1, atI_2, atI_3, List.map_cons, List.map_nil, List.length_cons, List.length_nil, List.set_cons_zero, List.set_cons_succ, List.getElem?_cons_zero, List.getElem?_cons_succ, List.cons_append, List.nil_append, Nat.reduceAdd, Nat.reduceSub, Nat.reduceLeDiff, List.replicate, Bool.false_eq_true, if_false, if_true, ite_true, ite_false, true_and, and_true, Bool.not_true, Bool.not_false, decide_true, decide_false]
    exact k
end Sx

set_option Elab.async false
set_option linter.all false
set_option maxRecDepth 100000
set_option maxHeartbeats 4000000
/-! Sr2: the package's spots, what is handed in -/
namespace Sx
open PySem PySem.Spec L2
theorem Ht.zc {c h : Rat} (A : Ht c h) : Sz 10 c := by
  have h1 := num_lt_den A.c1
  have h0 := (num_pos_iff c).2 A.c0
  have hd := A.cd
  have e : (2 : Nat) ^ 10 = 1024 := by decide
  constructor
  · unfold B; omega
  · unfold B; omega
theorem Ht.zh {c h : Rat} (A : Ht c h) : Sz 100 h := A.bh.sz
theorem pow_le_B {c h : Rat} (A : Ht c h) {j k : Nat} (hk : 10 * j + 1 ≤ k) : B k (c.den ^ j) := by
  have hd := A.cd
  have e10 : (2 : Nat) ^ 10 = 1024 := by decide
  have z : c.den ^ j ≤ (2 ^ 10) ^ j := Nat.pow_le_pow_left (show c.den ≤ 2 ^ 10 by omega) j
  rw [← Nat.pow_mul] at z
  unfold B
  exact Nat.lt_of_le_of_lt z (Nat.pow_lt_pow_right (by decide) (by omega))
theorem siD_1 (c h p : Rat) : siD c h p 1 = [.int (si c h p 0)] := rfl
theorem rwD_1 (c h p : Rat) : rwD c h p 1 = [.tuple [.int (rdP c h p 1), .int (rdD c h p 1)]] := rfl
theorem rw_q (c h p : Rat) (j : Nat) : ((rdP c h p j : Int) : Rat) / ((rdD c h p j : Int) : Rat) = sp c h p j := by
  have dp : (0 : Rat) < ((rdD c h p j : Int) : Rat) := Rat.intCast_pos.2 (rdD_pos ..)
  rw [rdP_eq]
  have : ((rdD c h p j : Int) : Rat) ≠ 0 := by grind
  generalize ((rdD c h p j : Int) : Rat) = x at *
  grind
theorem rwD_get {c h p : Rat} {N k : Nat} {d : PyData} (e : (rwD c h p N)[k]? = some d) : k < N ∧ d = .tuple [.int (rdP c h p (k + 1)), .int (rdD c h p (k + 1))] := by
  simp only [rwD, List.getElem?_map] at e
  by_cases hk : k < N
  · rw [List.getElem?_range hk] at e
    simp at e
    exact ⟨hk, e.symm⟩
  · rw [List.getElem?_eq_none (by simp; omega)] at e
    simp at e
theorem siD_get {c h p : Rat} {N k : Nat} {d : PyData} (e : (siD c h p N)[k]? = some d) : k < N ∧ d = .int (si c h p k) := by
  simp only [siD, List.getElem?_map] at e
  by_cases hk : k < N
  · rw [List.getElem?_range hk] at e
    simp at e
    exact ⟨hk, e.symm⟩
  · rw [List.getElem?_eq_none (by simp; omega)] at e
    simp at e
theorem siD_ints (c h p : Rat) (N : Nat) : siD c h p N = ((List.range N).map fun i => si c h p i).map PyData.int := by simp [siD]
theorem siD_sum (c h p : Rat) : ∀ N, ((List.range N).map fun i => si c h p i).sum = sumSi c h p N
  | 0 => rfl
  | N + 1 => by simp [List.range_succ, siD_sum c h p N, sumSi]
def cntD (c h p : Rat) (N : Nat) : List PyData := (List.range N).map fun i => .int (sumSi c h p i)
theorem cntD_len (c h p : Rat) (N : Nat) : (cntD c h p N).length = N := by simp [cntD]
theorem cntD_succ (c h p : Rat) (N : Nat) : cntD c h p N ++ [.int (sumSi c h p N)] = cntD c h p (N + 1) := by simp [cntD, List.range_succ]
def s_next_spot : DSp := fun ds n R => ∃ c h p : Rat, ds = [FV c, FV h, FV p] ∧ Ht c h ∧ Spt p ∧ R (TV [.int (si c h p 0), fr (sp c h p 1)]) n
def s_spots_after : DSp := fun ds n R => ∃ c h p : Rat, ∃ N : Nat, ds = [FV c, FV h, FV p, IV (N : Int)] ∧ Ht c h ∧ Spt p ∧ N ≤ 1000 ∧ (∀ j, j ≤ N → B 4000 (c.den ^ j)) ∧ R (TV [.tuple (siD c h p N), .tuple (spD c h p N)]) n
def s_counts_after : DSp := fun ds n R => ∃ c h p : Rat, ∃ N : Nat, ds = [FV c, FV h, FV p, IV (N : Int)] ∧ Ht c h ∧ Spt p ∧ N ≤ 1000 ∧ (∀ j, j ≤ N → B 4000 (c.den ^ j)) ∧ R (TV (cntD c h p (N + 1))) n
def s_later : DSp := fun ds n R => ∃ c h p p' : Rat, ∃ N : Nat, ds = [FV c, FV h, FV p, FV p', IV (N : Int)] ∧ Ht c h ∧ Spt p ∧ Spt p' ∧ N ≤ 1000 ∧ (∀ j, j ≤ N → B 4000 (c.den ^ j)) ∧ R (IV (sumSi c h p N - sumSi c h p' N)) n
/-- next_spot. Slots: part, height, spot, rounds, spots -/
def t_next_spot : DTS :=
  (dSeq (dDrop (dCall s_need_cut (dCons (dVar 0) (dCons (dVar 1) (dCons (dVar 2) dNil)))))
  (dSeq (dUnp [3, 4] (dCall s_rounds_from (dCons (dVar 0) (dCons (dVar 1) (dCons (dVar 2) (dCons (dC (.int 1)) dNil))))))
  (dRet (dTup (dCons (dOp oIxL (dVar 3) (dC (.int 0))) (dCons (dCall s_reduced (dCons (dOp oIxT (dOp oIxL (dVar 4) (dC (.int 0))) (dC (.int 0))) (dCons (dOp oIxT (dOp oIxL (dVar 4) (dC (.int 0))) (dC (.int 1))) dNil))) dNil))))))
/-- spots_after. Slots: part, height, spot, count, rounds, spots, ticks -/
def t_spots_after : DTS :=
  (dSeq (dDrop (dCall s_need_cut (dCons (dVar 0) (dCons (dVar 1) (dCons (dVar 2) dNil)))))
  (dSeq (dDrop (dCall s_need_number (dCons (dVar 3) (dCons (dC (.int 0)) (dCons (dC (.int 1000)) dNil)))))
  (dSeq (dAsg 4 (dOp oIxT (dCall s_rounds_from (dCons (dVar 0) (dCons (dVar 1) (dCons (dVar 2) (dCons (dVar 3) dNil))))) (dC (.int 0))))
  (dSeq (dAsgOwn 5 dNil)
  (dSeq (dForL 6 (dVar 4) (dSeq (dAsg 2 (dCall s_sum_of (dCons (dCall s_product_of (dCons (dVar 0) (dCons (dVar 2) dNil))) (dCons (dCall s_reduced (dCons (dOp oSub (dOp oMul (dVar 6) (dOp oIxT (dVar 1) (dC (.int 1)))) (dOp oIxT (dVar 1) (dC (.int 0)))) (dCons (dOp oIxT (dVar 1) (dC (.int 1))) dNil))) dNil))))
  (dAppend 5 (dVar 2))))
  (dFreeze 5 (dRet (dTup (dCons (dCB oTupOf (dCons (dVar 4) dNil)) (dCons (dCB oTupOf (dCons (dVar 5) dNil)) dNil))))))))))
/-- counts_after. Slots: part, height, spot, count, total, counts, ticks -/
def t_counts_after : DTS :=
  (dSeq (dDrop (dCall s_need_cut (dCons (dVar 0) (dCons (dVar 1) (dCons (dVar 2) dNil)))))
  (dSeq (dDrop (dCall s_need_number (dCons (dVar 3) (dCons (dC (.int 0)) (dCons (dC (.int 1000)) dNil)))))
  (dSeq (dAsg 4 (dC (.int 0)))
  (dSeq (dAsgOwn 5 (dCons (dVar 4) dNil))
  (dSeq (dForL 6 (dOp oIxT (dCall s_rounds_from (dCons (dVar 0) (dCons (dVar 1) (dCons (dVar 2) (dCons (dVar 3) dNil))))) (dC (.int 0))) (dSeq (dAsg 4 (dOp oAdd (dVar 4) (dVar 6)))
  (dAppend 5 (dVar 4))))
  (dFreeze 5 (dRet (dCB oTupOf (dCons (dVar 5) dNil)))))))))
/-- later. Slots: part, height, spot, other, count, needed -/
def t_later : DTS :=
  (dSeq (dDrop (dCall s_need_cut (dCons (dVar 0) (dCons (dVar 1) (dCons (dVar 2) dNil)))))
  (dSeq (dDrop (dCall s_need_spot (dCons (dVar 3) dNil)))
  (dSeq (dDrop (dCall s_need_number (dCons (dVar 4) (dCons (dC (.int 0)) (dCons (dC (.int 1000)) dNil)))))
  (dSeq (dAsg 5 (dCB oSum (dCons (dOp oIxT (dCall s_rounds_from (dCons (dVar 0) (dCons (dVar 1) (dCons (dVar 2) (dCons (dVar 4) dNil))))) (dC (.int 0))) dNil)))
  (dRet (dOp oSub (dVar 5) (dCB oSum (dCons (dOp oIxT (dCall s_rounds_from (dCons (dVar 0) (dCons (dVar 1) (dCons (dVar 3) (dCons (dVar 4) dNil))))) (dC (.int 0))) dNil))))))))
theorem e_next_spot (c h p : Rat) (n : Nat) (R : DV → Nat → Prop) : s_next_spot [FV c, FV h, FV p] n R = (Ht c h ∧ Spt p ∧ R (TV [.int (si c h p 0), fr (sp c h p 1)]) n) := by
  refine propext ⟨?_, fun hh => ⟨c, h, p, rfl, hh⟩⟩
  rintro ⟨c', h', p', hh, rr⟩
  simp only [List.cons.injEq, DV.dat.injEq, PyData.tuple.injEq, PyData.int.injEq, PyData.list.injEq, fr_eq, natc_eq, and_true, true_and] at hh
  try simp only [hh]
  first | exact rr | (subst hh; exact rr)
theorem e_spots_after (c h p : Rat) (N : Nat) (n : Nat) (R : DV → Nat → Prop) : s_spots_after [FV c, FV h, FV p, IV (N : Int)] n R = (Ht c h ∧ Spt p ∧ N ≤ 1000 ∧ (∀ j, j ≤ N → B 4000 (c.den ^ j)) ∧ R (TV [.tuple (siD c h p N), .tuple (spD c h p N)]) n) := by
  refine propext ⟨?_, fun hh => ⟨c, h, p, N, rfl, hh⟩⟩
  rintro ⟨c', h', p', N', hh, rr⟩
  simp only [List.cons.injEq, DV.dat.injEq, PyData.tuple.injEq, PyData.int.injEq, PyData.list.injEq, fr_eq, natc_eq, and_true, true_and] at hh
  try simp only [hh]
  first | exact rr | (subst hh; exact rr)
theorem e_counts_after (c h p : Rat) (N : Nat) (n : Nat) (R : DV → Nat → Prop) : s_counts_after [FV c, FV h, FV p, IV (N : Int)] n R = (Ht c h ∧ Spt p ∧ N ≤ 1000 ∧ (∀ j, j ≤ N → B 4000 (c.den ^ j)) ∧ R (TV (cntD c h p (N + 1))) n) := by
  refine propext ⟨?_, fun hh => ⟨c, h, p, N, rfl, hh⟩⟩
  rintro ⟨c', h', p', N', hh, rr⟩
  simp only [List.cons.injEq, DV.dat.injEq, PyData.tuple.injEq, PyData.int.injEq, PyData.list.injEq, fr_eq, natc_eq, and_true, true_and] at hh
  try simp only [hh]
  first | exact rr | (subst hh; exact rr)
theorem e_later (c h p p' : Rat) (N : Nat) (n : Nat) (R : DV → Nat → Prop) : s_later [FV c, FV h, FV p, FV p', IV (N : Int)] n R = (Ht c h ∧ Spt p ∧ Spt p' ∧ N ≤ 1000 ∧ (∀ j, j ≤ N → B 4000 (c.den ^ j)) ∧ R (IV (sumSi c h p N - sumSi c h p' N)) n) := by
  refine propext ⟨?_, fun hh => ⟨c, h, p, p', N, rfl, hh⟩⟩
  rintro ⟨c', h', p', p'', N', hh, rr⟩
  simp only [List.cons.injEq, DV.dat.injEq, PyData.tuple.injEq, PyData.int.injEq, PyData.list.injEq, fr_eq, natc_eq, and_true, true_and] at hh
  try simp only [hh]
  first | exact rr | (subst hh; exact rr)
theorem p_next_spot (ds : List DV) (n : Nat) (R : DV → Nat → Prop) (hh : s_next_spot ds n R) : Goal t_next_spot 5 ds n R := by
  obtain ⟨c, h, p, rfl, A, P, k⟩ := hh
  simp only [Goal, t_next_spot, dSliceA, oCatA, dIsi, pR3, pR4, pR5, dSeq, dAsg, dVar, dC, dOp, dUn, dCB, dCall, dCallK, pId, pRev, dCons, dNil, dTup, dLst, dRet, dRetN, dIfS, dTest, dNot, dAnd, dOr, dIf, dAndV, dOrV, dNotV, dNext, dDrop, dUnp, setAll, dPar, dPar3, dTy, tyD, dChain, dChain3, oI, oI0, oGcd, oLen, oAbs, oInt, ixT_tup, ixL_lst, fr_at0, fr_at1, oNeg, oEq, oNe, oRepr, oEqS, oCat, oRepL, allD, dSliceL, dSliceT, oCatT, oIsN, oNotN, isNone_fr, isNone_non, isNone_tup, isNone_list, isNone_int, isNone_bool, dPart, dNoPart, dAsgOwn, dFreeze, dParO2, dParO3, dPeekT, dPeekI, dYes, oSum, oTupOf, oMin, oIsB, oNotB, oMax, oMinL, dParOD, dParDO, dAppend, entry, atI_0, atI_1, atI_2, atI_3, List.map_cons, List.map_nil, List.length_cons, List.length_nil, List.set_cons_zero, List.set_cons_succ, List.getElem?_cons_zero, List.getElem?_cons_succ, List.cons_append, List.nil_append, Nat.reduceAdd, Nat.reduceSub, Nat.reduceLeDiff, List.replicate, Bool.false_eq_true, if_false, if_true, ite_true, ite_false, true_and, and_true, Bool.not_true, Bool.not_false, decide_true, decide_false, e_need_cut]
  refine ⟨A, P, c, h, p, 1, rfl, by decide, A.zc, A.zh.mono (by decide), P.b.sz.mono (by decide), A.c0, A.ch, P.p0, P.p1, fun j hj => pow_le_B A (by omega), ?_⟩
  simp only [dSliceA, oCatA, dIsi, pR3, pR4, pR5, dSeq, dAsg, dVar, dC, dOp, dUn, dCB, dCall, dCallK, pId, pRev, dCons, dNil, dTup, dLst, dRet, dRetN, dIfS, dTest, dNot, dAnd, dOr, dIf, dAndV, dOrV, dNotV, dNext, dDrop, dUnp, setAll, dPar, dPar3, dTy, tyD, dChain, dChain3, oI, oI0, oGcd, oLen, oAbs, oInt, ixT_tup, ixL_lst, fr_at0, fr_at1, oNeg, oEq, oNe, oRepr, oEqS, oCat, oRepL, allD, dSliceL, dSliceT, oCatT, oIsN, oNotN, isNone_fr, isNone_non, isNone_tup, isNone_list, isNone_int, isNone_bool, dPart, dNoPart, dAsgOwn, dFreeze, dParO2, dParO3, dPeekT, dPeekI, dYes, oSum, oTupOf, oMin, oIsB, oNotB, oMax, oMinL, dParOD, dParDO, dAppend, entry, atI_0, atI_1, atI_2, atI_3, List.map_cons, List.map_nil, List.length_cons, List.length_nil, List.set_cons_zero, List.set_cons_succ, List.getElem?_cons_zero, List.getElem?_cons_succ, List.cons_append, List.nil_append, Nat.reduceAdd, Nat.reduceSub, Nat.reduceLeDiff, List.replicate, Bool.false_eq_true, if_false, if_true, ite_true, ite_false, true_and, and_true, Bool.not_true, Bool.not_false, decide_true, decide_false, siD_1, rwD_1, ixL_lst, ixT_tup, e_reduced]
  have bD := rdD_B (c := c) (j := 1) (A.zh.mono (by decide)) (P.b.sz.mono (by decide)) (pow_le_B A (by decide))
  obtain ⟨P0, P1⟩ := rdP_range (c := c) (h := h) P.p0 P.p1 1
  refine ⟨rdD_pos .., (bD.le (by omega)).mono (by decide), bD.mono (by decide), ?_⟩
  rw [rw_q]
  exact k
theorem rdD_B4 {c h p : Rat} {j : Nat} (zh : Sz 100 h) (zp : Sz 100 p) (hb : B 4000 (c.den ^ j)) : B 4200 (rdD c h p j).natAbs := by
  unfold rdD
  exact natAbs_mul_B (natAbs_mul_B (den_B zh) (den_B zp)) (pow_B hb)
theorem sp_sz {c h p : Rat} {j : Nat} (zh : Sz 100 h) (zp : Sz 100 p) (hb : B 4000 (c.den ^ j)) (p0 : 0 < p) (p1 : p ≤ 1) : Sz 4200 (sp c h p j) := by
  obtain ⟨P0, P1⟩ := rdP_range (c := c) (h := h) p0 p1 j
  have bD := rdD_B4 (c := c) zh zp hb
  rw [← rw_q]
  exact Sz.of_div (rdD_pos ..) (bD.le (by omega)) bD
theorem si_B {c h p : Rat} {j : Nat} (zh : Sz 100 h) (c0 : 0 < c) (ch : c ≤ h) (p0 : 0 < p) (p1 : p ≤ 1) : B 102 (si c h p j).natAbs := by
  have s1 := si_pos c0 ch p0 p1 j
  have hn : h ≤ ((h.num.natAbs : Int) : Rat) := by
    have h0 : 0 < h := by grind
    have n0 := (num_pos_iff h).2 h0
    have d1 := h.den_pos
    have dq := den_q h
    have e := q_den h
    have d1' : (1 : Rat) ≤ ((h.den : Int) : Rat) := by
      have : ((1 : Int) : Rat) ≤ ((h.den : Int) : Rat) := Rat.intCast_le_intCast.2 (by omega)
      simpa using this
    have nn : ((h.num.natAbs : Nat) : Int) = h.num := by omega
    rw [nn, ← e]
    have := Rat.mul_le_mul_of_nonneg_left d1' (Rat.le_of_lt h0)
    rw [Rat.mul_one] at this
    exact this
  have s2 := si_le c0 p0 p1 hn j
  have z := zh.n
  have e1 : (2 : Nat) ^ 102 = 4 * 2 ^ 100 := by decide
  unfold B at *
  omega
theorem less_h (t : Int) (h : Rat) : ((t * (h.den : Int) - h.num : Int) : Rat) / ((h.den : Int) : Rat) = (t : Rat) - h := by
  have e := q_den h
  have dq := den_q h
  rw [Rat.intCast_sub, Rat.intCast_mul, ← e]
  generalize ((h.den : Int) : Rat) = x at *
  have : x ≠ 0 := by grind
  grind
theorem p_spots_after (ds : List DV) (n : Nat) (R : DV → Nat → Prop) (hh : s_spots_after ds n R) : Goal t_spots_after 7 ds n R := by
  obtain ⟨c, h, p, N, rfl, A, P, hN, hb, k⟩ := hh
  simp only [Goal, t_spots_after, dForL, dSliceA, oCatA, dIsi, pR3, pR4, pR5, dSeq, dAsg, dVar, dC, dOp, dUn, dCB, dCall, dCallK, pId, pRev, dCons, dNil, dTup, dLst, dRet, dRetN, dIfS, dTest, dNot, dAnd, dOr, dIf, dAndV, dOrV, dNotV, dNext, dDrop, dUnp, setAll, dPar, dPar3, dTy, tyD, dChain, dChain3, oI, oI0, oGcd, oLen, oAbs, oInt, ixT_tup, ixL_lst, fr_at0, fr_at1, oNeg, oEq, oNe, oRepr, oEqS, oCat, oRepL, allD, dSliceL, dSliceT, oCatT, oIsN, oNotN, isNone_fr, isNone_non, isNone_tup, isNone_list, isNone_int, isNone_bool, dPart, dNoPart, dAsgOwn, dFreeze, dParO2, dParO3, dPeekT, dPeekI, dYes, oSum, oTupOf, oMin, oIsB, oNotB, oMax, oMinL, dParOD, dParDO, dAppend, entry, atI_0, atI_1, atI_2, atI_3, List.map_cons, List.map_nil, List.length_cons, List.length_nil, List.set_cons_zero, List.set_cons_succ, List.getElem?_cons_zero, List.getElem?_cons_succ, List.cons_append, List.nil_append, Nat.reduceAdd, Nat.reduceSub, Nat.reduceLeDiff, List.replicate, Bool.false_eq_true, if_false, if_true, ite_true, ite_false, true_and, and_true, Bool.not_true, Bool.not_false, decide_true, decide_false, e_need_cut, e_need_number]
  refine ⟨A, P, by omega, by omega, c, h, p, N, rfl, hN, A.zc, A.zh.mono (by decide), P.b.sz.mono (by decide), A.c0, A.ch, P.p0, P.p1, hb, ?_⟩
  simp only [dSliceA, oCatA, dIsi, pR3, pR4, pR5, dSeq, dAsg, dVar, dC, dOp, dUn, dCB, dCall, dCallK, pId, pRev, dCons, dNil, dTup, dLst, dRet, dRetN, dIfS, dTest, dNot, dAnd, dOr, dIf, dAndV, dOrV, dNotV, dNext, dDrop, dUnp, setAll, dPar, dPar3, dTy, tyD, dChain, dChain3, oI, oI0, oGcd, oLen, oAbs, oInt, ixT_tup, ixL_lst, fr_at0, fr_at1, oNeg, oEq, oNe, oRepr, oEqS, oCat, oRepL, allD, dSliceL, dSliceT, oCatT, oIsN, oNotN, isNone_fr, isNone_non, isNone_tup, isNone_list, isNone_int, isNone_bool, dPart, dNoPart, dAsgOwn, dFreeze, dParO2, dParO3, dPeekT, dPeekI, dYes, oSum, oTupOf, oMin, oIsB, oNotB, oMax, oMinL, dParOD, dParDO, dAppend, entry, atI_0, atI_1, atI_2, atI_3, List.map_cons, List.map_nil, List.length_cons, List.length_nil, List.set_cons_zero, List.set_cons_succ, List.getElem?_cons_zero, List.getElem?_cons_succ, List.cons_append, List.nil_append, Nat.reduceAdd, Nat.reduceSub, Nat.reduceLeDiff, List.replicate, Bool.false_eq_true, if_false, if_true, ite_true, ite_false, true_and, and_true, Bool.not_true, Bool.not_false, decide_true, decide_false]
  refine ⟨fun i env m => m = n ∧ ∃ o6, env = [some (FV c), some (FV h), some (FV (sp c h p i)), some (IV (N : Int)), some (.dat (.list (siD c h p N))), some (.own (spD c h p i)), o6], ⟨rfl, none, rfl⟩, ?_, ?_⟩
  · rintro i d env m hd ⟨rfl, o6, rfl⟩
    obtain ⟨hi, rfl⟩ := siD_get hd
    have zs : Sz 4200 (sp c h p i) := sp_sz A.zh P.b.sz (hb i (by omega)) P.p0 P.p1
    have bs : B 102 (si c h p i).natAbs := si_B A.zh A.c0 A.ch P.p0 P.p1
    have zl : Sz 303 ((si c h p i : Rat) - h) := by
      rw [← less_h]
      exact Sz.of_div (den_pos h) (natAbs_sub_B (natAbs_mul_B bs (den_B A.zh)) A.zh.n) ((den_B A.zh).mono (by decide))
    simp only [dSliceA, oCatA, dIsi, pR3, pR4, pR5, dSeq, dAsg, dVar, dC, dOp, dUn, dCB, dCall, dCallK, pId, pRev, dCons, dNil, dTup, dLst, dRet, dRetN, dIfS, dTest, dNot, dAnd, dOr, dIf, dAndV, dOrV, dNotV, dNext, dDrop, dUnp, setAll, dPar, dPar3, dTy, tyD, dChain, dChain3, oI, oI0, oGcd, oLen, oAbs, oInt, ixT_tup, ixL_lst, fr_at0, fr_at1, oNeg, oEq, oNe, oRepr, oEqS, oCat, oRepL, allD, dSliceL, dSliceT, oCatT, oIsN, oNotN, isNone_fr, isNone_non, isNone_tup, isNone_list, isNone_int, isNone_bool, dPart, dNoPart, dAsgOwn, dFreeze, dParO2, dParO3, dPeekT, dPeekI, dYes, oSum, oTupOf, oMin, oIsB, oNotB, oMax, oMinL, dParOD, dParDO, dAppend, entry, atI_0, atI_1, atI_2, atI_3, List.map_cons, List.map_nil, List.length_cons, List.length_nil, List.set_cons_zero, List.set_cons_succ, List.getElem?_cons_zero, List.getElem?_cons_succ, List.cons_append, List.nil_append, Nat.reduceAdd, Nat.reduceSub, Nat.reduceLeDiff, List.replicate, Bool.false_eq_true, if_false, if_true, ite_true, ite_false, true_and, and_true, Bool.not_true, Bool.not_false, decide_true, decide_false, e_reduced, e_product_of, e_sum_of]
    have ex : c * sp c h p i + ((si c h p i : Rat) - h) = sp c h p (i + 1) := by
      show _ = nx1 c h (sp c h p i)
      unfold nx1
      show _ = c * sp c h p i - h + ((si c h p i : Int) : Rat)
      grind
    rw [less_h, ex, spD_succ, spD_len]
    exact ⟨A.zc.mono (by decide), zs.mono (by decide), mulB bs (den_B A.zh) (by decide), den_pos h, (natAbs_sub_B (natAbs_mul_B bs (den_B A.zh)) A.zh.n).mono (by decide), (den_B A.zh).mono (by decide), (A.zc.mul zs).mono (by decide), zl.mono (by decide), by omega, _, rfl⟩
  · rintro env m ⟨rfl, o6, rfl⟩
    rw [siD_len]
    simp only [dSliceA, oCatA, dIsi, pR3, pR4, pR5, dSeq, dAsg, dVar, dC, dOp, dUn, dCB, dCall, dCallK, pId, pRev, dCons, dNil, dTup, dLst, dRet, dRetN, dIfS, dTest, dNot, dAnd, dOr, dIf, dAndV, dOrV, dNotV, dNext, dDrop, dUnp, setAll, dPar, dPar3, dTy, tyD, dChain, dChain3, oI, oI0, oGcd, oLen, oAbs, oInt, ixT_tup, ixL_lst, fr_at0, fr_at1, oNeg, oEq, oNe, oRepr, oEqS, oCat, oRepL, allD, dSliceL, dSliceT, oCatT, oIsN, oNotN, isNone_fr, isNone_non, isNone_tup, isNone_list, isNone_int, isNone_bool, dPart, dNoPart, dAsgOwn, dFreeze, dParO2, dParO3, dPeekT, dPeekI, dYes, oSum, oTupOf, oMin, oIsB, oNotB, oMax, oMinL, dParOD, dParDO, dAppend, entry, atI_0, atI_1, atI_2, atI_3, List.map_cons, List.map_nil, List.length_cons, List.length_nil, List.set_cons_zero, List.set_cons_succ, List.getElem?_cons_zero, List.getElem?_cons_succ, List.cons_append, List.nil_append, Nat.reduceAdd, Nat.reduceSub, Nat.reduceLeDiff, List.replicate, Bool.false_eq_true, if_false, if_true, ite_true, ite_false, true_and, and_true, Bool.not_true, Bool.not_false, decide_true, decide_false]
    exact k
theorem p_counts_after (ds : List DV) (n : Nat) (R : DV → Nat → Prop) (hh : s_counts_after ds n R) : Goal t_counts_after 7 ds n R := by
  obtain ⟨c, h, p, N, rfl, A, P, hN, hb, k⟩ := hh
  simp only [Goal, t_counts_after, dForL, dSliceA, oCatA, dIsi, pR3, pR4, pR5, dSeq, dAsg, dVar, dC, dOp, dUn, dCB, dCall, dCallK, pId, pRev, dCons, dNil, dTup, dLst, dRet, dRetN, dIfS, dTest, dNot, dAnd, dOr, dIf, dAndV, dOrV, dNotV, dNext, dDrop, dUnp, setAll, dPar, dPar3, dTy, tyD, dChain, dChain3, oI, oI0, oGcd, oLen, oAbs, oInt, ixT_tup, ixL_lst, fr_at0, fr_at1, oNeg, oEq, oNe, oRepr, oEqS, oCat, oRepL, allD, dSliceL, dSliceT, oCatT, oIsN, oNotN, isNone_fr, isNone_non, isNone_tup, isNone_list, isNone_int, isNone_bool, dPart, dNoPart, dAsgOwn, dFreeze, dParO2, dParO3, dPeekT, dPeekI, dYes, oSum, oTupOf, oMin, oIsB, oNotB, oMax, oMinL, dParOD, dParDO, dAppend, entry, atI_0, atI_1, atI_2, atI_3, List.map_cons, List.map_nil, List.length_cons, List.length_nil, List.set_cons_zero, List.set_cons_succ, List.getElem?_cons_zero, List.getElem?_cons_succ, List.cons_append, List.nil_append, Nat.reduceAdd, Nat.reduceSub, Nat.reduceLeDiff, List.replicate, Bool.false_eq_true, if_false, if_true, ite_true, ite_false, true_and, and_true, Bool.not_true, Bool.not_false, decide_true, decide_false, e_need_cut, e_need_number]
  refine ⟨A, P, by omega, by omega, c, h, p, N, rfl, by omega, A.zc, A.zh.mono (by decide), P.b.sz.mono (by decide), A.c0, A.ch, P.p0, P.p1, hb, ?_⟩
  simp only [dSliceA, oCatA, dIsi, pR3, pR4, pR5, dSeq, dAsg, dVar, dC, dOp, dUn, dCB, dCall, dCallK, pId, pRev, dCons, dNil, dTup, dLst, dRet, dRetN, dIfS, dTest, dNot, dAnd, dOr, dIf, dAndV, dOrV, dNotV, dNext, dDrop, dUnp, setAll, dPar, dPar3, dTy, tyD, dChain, dChain3, oI, oI0, oGcd, oLen, oAbs, oInt, ixT_tup, ixL_lst, fr_at0, fr_at1, oNeg, oEq, oNe, oRepr, oEqS, oCat, oRepL, allD, dSliceL, dSliceT, oCatT, oIsN, oNotN, isNone_fr, isNone_non, isNone_tup, isNone_list, isNone_int, isNone_bool, dPart, dNoPart, dAsgOwn, dFreeze, dParO2, dParO3, dPeekT, dPeekI, dYes, oSum, oTupOf, oMin, oIsB, oNotB, oMax, oMinL, dParOD, dParDO, dAppend, entry, atI_0, atI_1, atI_2, atI_3, List.map_cons, List.map_nil, List.length_cons, List.length_nil, List.set_cons_zero, List.set_cons_succ, List.getElem?_cons_zero, List.getElem?_cons_succ, List.cons_append, List.nil_append, Nat.reduceAdd, Nat.reduceSub, Nat.reduceLeDiff, List.replicate, Bool.false_eq_true, if_false, if_true, ite_true, ite_false, true_and, and_true, Bool.not_true, Bool.not_false, decide_true, decide_false]
  refine ⟨fun i env m => m = n ∧ ∃ o6, env = [some (FV c), some (FV h), some (FV p), some (IV (N : Int)), some (IV (sumSi c h p i)), some (.own (cntD c h p (i + 1))), o6], ⟨rfl, none, rfl⟩, ?_, ?_⟩
  · rintro i d env m hd ⟨rfl, o6, rfl⟩
    obtain ⟨hi, rfl⟩ := siD_get hd
    simp only [dSliceA, oCatA, dIsi, pR3, pR4, pR5, dSeq, dAsg, dVar, dC, dOp, dUn, dCB, dCall, dCallK, pId, pRev, dCons, dNil, dTup, dLst, dRet, dRetN, dIfS, dTest, dNot, dAnd, dOr, dIf, dAndV, dOrV, dNotV, dNext, dDrop, dUnp, setAll, dPar, dPar3, dTy, tyD, dChain, dChain3, oI, oI0, oGcd, oLen, oAbs, oInt, ixT_tup, ixL_lst, fr_at0, fr_at1, oNeg, oEq, oNe, oRepr, oEqS, oCat, oRepL, allD, dSliceL, dSliceT, oCatT, oIsN, oNotN, isNone_fr, isNone_non, isNone_tup, isNone_list, isNone_int, isNone_bool, dPart, dNoPart, dAsgOwn, dFreeze, dParO2, dParO3, dPeekT, dPeekI, dYes, oSum, oTupOf, oMin, oIsB, oNotB, oMax, oMinL, dParOD, dParDO, dAppend, entry, atI_0, atI_1, atI_2, atI_3, List.map_cons, List.map_nil, List.length_cons, List.length_nil, List.set_cons_zero, List.set_cons_succ, List.getElem?_cons_zero, List.getElem?_cons_succ, List.cons_append, List.nil_append, Nat.reduceAdd, Nat.reduceSub, Nat.reduceLeDiff, List.replicate, Bool.false_eq_true, if_false, if_true, ite_true, ite_false, true_and, and_true, Bool.not_true, Bool.not_false, decide_true, decide_false, cntD_len]
    have e : sumSi c h p i + si c h p i = sumSi c h p (i + 1) := rfl
    rw [e, cntD_succ]
    exact ⟨by omega, _, rfl⟩
  · rintro env m ⟨rfl, o6, rfl⟩
    rw [siD_len]
    simp only [dSliceA, oCatA, dIsi, pR3, pR4, pR5, dSeq, dAsg, dVar, dC, dOp, dUn, dCB, dCall, dCallK, pId, pRev, dCons, dNil, dTup, dLst, dRet, dRetN, dIfS, dTest, dNot, dAnd, dOr, dIf, dAndV, dOrV, dNotV, dNext, dDrop, dUnp, setAll, dPar, dPar3, dTy, tyD, dChain, dChain3, oI, oI0, oGcd, oLen, oAbs, oInt, ixT_tup, ixL_lst, fr_at0, fr_at1, oNeg, oEq, oNe, oRepr, oEqS, oCat, oRepL, allD, dSliceL, dSliceT, oCatT, oIsN, oNotN, isNone_fr, isNone_non, isNone_tup, isNone_list, isNone_int, isNone_bool, dPart, dNoPart, dAsgOwn, dFreeze, dParO2, dParO3, dPeekT, dPeekI, dYes, oSum, oTupOf, oMin, oIsB, oNotB, oMax, oMinL, dParOD, dParDO, dAppend, entry, atI_0, atI_1, atI_2, atI_3, List.map_cons, List.map_nil, List.length_cons, List.length_nil, List.set_cons_zero, List.set_cons_succ, List.getElem?_cons_zero, List.getElem?_cons_succ, List.cons_append, List.nil_append, Nat.reduceAdd, Nat.reduceSub, Nat.reduceLeDiff, List.replicate, Bool.false_eq_true, if_false, if_true, ite_true, ite_false, true_and, and_true, Bool.not_true, Bool.not_false, decide_true, decide_false]
    exact k
theorem p_later (ds : List DV) (n : Nat) (R : DV → Nat → Prop) (hh : s_later ds n R) : Goal t_later 6 ds n R := by
  obtain ⟨c, h, p, p', N, rfl, A, P, P', hN, hb, k⟩ := hh
  simp only [Goal, t_later, dSliceA, oCatA, dIsi, pR3, pR4, pR5, dSeq, dAsg, dVar, dC, dOp, dUn, dCB, dCall, dCallK, pId, pRev, dCons, dNil, dTup, dLst, dRet, dRetN, dIfS, dTest, dNot, dAnd, dOr, dIf, dAndV, dOrV, dNotV, dNext, dDrop, dUnp, setAll, dPar, dPar3, dTy, tyD, dChain, dChain3, oI, oI0, oGcd, oLen, oAbs, oInt, ixT_tup, ixL_lst, fr_at0, fr_at1, oNeg, oEq, oNe, oRepr, oEqS, oCat, oRepL, allD, dSliceL, dSliceT, oCatT, oIsN, oNotN, isNone_fr, isNone_non, isNone_tup, isNone_list, isNone_int, isNone_bool, dPart, dNoPart, dAsgOwn, dFreeze, dParO2, dParO3, dPeekT, dPeekI, dYes, oSum, oTupOf, oMin, oIsB, oNotB, oMax, oMinL, dParOD, dParDO, dAppend, entry, atI_0, atI_1, atI_2, atI_3, List.map_cons, List.map_nil, List.length_cons, List.length_nil, List.set_cons_zero, List.set_cons_succ, List.getElem?_cons_zero, List.getElem?_cons_succ, List.cons_append, List.nil_append, Nat.reduceAdd, Nat.reduceSub, Nat.reduceLeDiff, List.replicate, Bool.false_eq_true, if_false, if_true, ite_true, ite_false, true_and, and_true, Bool.not_true, Bool.not_false, decide_true, decide_false, e_need_cut, e_need_number, e_need_spot]
  refine ⟨A, P, P'.b, P'.p0, P'.p1, by omega, by omega, c, h, p, N, rfl, hN, A.zc, A.zh.mono (by decide), P.b.sz.mono (by decide), A.c0, A.ch, P.p0, P.p1, hb, ?_⟩
  simp only [dSliceA, oCatA, dIsi, pR3, pR4, pR5, dSeq, dAsg, dVar, dC, dOp, dUn, dCB, dCall, dCallK, pId, pRev, dCons, dNil, dTup, dLst, dRet, dRetN, dIfS, dTest, dNot, dAnd, dOr, dIf, dAndV, dOrV, dNotV, dNext, dDrop, dUnp, setAll, dPar, dPar3, dTy, tyD, dChain, dChain3, oI, oI0, oGcd, oLen, oAbs, oInt, ixT_tup, ixL_lst, fr_at0, fr_at1, oNeg, oEq, oNe, oRepr, oEqS, oCat, oRepL, allD, dSliceL, dSliceT, oCatT, oIsN, oNotN, isNone_fr, isNone_non, isNone_tup, isNone_list, isNone_int, isNone_bool, dPart, dNoPart, dAsgOwn, dFreeze, dParO2, dParO3, dPeekT, dPeekI, dYes, oSum, oTupOf, oMin, oIsB, oNotB, oMax, oMinL, dParOD, dParDO, dAppend, entry, atI_0, atI_1, atI_2, atI_3, List.map_cons, List.map_nil, List.length_cons, List.length_nil, List.set_cons_zero, List.set_cons_succ, List.getElem?_cons_zero, List.getElem?_cons_succ, List.cons_append, List.nil_append, Nat.reduceAdd, Nat.reduceSub, Nat.reduceLeDiff, List.replicate, Bool.false_eq_true, if_false, if_true, ite_true, ite_false, true_and, and_true, Bool.not_true, Bool.not_false, decide_true, decide_false]
  refine ⟨_, siD_ints .., c, h, p', N, rfl, hN, A.zc, A.zh.mono (by decide), P'.b.sz.mono (by decide), A.c0, A.ch, P'.p0, P'.p1, hb, ?_⟩
  simp only [dSliceA, oCatA, dIsi, pR3, pR4, pR5, dSeq, dAsg, dVar, dC, dOp, dUn, dCB, dCall, dCallK, pId, pRev, dCons, dNil, dTup, dLst, dRet, dRetN, dIfS, dTest, dNot, dAnd, dOr, dIf, dAndV, dOrV, dNotV, dNext, dDrop, dUnp, setAll, dPar, dPar3, dTy, tyD, dChain, dChain3, oI, oI0, oGcd, oLen, oAbs, oInt, ixT_tup, ixL_lst, fr_at0, fr_at1, oNeg, oEq, oNe, oRepr, oEqS, oCat, oRepL, allD, dSliceL, dSliceT, oCatT, oIsN, oNotN, isNone_fr, isNone_non, isNone_tup, isNone_list, isNone_int, isNone_bool, dPart, dNoPart, dAsgOwn, dFreeze, dParO2, dParO3, dPeekT, dPeekI, dYes, oSum, oTupOf, oMin, oIsB, oNotB, oMax, oMinL, dParOD, dParDO, dAppend, entry, atI_0, atI_1, atI_2, atI_3, List.map_cons, List.map_nil, List.length_cons, List.length_nil, List.set_cons_zero, List.set_cons_succ, List.getElem?_cons_zero, List.getElem?_cons_succ, List.cons_append, List.nil_append, Nat.reduceAdd, Nat.reduceSub, Nat.reduceLeDiff, List.replicate, Bool.false_eq_true, if_false, if_true, ite_true, ite_false, true_and, and_true, Bool.not_true, Bool.not_false, decide_true, decide_false]
  refine ⟨_, siD_ints .., ?_⟩
  rw [siD_sum, siD_sum]
  exact k
end Sx

set_option Elab.async false
set_option linter.all false
set_option maxRecDepth 100000
set_option maxHeartbeats 4000000
/-! Sq2: loops whose bodies stay folded -/
namespace Sx
open PySem PySem.Spec L2
theorem forR_go {i : Nat} {lim : Int} {N : Nat} {body rest : DTS} {F : DEnds} {env : En} {n : Nat} (e : lim = (N : Int)) (hN : N < 2 ^ 62) (I : Nat → En → Nat → Prop) (h0 : I 0 env n)
    (hS : ∀ k env n, k < N → I k env n → body { F with nx := I (k + 1), ct := I (k + 1), bk := rest F } (env.set i (some (IV (k : Int)))) n) (hE : ∀ env n, I N env n → rest F env n) : dSeq (dForR i (dC (.int lim)) body) rest F env n := by
  subst e
  refine ⟨⟨by omega, by omega⟩, I, h0, fun k env n hk => ?_, fun env n => ?_⟩
  · exact hS k env n (by simpa using hk)
  · simpa using hE env n
theorem forT_go {i : Nat} {ta : DT} {tb : DTS} {F : DEnds} {env : En} {n : Nat} (ds : List PyData) (n1 : Nat) (I : Nat → En → Nat → Prop) (h : ∀ R : DV → Nat → Prop, R (TV ds) n1 → ta env n R) (h0 : I 0 env n1)
    (hS : ∀ k d env n, ds[k]? = some d → I k env n → tb { F with nx := I (k + 1), ct := I (k + 1), bk := F.nx } (env.set i (some (.dat d))) n) (hE : ∀ env n, I ds.length env n → F.nx env n) : dForT i ta tb F env n :=
  h _ ⟨I, h0, hS, hE⟩
theorem forL_go {i : Nat} {ta : DT} {tb : DTS} {F : DEnds} {env : En} {n : Nat} (ds : List PyData) (n1 : Nat) (I : Nat → En → Nat → Prop) (h : ∀ R : DV → Nat → Prop, R (LV ds) n1 → ta env n R) (h0 : I 0 env n1)
    (hS : ∀ k d env n, ds[k]? = some d → I k env n → tb { F with nx := I (k + 1), ct := I (k + 1), bk := F.nx } (env.set i (some (.dat d))) n) (hE : ∀ env n, I ds.length env n → F.nx env n) : dForL i ta tb F env n :=
  h _ ⟨I, h0, hS, hE⟩
theorem forR2_go {i : Nat} {tl : DTA} {tb : DTS} {F : DEnds} {env : En} {n : Nat} (a b : Int) (n1 : Nat) (I : Nat → En → Nat → Prop) (h : ∀ R : List DV → Nat → Prop, R [IV a, IV b] n1 → tl env n R) (hb : -(2 ^ 62) ≤ a ∧ a < 2 ^ 62 ∧ -(2 ^ 62) ≤ b ∧ b < 2 ^ 62) (h0 : I 0 env n1)
    (hS : ∀ (k : Nat) env n, (k : Int) < b - a → I k env n → tb { F with nx := I (k + 1), ct := I (k + 1), bk := F.nx } (env.set i (some (IV (a + (k : Int))))) n) (hE : ∀ env n, I (b - a).toNat env n → F.nx env n) : dForR2 i tl tb F env n :=
  h _ ⟨hb, I, h0, fun k env n hk => hS k env n (by omega), hE⟩
theorem forRg_go {i : Nat} {ta : DT} {tb : DTS} {F : DEnds} {env : En} {n : Nat} (N : Nat) (n1 : Nat) (I : Nat → En → Nat → Prop) (hN : N < 2 ^ 62) (h : ∀ R : DV → Nat → Prop, R (IV (N : Int)) n1 → ta env n R) (h0 : I 0 env n1)
    (hS : ∀ k env n, k < N → I k env n → tb { F with nx := I (k + 1), ct := I (k + 1), bk := F.nx } (env.set i (some (IV (k : Int)))) n) (hE : ∀ env n, I N env n → F.nx env n) : dForR i ta tb F env n := by
  refine h _ ⟨⟨by omega, by omega⟩, I, h0, fun k env n hk => ?_, fun env n => ?_⟩
  · exact hS k env n (by simpa using hk)
  · simpa using hE env n
end Sx

set_option Elab.async false
set_option linter.all false
set_option maxRecDepth 100000
set_option maxHeartbeats 4000000
/-! Sr3: the package's ticks: first ticks, one tick, many of them -/
namespace Sx
open PySem PySem.Spec L2
theorem one_rat : ((1 : Int) : Rat) = 1 := rfl
theorem cut_iff (z : Rat) (i : Int) : 0 < z + (i : Rat) ↔ 1 - upQ z ≤ i := by
  have d1 := upQ_ge z
  have d2 := upQ_lt z
  constructor
  · intro h
    have : ((-i : Int) : Rat) < (upQ z : Rat) := by rw [Rat.intCast_neg]; grind
    have := Rat.intCast_lt_intCast.1 this
    omega
  · intro h
    have : ((-i + 1 : Int) : Rat) ≤ (upQ z : Rat) := Rat.intCast_le_intCast.2 (by omega)
    rw [Rat.intCast_add, Rat.intCast_neg, one_rat] at this
    grind
/-- the least whole number above -/
def ftT (w : Rat) : Int := 1 - upQ (-w)
theorem ftT_gt (w : Rat) : w < (ftT w : Rat) := by
  have := upQ_lt (-w)
  unfold ftT
  rw [Rat.intCast_sub, one_rat]
  grind
theorem ftT_le (w : Rat) : (ftT w : Rat) ≤ w + 1 := by
  have := upQ_ge (-w)
  unfold ftT
  rw [Rat.intCast_sub, one_rat]
  grind
theorem ftT_pos {w : Rat} (h : 0 ≤ w) : 1 ≤ ftT w := by
  have := ftT_gt w
  have : (0 : Rat) < (ftT w : Rat) := by grind
  have := Rat.intCast_pos.1 this
  omega
theorem floor_ft (q : Rat) : q.num / (q.den : Int) + 1 = ftT q := floor_of_up (by have := q.den_pos; omega) q (q_den q).symm
theorem fr_int_sub (t : Int) (q : Rat) : PyData.tuple [.int (t * (q.den : Int) - q.num), .int (q.den : Int)] = fr ((t : Rat) - q) := by
  have dp : (0 : Int) < (q.den : Int) := by have := q.den_pos; omega
  have e : ((t * (q.den : Int) - q.num : Int) : Rat) / ((q.den : Int) : Rat) = (t : Rat) - q := by
    have h := q_den q
    have d := den_q q
    rw [Rat.intCast_sub, Rat.intCast_mul, ← h]
    have : ((q.den : Int) : Rat) ≠ 0 := by grind
    generalize ((q.den : Int) : Rat) = x at *
    grind
  obtain ⟨e1, e2⟩ := red (a := t * (q.den : Int) - q.num) dp
  have g1 : Nat.gcd (t * (q.den : Int) - q.num).natAbs ((q.den : Nat) : Int).natAbs = 1 := by
    have hb : ((q.den : Nat) : Int).natAbs = q.den := by simp
    rw [hb]
    refine Nat.eq_one_of_dvd_one ?_
    have r := q.reduced
    have a1 : (Nat.gcd (t * (q.den : Int) - q.num).natAbs q.den) ∣ q.den := Nat.gcd_dvd_right ..
    have a2 : ((Nat.gcd (t * (q.den : Int) - q.num).natAbs q.den : Nat) : Int) ∣ (t * (q.den : Int) - q.num) := Int.ofNat_dvd_left.2 (Nat.gcd_dvd_left ..)
    have a3 : ((Nat.gcd (t * (q.den : Int) - q.num).natAbs q.den : Nat) : Int) ∣ q.num := by
      have b1 : ((Nat.gcd (t * (q.den : Int) - q.num).natAbs q.den : Nat) : Int) ∣ t * (q.den : Int) := Int.dvd_mul_of_dvd_right (Int.ofNat_dvd.2 a1)
      have := Int.dvd_sub b1 a2
      have e3 : t * (q.den : Int) - (t * (q.den : Int) - q.num) = q.num := by omega
      rwa [e3] at this
    have a4 := Nat.dvd_gcd (Int.ofNat_dvd_left.1 a3) a1
    rw [r] at a4
    exact a4
  rw [e, g1] at e1 e2
  refine fr_of ?_ ?_
  · rw [e1]; simp
  · rw [e2]; simp
def s_need_start : DSp := fun ds n R => ∃ l s c k v : Rat, ds = [SV l s c k, FV v] ∧ Rule l s c k ∧ Bd v ∧ v ≤ l ∧ R (FV v) n
def s_floor_down : DSp := fun ds n R => ∃ q : Rat, ds = [FV q] ∧ Sz 2000 q ∧ R (IV (ftT q - 1)) n
def s_first_cut : DSp := fun ds n R => ∃ l s c k v : Rat, ds = [SV l s c k, FV v] ∧ Sz 100 l ∧ Sz 100 s ∧ Sz 100 v ∧ 0 < s ∧ v ≤ l ∧ R (TV [.int (ftT ((l - v) / s)), fr ((ftT ((l - v) / s) : Rat) - (l - v) / s)]) n
def s_first_ticks : DSp := fun ds n R => ∃ l s c k v : Rat, ds = [SV l s c k, FV v] ∧ Rule l s c k ∧ Bd v ∧ v ≤ l ∧ R (TV [.int (ftT ((l - v) / s)), fr ((ftT ((l - v) / s) : Rat) - (l - v) / s)]) n
def s_ticked : DSp := fun ds n R => ∃ l s c k v : Rat, ds = [SV l s c k, FV v] ∧ Sz 100 l ∧ Sz 100 s ∧ Sz 100 c ∧ Sz 100 k ∧ Sz 3000 v ∧ R (TV [fr (tk l s c k v), .bool (decide (l < v + s))]) n
def s_tick : DSp := fun ds n R => ∃ l s c k v : Rat, ds = [SV l s c k, FV v] ∧ Rule l s c k ∧ Bd v ∧ v ≤ l ∧ R (TV [fr (tk l s c k v), .bool (decide (l < v + s))]) n
/-- need_start. Slots: setting, start, limit -/
def t_need_start : DTS :=
  (dSeq (dAsg 2 (dOp oIxT (dCall s_need_setting (dCons (dVar 0) dNil)) (dC (.int 0))))
  (dSeq (dIfS (dOr (dNot (dTest (dCall s_is_fraction (dCons (dVar 1) dNil)))) (dTest (dCall s_is_less (dCons (dVar 2) (dCons (dVar 1) dNil))))) dNever dNext)
  (dRet (dVar 1))))
/-- floor_down. Slots: one -/
def t_floor_down : DTS :=
  (dRet (dOp oDiv (dOp oIxT (dVar 0) (dC (.int 0))) (dOp oIxT (dVar 0) (dC (.int 1)))))
/-- first_cut. Slots: setting, start, way, ticks -/
def t_first_cut : DTS :=
  (dSeq (dAsg 2 (dCall s_quotient_of (dCons (dCall s_difference_of (dCons (dOp oIxT (dVar 0) (dC (.int 0))) (dCons (dVar 1) dNil))) (dCons (dOp oIxT (dVar 0) (dC (.int 1))) dNil))))
  (dSeq (dAsg 3 (dOp oAdd (dCall s_floor_down (dCons (dVar 2) dNil)) (dC (.int 1))))
  (dRet (dTup (dCons (dVar 3) (dCons (dTup (dCons (dOp oSub (dOp oMul (dVar 3) (dOp oIxT (dVar 2) (dC (.int 1)))) (dOp oIxT (dVar 2) (dC (.int 0)))) (dCons (dOp oIxT (dVar 2) (dC (.int 1))) dNil))) dNil))))))
/-- first_ticks. Slots: setting, start -/
def t_first_ticks : DTS :=
  (dSeq (dDrop (dCall s_need_start (dCons (dVar 0) (dCons (dVar 1) dNil))))
  (dRet (dCall s_first_cut (dCons (dVar 0) (dCons (dVar 1) dNil)))))
/-- ticked. Slots: setting, level, limit, step, part, keep, risen -/
def t_ticked : DTS :=
  (dSeq (dUnp [2, 3, 4, 5] (dVar 0))
  (dSeq (dAsg 6 (dCall s_sum_of (dCons (dVar 1) (dCons (dVar 3) dNil))))
  (dSeq (dIfS (dTest (dCall s_is_less (dCons (dVar 2) (dCons (dVar 6) dNil)))) (dRet (dTup (dCons (dCall s_level_cut (dCons (dVar 4) (dCons (dVar 5) (dCons (dVar 6) dNil)))) (dCons (dC (.bool true)) dNil)))) dNext)
  (dRet (dTup (dCons (dVar 6) (dCons (dC (.bool false)) dNil)))))))
/-- tick. Slots: setting, level -/
def t_tick : DTS :=
  (dSeq (dDrop (dCall s_need_start (dCons (dVar 0) (dCons (dVar 1) dNil))))
  (dRet (dCall s_ticked (dCons (dVar 0) (dCons (dVar 1) dNil)))))
theorem e_need_start (l s c k v : Rat) (n : Nat) (R : DV → Nat → Prop) : s_need_start [SV l s c k, FV v] n R = (Rule l s c k ∧ Bd v ∧ v ≤ l ∧ R (FV v) n) := by
  refine propext ⟨?_, fun hh => ⟨l, s, c, k, v, rfl, hh⟩⟩
  rintro ⟨l', s', c', k', v', hh, rr⟩
  simp only [List.cons.injEq, DV.dat.injEq, PyData.tuple.injEq, PyData.int.injEq, PyData.list.injEq, fr_eq, natc_eq, and_true, true_and] at hh
  try simp only [hh]
  first | exact rr | (subst hh; exact rr)
theorem e_floor_down (q : Rat) (n : Nat) (R : DV → Nat → Prop) : s_floor_down [FV q] n R = (Sz 2000 q ∧ R (IV (ftT q - 1)) n) := by
  refine propext ⟨?_, fun hh => ⟨q, rfl, hh⟩⟩
  rintro ⟨q', hh, rr⟩
  simp only [List.cons.injEq, DV.dat.injEq, PyData.tuple.injEq, PyData.int.injEq, PyData.list.injEq, fr_eq, natc_eq, and_true, true_and] at hh
  try simp only [hh]
  first | exact rr | (subst hh; exact rr)
theorem e_first_cut (l s c k v : Rat) (n : Nat) (R : DV → Nat → Prop) : s_first_cut [SV l s c k, FV v] n R = (Sz 100 l ∧ Sz 100 s ∧ Sz 100 v ∧ 0 < s ∧ v ≤ l ∧ R (TV [.int (ftT ((l - v) / s)), fr ((ftT ((l - v) / s) : Rat) - (l - v) / s)]) n) := by
  refine propext ⟨?_, fun hh => ⟨l, s, c, k, v, rfl, hh⟩⟩
  rintro ⟨l', s', c', k', v', hh, rr⟩
  simp only [List.cons.injEq, DV.dat.injEq, PyData.tuple.injEq, PyData.int.injEq, PyData.list.injEq, fr_eq, natc_eq, and_true, true_and] at hh
  try simp only [hh]
  first | exact rr | (subst hh; exact rr)
theorem e_first_ticks (l s c k v : Rat) (n : Nat) (R : DV → Nat → Prop) : s_first_ticks [SV l s c k, FV v] n R = (Rule l s c k ∧ Bd v ∧ v ≤ l ∧ R (TV [.int (ftT ((l - v) / s)), fr ((ftT ((l - v) / s) : Rat) - (l - v) / s)]) n) := by
  refine propext ⟨?_, fun hh => ⟨l, s, c, k, v, rfl, hh⟩⟩
  rintro ⟨l', s', c', k', v', hh, rr⟩
  simp only [List.cons.injEq, DV.dat.injEq, PyData.tuple.injEq, PyData.int.injEq, PyData.list.injEq, fr_eq, natc_eq, and_true, true_and] at hh
  try simp only [hh]
  first | exact rr | (subst hh; exact rr)
theorem e_ticked (l s c k v : Rat) (n : Nat) (R : DV → Nat → Prop) : s_ticked [SV l s c k, FV v] n R = (Sz 100 l ∧ Sz 100 s ∧ Sz 100 c ∧ Sz 100 k ∧ Sz 3000 v ∧ R (TV [fr (tk l s c k v), .bool (decide (l < v + s))]) n) := by
  refine propext ⟨?_, fun hh => ⟨l, s, c, k, v, rfl, hh⟩⟩
  rintro ⟨l', s', c', k', v', hh, rr⟩
  simp only [List.cons.injEq, DV.dat.injEq, PyData.tuple.injEq, PyData.int.injEq, PyData.list.injEq, fr_eq, natc_eq, and_true, true_and] at hh
  try simp only [hh]
  first | exact rr | (subst hh; exact rr)
theorem e_tick (l s c k v : Rat) (n : Nat) (R : DV → Nat → Prop) : s_tick [SV l s c k, FV v] n R = (Rule l s c k ∧ Bd v ∧ v ≤ l ∧ R (TV [fr (tk l s c k v), .bool (decide (l < v + s))]) n) := by
  refine propext ⟨?_, fun hh => ⟨l, s, c, k, v, rfl, hh⟩⟩
  rintro ⟨l', s', c', k', v', hh, rr⟩
  simp only [List.cons.injEq, DV.dat.injEq, PyData.tuple.injEq, PyData.int.injEq, PyData.list.injEq, fr_eq, natc_eq, and_true, true_and] at hh
  try simp only [hh]
  first | exact rr | (subst hh; exact rr)
theorem p_need_start (ds : List DV) (n : Nat) (R : DV → Nat → Prop) (hh : s_need_start ds n R) : Goal t_need_start 3 ds n R := by
  obtain ⟨l, s, c, k, v, rfl, r, b, le, q⟩ := hh
  have nl : ¬ l < v := Rat.not_lt.2 le
  simp only [Goal, t_need_start, dSliceA, oCatA, dIsi, pR3, pR4, pR5, dSeq, dAsg, dVar, dC, dOp, dUn, dCB, dCall, dCallK, pId, pRev, dCons, dNil, dTup, dLst, dRet, dRetN, dIfS, dTest, dNot, dAnd, dOr, dIf, dAndV, dOrV, dNotV, dNext, dDrop, dUnp, setAll, dPar, dPar3, dTy, tyD, dChain, dChain3, oI, oI0, oGcd, oLen, oAbs, oInt, ixT_tup, ixL_lst, fr_at0, fr_at1, oNeg, oEq, oNe, oRepr, oEqS, oCat, oRepL, allD, dSliceL, dSliceT, oCatT, oIsN, oNotN, isNone_fr, isNone_non, isNone_tup, isNone_list, isNone_int, isNone_bool, dPart, dNoPart, dAsgOwn, dFreeze, dParO2, dParO3, dPeekT, dPeekI, dYes, oSum, oTupOf, oMin, oIsB, oNotB, oMax, oMinL, dParOD, dParDO, dAppend, entry, atI_0, atI_1, atI_2, atI_3, List.map_cons, List.map_nil, List.length_cons, List.length_nil, List.set_cons_zero, List.set_cons_succ, List.getElem?_cons_zero, List.getElem?_cons_succ, List.cons_append, List.nil_append, Nat.reduceAdd, Nat.reduceSub, Nat.reduceLeDiff, List.replicate, Bool.false_eq_true, if_false, if_true, ite_true, ite_false, true_and, and_true, Bool.not_true, Bool.not_false, decide_true, decide_false, e_need_setting, e_is_fraction, e_is_less, nl]
  exact ⟨r, b, sz4 r.bl.sz b.sz (by decide) (by decide), q⟩
theorem p_floor_down (ds : List DV) (n : Nat) (R : DV → Nat → Prop) (hh : s_floor_down ds n R) : Goal t_floor_down 1 ds n R := by
  obtain ⟨q, rfl, zq, k⟩ := hh
  simp only [Goal, t_floor_down, dSliceA, oCatA, dIsi, pR3, pR4, pR5, dSeq, dAsg, dVar, dC, dOp, dUn, dCB, dCall, dCallK, pId, pRev, dCons, dNil, dTup, dLst, dRet, dRetN, dIfS, dTest, dNot, dAnd, dOr, dIf, dAndV, dOrV, dNotV, dNext, dDrop, dUnp, setAll, dPar, dPar3, dTy, tyD, dChain, dChain3, oI, oI0, oGcd, oLen, oAbs, oInt, ixT_tup, ixL_lst, fr_at0, fr_at1, oNeg, oEq, oNe, oRepr, oEqS, oCat, oRepL, allD, dSliceL, dSliceT, oCatT, oIsN, oNotN, isNone_fr, isNone_non, isNone_tup, isNone_list, isNone_int, isNone_bool, dPart, dNoPart, dAsgOwn, dFreeze, dParO2, dParO3, dPeekT, dPeekI, dYes, oSum, oTupOf, oMin, oIsB, oNotB, oMax, oMinL, dParOD, dParDO, dAppend, entry, atI_0, atI_1, atI_2, atI_3, List.map_cons, List.map_nil, List.length_cons, List.length_nil, List.set_cons_zero, List.set_cons_succ, List.getElem?_cons_zero, List.getElem?_cons_succ, List.cons_append, List.nil_append, Nat.reduceAdd, Nat.reduceSub, Nat.reduceLeDiff, List.replicate, Bool.false_eq_true, if_false, if_true, ite_true, ite_false, true_and, and_true, Bool.not_true, Bool.not_false, decide_true, decide_false]
  refine ⟨⟨by have := q.den_pos; omega, logB (den_B zq) (by decide)⟩, ?_⟩
  have e : q.num / (q.den : Int) = ftT q - 1 := by have := floor_ft q; omega
  rw [e]
  exact k
theorem p_first_cut (ds : List DV) (n : Nat) (R : DV → Nat → Prop) (hh : s_first_cut ds n R) : Goal t_first_cut 4 ds n R := by
  obtain ⟨l, s, c, k, v, rfl, zl, zs, zv, s0, le, q⟩ := hh
  simp only [Goal, t_first_cut, dSliceA, oCatA, dIsi, pR3, pR4, pR5, dSeq, dAsg, dVar, dC, dOp, dUn, dCB, dCall, dCallK, pId, pRev, dCons, dNil, dTup, dLst, dRet, dRetN, dIfS, dTest, dNot, dAnd, dOr, dIf, dAndV, dOrV, dNotV, dNext, dDrop, dUnp, setAll, dPar, dPar3, dTy, tyD, dChain, dChain3, oI, oI0, oGcd, oLen, oAbs, oInt, ixT_tup, ixL_lst, fr_at0, fr_at1, oNeg, oEq, oNe, oRepr, oEqS, oCat, oRepL, allD, dSliceL, dSliceT, oCatT, oIsN, oNotN, isNone_fr, isNone_non, isNone_tup, isNone_list, isNone_int, isNone_bool, dPart, dNoPart, dAsgOwn, dFreeze, dParO2, dParO3, dPeekT, dPeekI, dYes, oSum, oTupOf, oMin, oIsB, oNotB, oMax, oMinL, dParOD, dParDO, dAppend, entry, atI_0, atI_1, atI_2, atI_3, List.map_cons, List.map_nil, List.length_cons, List.length_nil, List.set_cons_zero, List.set_cons_succ, List.getElem?_cons_zero, List.getElem?_cons_succ, List.cons_append, List.nil_append, Nat.reduceAdd, Nat.reduceSub, Nat.reduceLeDiff, List.replicate, Bool.false_eq_true, if_false, if_true, ite_true, ite_false, true_and, and_true, Bool.not_true, Bool.not_false, decide_true, decide_false, e_difference_of, e_quotient_of, e_floor_down]
  have zd := zl.sub zv
  have zw := zd.div zs s0
  have e : ftT ((l - v) / s) - 1 + 1 = ftT ((l - v) / s) := by omega
  rw [e]
  refine ⟨by (apply Sz.mono; (· (repeat (first | assumption | exact one_sz | apply Sz.add | apply Sz.sub | apply Sz.mul | apply Sz.neg | apply Sz.div _ _ (by assumption)))); (· decide)), by (apply Sz.mono; (· (repeat (first | assumption | exact one_sz | apply Sz.add | apply Sz.sub | apply Sz.mul | apply Sz.neg | apply Sz.div _ _ (by assumption)))); (· decide)), by (apply Sz.mono; (· (repeat (first | assumption | exact one_sz | apply Sz.add | apply Sz.sub | apply Sz.mul | apply Sz.neg | apply Sz.div _ _ (by assumption)))); (· decide)), by (apply Sz.mono; (· (repeat (first | assumption | exact one_sz | apply Sz.add | apply Sz.sub | apply Sz.mul | apply Sz.neg | apply Sz.div _ _ (by assumption)))); (· decide)), s0, by (apply Sz.mono; (· (repeat (first | assumption | exact one_sz | apply Sz.add | apply Sz.sub | apply Sz.mul | apply Sz.neg | apply Sz.div _ _ (by assumption)))); (· decide)), ?_⟩
  refine ⟨?_, ?_⟩
  · have h0 : 0 ≤ (l - v) / s := by
      rw [Rat.div_def]
      exact Rat.mul_nonneg (by grind) (Rat.le_of_lt (Rat.inv_pos.2 s0))
    have b : B 303 (ftT ((l - v) / s)).natAbs := by
      have h1 := floor_ft ((l - v) / s)
      have h3 := Int.natAbs_ediv_le_natAbs ((l - v) / s).num (((l - v) / s).den : Int)
      have h4 := zw.n
      unfold B at h4 ⊢
      have : (2 : Nat) ^ 303 = 2 * 2 ^ 302 := by rw [Nat.pow_succ]; omega
      have : (2 : Nat) ^ (100 + 100 + 1 + 100) ≤ 2 ^ 302 := Nat.pow_le_pow_right (by decide) (by decide)
      omega
    exact mulB b (den_B zw) (by decide)
  · rw [fr_int_sub]
    exact q
theorem p_first_ticks (ds : List DV) (n : Nat) (R : DV → Nat → Prop) (hh : s_first_ticks ds n R) : Goal t_first_ticks 2 ds n R := by
  obtain ⟨l, s, c, k, v, rfl, r, b, le, q⟩ := hh
  simp only [Goal, t_first_ticks, dSliceA, oCatA, dIsi, pR3, pR4, pR5, dSeq, dAsg, dVar, dC, dOp, dUn, dCB, dCall, dCallK, pId, pRev, dCons, dNil, dTup, dLst, dRet, dRetN, dIfS, dTest, dNot, dAnd, dOr, dIf, dAndV, dOrV, dNotV, dNext, dDrop, dUnp, setAll, dPar, dPar3, dTy, tyD, dChain, dChain3, oI, oI0, oGcd, oLen, oAbs, oInt, ixT_tup, ixL_lst, fr_at0, fr_at1, oNeg, oEq, oNe, oRepr, oEqS, oCat, oRepL, allD, dSliceL, dSliceT, oCatT, oIsN, oNotN, isNone_fr, isNone_non, isNone_tup, isNone_list, isNone_int, isNone_bool, dPart, dNoPart, dAsgOwn, dFreeze, dParO2, dParO3, dPeekT, dPeekI, dYes, oSum, oTupOf, oMin, oIsB, oNotB, oMax, oMinL, dParOD, dParDO, dAppend, entry, atI_0, atI_1, atI_2, atI_3, List.map_cons, List.map_nil, List.length_cons, List.length_nil, List.set_cons_zero, List.set_cons_succ, List.getElem?_cons_zero, List.getElem?_cons_succ, List.cons_append, List.nil_append, Nat.reduceAdd, Nat.reduceSub, Nat.reduceLeDiff, List.replicate, Bool.false_eq_true, if_false, if_true, ite_true, ite_false, true_and, and_true, Bool.not_true, Bool.not_false, decide_true, decide_false, e_need_start, e_first_cut]
  exact ⟨r, b, le, r.bl.sz, r.bs.sz, b.sz, r.s0, le, q⟩
theorem p_ticked (ds : List DV) (n : Nat) (R : DV → Nat → Prop) (hh : s_ticked ds n R) : Goal t_ticked 7 ds n R := by
  obtain ⟨l, s, c, k, v, rfl, zl, zs, zc, zk, zv, q⟩ := hh
  simp only [Goal, t_ticked, dSliceA, oCatA, dIsi, pR3, pR4, pR5, dSeq, dAsg, dVar, dC, dOp, dUn, dCB, dCall, dCallK, pId, pRev, dCons, dNil, dTup, dLst, dRet, dRetN, dIfS, dTest, dNot, dAnd, dOr, dIf, dAndV, dOrV, dNotV, dNext, dDrop, dUnp, setAll, dPar, dPar3, dTy, tyD, dChain, dChain3, oI, oI0, oGcd, oLen, oAbs, oInt, ixT_tup, ixL_lst, fr_at0, fr_at1, oNeg, oEq, oNe, oRepr, oEqS, oCat, oRepL, allD, dSliceL, dSliceT, oCatT, oIsN, oNotN, isNone_fr, isNone_non, isNone_tup, isNone_list, isNone_int, isNone_bool, dPart, dNoPart, dAsgOwn, dFreeze, dParO2, dParO3, dPeekT, dPeekI, dYes, oSum, oTupOf, oMin, oIsB, oNotB, oMax, oMinL, dParOD, dParDO, dAppend, entry, atI_0, atI_1, atI_2, atI_3, List.map_cons, List.map_nil, List.length_cons, List.length_nil, List.set_cons_zero, List.set_cons_succ, List.getElem?_cons_zero, List.getElem?_cons_succ, List.cons_append, List.nil_append, Nat.reduceAdd, Nat.reduceSub, Nat.reduceLeDiff, List.replicate, Bool.false_eq_true, if_false, if_true, ite_true, ite_false, true_and, and_true, Bool.not_true, Bool.not_false, decide_true, decide_false, e_sum_of, e_is_less, e_level_cut]
  refine ⟨by (apply Sz.mono; (· (repeat (first | assumption | exact one_sz | apply Sz.add | apply Sz.sub | apply Sz.mul | apply Sz.neg | apply Sz.div _ _ (by assumption)))); (· decide)), by (apply Sz.mono; (· (repeat (first | assumption | exact one_sz | apply Sz.add | apply Sz.sub | apply Sz.mul | apply Sz.neg | apply Sz.div _ _ (by assumption)))); (· decide)), sz4 zl (zv.add zs) (by decide) (by decide), ?_⟩
  by_cases hc : l < v + s
  · simp only [hc, dSliceA, oCatA, dIsi, pR3, pR4, pR5, dSeq, dAsg, dVar, dC, dOp, dUn, dCB, dCall, dCallK, pId, pRev, dCons, dNil, dTup, dLst, dRet, dRetN, dIfS, dTest, dNot, dAnd, dOr, dIf, dAndV, dOrV, dNotV, dNext, dDrop, dUnp, setAll, dPar, dPar3, dTy, tyD, dChain, dChain3, oI, oI0, oGcd, oLen, oAbs, oInt, ixT_tup, ixL_lst, fr_at0, fr_at1, oNeg, oEq, oNe, oRepr, oEqS, oCat, oRepL, allD, dSliceL, dSliceT, oCatT, oIsN, oNotN, isNone_fr, isNone_non, isNone_tup, isNone_list, isNone_int, isNone_bool, dPart, dNoPart, dAsgOwn, dFreeze, dParO2, dParO3, dPeekT, dPeekI, dYes, oSum, oTupOf, oMin, oIsB, oNotB, oMax, oMinL, dParOD, dParDO, dAppend, entry, atI_0, atI_1, atI_2, atI_3, List.map_cons, List.map_nil, List.length_cons, List.length_nil, List.set_cons_zero, List.set_cons_succ, List.getElem?_cons_zero, List.getElem?_cons_succ, List.cons_append, List.nil_append, Nat.reduceAdd, Nat.reduceSub, Nat.reduceLeDiff, List.replicate, Bool.false_eq_true, if_false, if_true, ite_true, ite_false, true_and, and_true, Bool.not_true, Bool.not_false, decide_true, decide_false]
    simp only [tk, hc, dSliceA, oCatA, dIsi, pR3, pR4, pR5, dSeq, dAsg, dVar, dC, dOp, dUn, dCB, dCall, dCallK, pId, pRev, dCons, dNil, dTup, dLst, dRet, dRetN, dIfS, dTest, dNot, dAnd, dOr, dIf, dAndV, dOrV, dNotV, dNext, dDrop, dUnp, setAll, dPar, dPar3, dTy, tyD, dChain, dChain3, oI, oI0, oGcd, oLen, oAbs, oInt, ixT_tup, ixL_lst, fr_at0, fr_at1, oNeg, oEq, oNe, oRepr, oEqS, oCat, oRepL, allD, dSliceL, dSliceT, oCatT, oIsN, oNotN, isNone_fr, isNone_non, isNone_tup, isNone_list, isNone_int, isNone_bool, dPart, dNoPart, dAsgOwn, dFreeze, dParO2, dParO3, dPeekT, dPeekI, dYes, oSum, oTupOf, oMin, oIsB, oNotB, oMax, oMinL, dParOD, dParDO, dAppend, entry, atI_0, atI_1, atI_2, atI_3, List.map_cons, List.map_nil, List.length_cons, List.length_nil, List.set_cons_zero, List.set_cons_succ, List.getElem?_cons_zero, List.getElem?_cons_succ, List.cons_append, List.nil_append, Nat.reduceAdd, Nat.reduceSub, Nat.reduceLeDiff, List.replicate, Bool.false_eq_true, if_false, if_true, ite_true, ite_false, true_and, and_true, Bool.not_true, Bool.not_false, decide_true, decide_false] at q
    exact ⟨by (apply Sz.mono; (· (repeat (first | assumption | exact one_sz | apply Sz.add | apply Sz.sub | apply Sz.mul | apply Sz.neg | apply Sz.div _ _ (by assumption)))); (· decide)), by (apply Sz.mono; (· (repeat (first | assumption | exact one_sz | apply Sz.add | apply Sz.sub | apply Sz.mul | apply Sz.neg | apply Sz.div _ _ (by assumption)))); (· decide)), by (apply Sz.mono; (· (repeat (first | assumption | exact one_sz | apply Sz.add | apply Sz.sub | apply Sz.mul | apply Sz.neg | apply Sz.div _ _ (by assumption)))); (· decide)), q⟩
  · simp only [hc, dSliceA, oCatA, dIsi, pR3, pR4, pR5, dSeq, dAsg, dVar, dC, dOp, dUn, dCB, dCall, dCallK, pId, pRev, dCons, dNil, dTup, dLst, dRet, dRetN, dIfS, dTest, dNot, dAnd, dOr, dIf, dAndV, dOrV, dNotV, dNext, dDrop, dUnp, setAll, dPar, dPar3, dTy, tyD, dChain, dChain3, oI, oI0, oGcd, oLen, oAbs, oInt, ixT_tup, ixL_lst, fr_at0, fr_at1, oNeg, oEq, oNe, oRepr, oEqS, oCat, oRepL, allD, dSliceL, dSliceT, oCatT, oIsN, oNotN, isNone_fr, isNone_non, isNone_tup, isNone_list, isNone_int, isNone_bool, dPart, dNoPart, dAsgOwn, dFreeze, dParO2, dParO3, dPeekT, dPeekI, dYes, oSum, oTupOf, oMin, oIsB, oNotB, oMax, oMinL, dParOD, dParDO, dAppend, entry, atI_0, atI_1, atI_2, atI_3, List.map_cons, List.map_nil, List.length_cons, List.length_nil, List.set_cons_zero, List.set_cons_succ, List.getElem?_cons_zero, List.getElem?_cons_succ, List.cons_append, List.nil_append, Nat.reduceAdd, Nat.reduceSub, Nat.reduceLeDiff, List.replicate, Bool.false_eq_true, if_false, if_true, ite_true, ite_false, true_and, and_true, Bool.not_true, Bool.not_false, decide_true, decide_false]
    simp only [tk, hc, dSliceA, oCatA, dIsi, pR3, pR4, pR5, dSeq, dAsg, dVar, dC, dOp, dUn, dCB, dCall, dCallK, pId, pRev, dCons, dNil, dTup, dLst, dRet, dRetN, dIfS, dTest, dNot, dAnd, dOr, dIf, dAndV, dOrV, dNotV, dNext, dDrop, dUnp, setAll, dPar, dPar3, dTy, tyD, dChain, dChain3, oI, oI0, oGcd, oLen, oAbs, oInt, ixT_tup, ixL_lst, fr_at0, fr_at1, oNeg, oEq, oNe, oRepr, oEqS, oCat, oRepL, allD, dSliceL, dSliceT, oCatT, oIsN, oNotN, isNone_fr, isNone_non, isNone_tup, isNone_list, isNone_int, isNone_bool, dPart, dNoPart, dAsgOwn, dFreeze, dParO2, dParO3, dPeekT, dPeekI, dYes, oSum, oTupOf, oMin, oIsB, oNotB, oMax, oMinL, dParOD, dParDO, dAppend, entry, atI_0, atI_1, atI_2, atI_3, List.map_cons, List.map_nil, List.length_cons, List.length_nil, List.set_cons_zero, List.set_cons_succ, List.getElem?_cons_zero, List.getElem?_cons_succ, List.cons_append, List.nil_append, Nat.reduceAdd, Nat.reduceSub, Nat.reduceLeDiff, List.replicate, Bool.false_eq_true, if_false, if_true, ite_true, ite_false, true_and, and_true, Bool.not_true, Bool.not_false, decide_true, decide_false] at q
    exact q
theorem p_tick (ds : List DV) (n : Nat) (R : DV → Nat → Prop) (hh : s_tick ds n R) : Goal t_tick 2 ds n R := by
  obtain ⟨l, s, c, k, v, rfl, r, b, le, q⟩ := hh
  have zv := b.sz
  have zl := r.bl.sz
  have zs := r.bs.sz
  have zc := r.bc.sz
  have zk := r.bk.sz
  simp only [Goal, t_tick, dSliceA, oCatA, dIsi, pR3, pR4, pR5, dSeq, dAsg, dVar, dC, dOp, dUn, dCB, dCall, dCallK, pId, pRev, dCons, dNil, dTup, dLst, dRet, dRetN, dIfS, dTest, dNot, dAnd, dOr, dIf, dAndV, dOrV, dNotV, dNext, dDrop, dUnp, setAll, dPar, dPar3, dTy, tyD, dChain, dChain3, oI, oI0, oGcd, oLen, oAbs, oInt, ixT_tup, ixL_lst, fr_at0, fr_at1, oNeg, oEq, oNe, oRepr, oEqS, oCat, oRepL, allD, dSliceL, dSliceT, oCatT, oIsN, oNotN, isNone_fr, isNone_non, isNone_tup, isNone_list, isNone_int, isNone_bool, dPart, dNoPart, dAsgOwn, dFreeze, dParO2, dParO3, dPeekT, dPeekI, dYes, oSum, oTupOf, oMin, oIsB, oNotB, oMax, oMinL, dParOD, dParDO, dAppend, entry, atI_0, atI_1, atI_2, atI_3, List.map_cons, List.map_nil, List.length_cons, List.length_nil, List.set_cons_zero, List.set_cons_succ, List.getElem?_cons_zero, List.getElem?_cons_succ, List.cons_append, List.nil_append, Nat.reduceAdd, Nat.reduceSub, Nat.reduceLeDiff, List.replicate, Bool.false_eq_true, if_false, if_true, ite_true, ite_false, true_and, and_true, Bool.not_true, Bool.not_false, decide_true, decide_false, e_need_start, e_ticked]
  exact ⟨r, b, le, zl, zs, zc, zk, by (apply Sz.mono; (· (repeat (first | assumption | exact one_sz | apply Sz.add | apply Sz.sub | apply Sz.mul | apply Sz.neg | apply Sz.div _ _ (by assumption)))); (· decide)), q⟩
end Sx

set_option Elab.async false
set_option linter.all false
set_option maxRecDepth 100000
set_option maxHeartbeats 8000000
/-! Stm: rows of fractions, ints, bools: sizes, for repr -/
namespace Sx
open PySem PySem.Spec L2
def mapD (F : Nat → Rat) (N : Nat) : List PyData := (List.range N).map fun j => fr (F (j + 1))
theorem mapD_len (F : Nat → Rat) (N : Nat) : (mapD F N).length = N := by simp [mapD]
theorem mapD_succ (F : Nat → Rat) (N : Nat) : mapD F N ++ [fr (F (N + 1))] = mapD F (N + 1) := by simp [mapD, List.range_succ]
theorem lvD_moved (l s c k v b : Rat) (N : Nat) : lvD (l + b) s c (k + (b - c * b)) (v + b) N = mapD (fun j => lv l s c k v j + b) N := by
  simp only [lvD, mapD, lv_moved]
theorem lvD_scaled (l s c k v : Rat) {g : Rat} (h0 : 0 < g) (N : Nat) : lvD (l * g) (s * g) c (k * g) (v * g) N = mapD (fun j => lv l s c k v j * g) N := by
  simp only [lvD, mapD, lv_scaled l s c k v h0]
theorem cuD_moved (l s c k v b : Rat) (N : Nat) : cuD (l + b) s c (k + (b - c * b)) (v + b) N = cuD l s c k v N := by
  simp only [cuD, lv_moved]
  refine List.map_congr_left fun j _ => ?_
  congr 1
  generalize lv l s c k v j = x
  have : (l + b < x + b + s) = (l < x + s) := propext ⟨fun z => by grind, fun z => by grind⟩
  simp only [this]
theorem cuD_scaled (l s c k v : Rat) {g : Rat} (h0 : 0 < g) (N : Nat) : cuD (l * g) (s * g) c (k * g) (v * g) N = cuD l s c k v N := by
  simp only [cuD, lv_scaled l s c k v h0]
  refine List.map_congr_left fun j _ => ?_
  congr 1
  generalize lv l s c k v j = x
  have e : x * g + s * g = (x + s) * g := by grind
  have : (l * g < x * g + s * g) = (l < x + s) := propext (by rw [e]; exact mul_lt_iff h0)
  simp only [this]
theorem mapD_get {F : Nat → Rat} {N k : Nat} {d : PyData} (h : (mapD F N)[k]? = some d) : k < N ∧ d = fr (F (k + 1)) := by
  simp only [mapD, List.getElem?_map] at h
  by_cases hk : k < N
  · rw [List.getElem?_range hk] at h
    simp at h
    exact ⟨hk, h.symm⟩
  · rw [List.getElem?_eq_none (by simp; omega)] at h
    simp at h
theorem tame_map {F : Nat → Rat} : ∀ (xs : List Nat), (∀ j ∈ xs, ∃ k, k ≤ 1900 ∧ Sz k (F j)) → tameA (xs.map fun j => fr (F j))
  | [], _ => trivial
  | x :: xs, h => by
    obtain ⟨k, k1, k2⟩ := h x List.mem_cons_self
    exact ⟨tame_fr k2 k1, tame_map xs fun j hj => h j (List.mem_cons_of_mem _ hj)⟩
theorem tame_bools {F : Nat → Bool} : ∀ (xs : List Nat), tameA (xs.map fun j => .bool (F j))
  | [] => trivial
  | x :: xs => ⟨trivial, tame_bools xs⟩
theorem tame_ints {F : Nat → Int} : ∀ (xs : List Nat), (∀ j ∈ xs, B 1900 (F j).natAbs) → tameA (xs.map fun j => .int (F j))
  | [], _ => trivial
  | x :: xs, h => ⟨h x List.mem_cons_self, tame_ints xs fun j hj => h j (List.mem_cons_of_mem _ hj)⟩
theorem bulk_map {F : Nat → Rat} : ∀ (xs : List Nat), PyData.bulkAll (xs.map fun j => fr (F j)) = 3 * xs.length
  | [] => by simp only [List.map_nil, PyData.bulkAll, List.length_nil]
  | x :: xs => by simp only [List.map_cons, PyData.bulkAll, bulk_fr, bulk_map xs, List.length_cons]; omega
theorem bulk_bools {F : Nat → Bool} : ∀ (xs : List Nat), PyData.bulkAll (xs.map fun j => .bool (F j)) = xs.length
  | [] => by simp only [List.map_nil, PyData.bulkAll, List.length_nil]
  | x :: xs => by simp only [List.map_cons, PyData.bulkAll, PyData.bulk, bulk_bools xs, List.length_cons]; omega
theorem bulk_ints {F : Nat → Int} : ∀ (xs : List Nat), PyData.bulkAll (xs.map fun j => .int (F j)) = xs.length
  | [] => by simp only [List.map_nil, PyData.bulkAll, List.length_nil]
  | x :: xs => by simp only [List.map_cons, PyData.bulkAll, PyData.bulk, bulk_ints xs, List.length_cons]; omega
theorem depth_map {F : Nat → Rat} : ∀ (xs : List Nat), PyData.depthAll (xs.map fun j => fr (F j)) ≤ 1
  | [] => by simp only [List.map_nil, PyData.depthAll]; omega
  | x :: xs => by
    have := depth_map (F := F) xs
    simp only [List.map_cons, PyData.depthAll, depth_fr]; omega
theorem depth_bools {F : Nat → Bool} : ∀ (xs : List Nat), PyData.depthAll (xs.map fun j => .bool (F j)) = 0
  | [] => by simp only [List.map_nil, PyData.depthAll]
  | x :: xs => by
    have := depth_bools (F := F) xs
    simp only [List.map_cons, PyData.depthAll, PyData.depth]; omega
theorem depth_ints {F : Nat → Int} : ∀ (xs : List Nat), PyData.depthAll (xs.map fun j => .int (F j)) = 0
  | [] => by simp only [List.map_nil, PyData.depthAll]
  | x :: xs => by
    have := depth_ints (F := F) xs
    simp only [List.map_cons, PyData.depthAll, PyData.depth]; omega
theorem tame_mapD {F : Nat → Rat} {N : Nat} (h : ∀ j, j ≤ N → ∃ k, k ≤ 1900 ∧ Sz k (F j)) : tameA (mapD F N) := tame_map (F := fun j => F (j + 1)) _ fun j hj => h (j + 1) (by have := List.mem_range.1 hj; omega)
theorem tame_cuD (l s c k v : Rat) (N : Nat) : tameA (cuD l s c k v N) := tame_bools _
theorem bulk_mapD (F : Nat → Rat) (N : Nat) : PyData.bulkAll (mapD F N) = 3 * N := by
  unfold mapD
  rw [bulk_map (F := fun j => F (j + 1)), List.length_range]
theorem bulk_cuD (l s c k v : Rat) (N : Nat) : PyData.bulkAll (cuD l s c k v N) = N := by
  unfold cuD
  rw [bulk_bools, List.length_range]
theorem depth_mapD (F : Nat → Rat) (N : Nat) : PyData.depthAll (mapD F N) ≤ 1 := depth_map (F := fun j => F (j + 1)) _
theorem depth_cuD (l s c k v : Rat) (N : Nat) : PyData.depthAll (cuD l s c k v N) = 0 := depth_bools _

theorem tame_siD {c h p : Rat} {N : Nat} (h1 : ∀ i, i < N → B 1900 (si c h p i).natAbs) : tameA (siD c h p N) := tame_ints _ fun j hj => h1 j (List.mem_range.1 hj)
theorem tame_spD {c h p : Rat} {N : Nat} (h1 : ∀ i, i ≤ N → ∃ k, k ≤ 1900 ∧ Sz k (sp c h p i)) : tameA (spD c h p N) := tame_map (F := fun i => sp c h p (i + 1)) _ fun j hj => h1 (j + 1) (by have := List.mem_range.1 hj; omega)
theorem tame_cntD {c h p : Rat} {N : Nat} (h1 : ∀ i, i < N → B 1900 (sumSi c h p i).natAbs) : tameA (cntD c h p N) := tame_ints _ fun j hj => h1 j (List.mem_range.1 hj)
theorem bulk_siD (c h p : Rat) (N : Nat) : PyData.bulkAll (siD c h p N) = N := by unfold siD; rw [bulk_ints, List.length_range]
theorem bulk_spD (c h p : Rat) (N : Nat) : PyData.bulkAll (spD c h p N) = 3 * N := by unfold spD; rw [bulk_map (F := fun i => sp c h p (i + 1)), List.length_range]
theorem bulk_cntD (c h p : Rat) (N : Nat) : PyData.bulkAll (cntD c h p N) = N := by unfold cntD; rw [bulk_ints, List.length_range]
theorem depth_siD (c h p : Rat) (N : Nat) : PyData.depthAll (siD c h p N) = 0 := depth_ints _
theorem depth_spD (c h p : Rat) (N : Nat) : PyData.depthAll (spD c h p N) ≤ 1 := depth_map (F := fun i => sp c h p (i + 1)) _
theorem depth_cntD (c h p : Rat) (N : Nat) : PyData.depthAll (cntD c h p N) = 0 := depth_ints _
/-- rounds and spots, as they are told -/
theorem tidy_rounds {c h p : Rat} {N : Nat} (hN : N ≤ 1000) (h1 : ∀ i, i < N → B 1900 (si c h p i).natAbs) (h2 : ∀ i, i ≤ N → ∃ k, k ≤ 1900 ∧ Sz k (sp c h p i)) : seqD (.tuple [.tuple (siD c h p N), .tuple (spD c h p N)]) = true ∧ Tidy (.tuple [.tuple (siD c h p N), .tuple (spD c h p N)]) := by
  refine ⟨rfl, ⟨tame_siD h1, tame_spD h2, trivial⟩, ?_, ?_⟩
  · simp only [PyData.bulk, PyData.bulkAll, bulk_siD, bulk_spD]; omega
  · have := depth_spD c h p N
    simp only [PyData.depth, PyData.depthAll, depth_siD]; omega
theorem tidy_counts {c h p : Rat} {N : Nat} (hN : N ≤ 4000) (h1 : ∀ i, i < N → B 1900 (sumSi c h p i).natAbs) : seqD (.tuple (cntD c h p N)) = true ∧ Tidy (.tuple (cntD c h p N)) := by
  refine ⟨rfl, tame_cntD h1, ?_, ?_⟩
  · simp only [PyData.bulk, bulk_cntD]; omega
  · simp only [PyData.depth, depth_cntD]; omega
end Sx

set_option Elab.async false
set_option linter.all false
set_option maxRecDepth 100000
/-! Sq3: full applications, outermost first -/
namespace Sx
open PySem L2
/-- a value taken apart -/
def unpK (is : List Nat) (F : DEnds) (env : En) (d : DV) (n : Nat) : Prop := match d with
  | .dat (.tuple ds) => ds.length = is.length ∧ F.nx (setAll env is ds) n
  | _ => False
section
variable (i j l : Nat) (is : List Nat) (env : En) (n : Nat) (F : DEnds) (d : PyData) (o : DO2) (u1 : DO1) (oc : DOC) (o' o'' : DO2) (ta tb tc td : DT) (tl : DTA) (S : DSp) (t u : DTB) (ts us : DTS) (lo hi : DTO) (T : String) (k : Bool)
variable (R : DV → Nat → Prop) (RB : Bool → Nat → Prop) (RA : List DV → Nat → Prop) (RO : Option Int → Nat → Prop)
theorem dVar_ap : dVar i env n R = (match env[i]? with | some (some (.dat d)) => R (.dat d) n | some (some .draws) => R .draws n | _ => False) := propext Iff.rfl
theorem dC_ap : dC d env n R = R (.dat d) n := propext Iff.rfl
theorem dOp_ap : dOp o ta tb env n R = ta env n fun x n1 => tb env n1 fun y n2 => o x y fun z => R z n2 := propext Iff.rfl
theorem dUn_ap : dUn u1 ta env n R = ta env n fun x n1 => u1 x fun z => R z n1 := propext Iff.rfl
theorem dCB_ap : dCB oc tl env n R = tl env n fun ds n1 => oc ds fun z => R z n1 := propext Iff.rfl
theorem dCall_ap : dCall S tl env n R = tl env n fun ds n1 => S ds n1 R := propext Iff.rfl
theorem dCallId_ap : dCallK S @pId tl env n R = tl env n fun ds n1 => S ds n1 R := propext Iff.rfl
theorem dCallK_ap (g : {α : Type} → List α → List α) : dCallK S g tl env n R = tl env n fun ds n1 => S (g ds) n1 R := propext Iff.rfl
theorem dNil_ap : dNil env n RA = RA [] n := propext Iff.rfl
theorem dCons_ap : dCons ta tl env n RA = ta env n fun x n1 => tl env n1 fun xs n2 => RA (x :: xs) n2 := propext Iff.rfl
theorem dTup_ap : dTup tl env n R = tl env n fun xs n1 => match allD xs with | some ds => ds.length ≤ 1000 ∧ R (TV ds) n1 | none => False := propext Iff.rfl
theorem dLst_ap : dLst tl env n R = tl env n fun xs n1 => match allD xs with | some ds => ds.length ≤ 1000 ∧ R (LV ds) n1 | none => False := propext Iff.rfl
theorem dTest_ap : dTest ta env n RB = ta env n fun z n' => match z with | .dat (.bool k) => RB k n' | _ => False := propext Iff.rfl
theorem dNot_ap : dNot t env n RB = t env n fun k n1 => RB (!k) n1 := propext Iff.rfl
theorem dAnd_ap : dAnd t u env n RB = t env n fun k n1 => if k = true then u env n1 RB else RB false n1 := propext Iff.rfl
theorem dOr_ap : dOr t u env n RB = t env n fun k n1 => if k = true then RB true n1 else u env n1 RB := propext Iff.rfl
theorem dIf_ap : dIf t ta tb env n R = t env n fun k n1 => if k = true then ta env n1 R else tb env n1 R := propext Iff.rfl
theorem dAndV_ap : dAndV ta tb env n R = ta env n fun x n1 => match x with | .dat (.bool k) => if k = true then tb env n1 R else R (BV false) n1 | _ => False := propext Iff.rfl
theorem dOrV_ap : dOrV ta tb env n R = ta env n fun x n1 => match x with | .dat (.bool k) => if k = true then R (BV true) n1 else tb env n1 R | _ => False := propext Iff.rfl
theorem dNotV_ap : dNotV ta env n R = ta env n fun x n1 => match x with | .dat (.bool k) => R (BV (!k)) n1 | _ => False := propext Iff.rfl
theorem dChain_ap : dChain o o' ta tb tc env n R = ta env n fun x n1 => tb env n1 fun y n2 => o x y fun z => match z with | .dat (.bool k) => if k = true then tc env n2 fun w n3 => o' y w fun q => R q n3 else R (BV false) n2 | _ => False := propext Iff.rfl
theorem dChain3_ap : dChain3 o o' o'' ta tb tc td env n R = ta env n fun x n1 => tb env n1 fun y n2 => o x y fun z => match z with
  | .dat (.bool k) => if k = true then tc env n2 fun u n3 => o' y u fun z' => match z' with
      | .dat (.bool k') => if k' = true then td env n3 fun w n4 => o'' u w fun q => R q n4 else R (BV false) n3
      | _ => False
    else R (BV false) n2
  | _ => False := propext Iff.rfl
theorem dTy_ap : dTy T k ta env n R = ta env n fun d n1 => match d with | .dat d => tyD d = T ∧ R (BV k) n1 | _ => False := propext Iff.rfl
theorem dIsi_ap : dIsi T ta env n R = ta env n fun d n1 => match d with | .dat d => tyD d = T ∧ R (BV true) n1 | _ => False := propext Iff.rfl
theorem dNoPart_ap : dNoPart env n RO = RO none n := propext Iff.rfl
theorem dPart_ap : dPart ta env n RO = ta env n fun z n' => match z with | .dat (.int i) => RO (some i) n' | _ => False := propext Iff.rfl
theorem dSliceL_ap : dSliceL ta lo hi env n R = ta env n fun d n1 => lo env n1 fun l n2 => hi env n2 fun u n3 => match d with | .dat (.list ds) => R (LV (cutD ds l u)) n3 | _ => False := propext Iff.rfl
theorem dSliceA_ap : dSliceA ta lo hi env n R = ta env n fun d n1 => lo env n1 fun l n2 => hi env n2 fun u n3 => match d with | .dat (.tuple ds) => R (TV (cutD ds l u)) n3 | _ => False := propext Iff.rfl
theorem dPeekT_ap : dPeekT i t env n RB = (match env[i]? with | some (some (.own ds)) => t (env.set i (some (LV ds))) n RB | _ => False) := propext Iff.rfl
theorem dPeekI_ap : dPeekI i ta env n R = (match env[i]? with | some (some (.own ds)) => ta (env.set i (some (LV ds))) n (fun d n1 => match d with | .dat (.int j) => R (IV j) n1 | _ => False) | _ => False) := propext Iff.rfl
theorem dYes_ap : dYes env n RB = RB true n := propext Iff.rfl
theorem dNext_ap : dNext F env n = F.nx env n := propext Iff.rfl
theorem dSeq_ap : dSeq ts us F env n = ts { F with nx := us F } env n := propext Iff.rfl
theorem dRet_ap : dRet ta F env n = ta env n F.rt := propext Iff.rfl
theorem dRetN_ap : dRetN F env n = F.rt (.dat .none) n := propext Iff.rfl
theorem dIfS_ap : dIfS t ts us F env n = t env n fun k n1 => if k = true then ts F env n1 else us F env n1 := propext Iff.rfl
theorem dDrop_ap : dDrop ta F env n = ta env n fun _ n1 => F.nx env n1 := propext Iff.rfl
theorem dAsg_ap : dAsg i ta F env n = ta env n fun d n1 => F.nx (env.set i (some d)) n1 := propext Iff.rfl
theorem dAsgOwn_ap : dAsgOwn i tl F env n = tl env n fun xs n1 => match allD xs with | some ds => ds.length ≤ 1000 ∧ F.nx (env.set i (some (.own ds))) n1 | none => False := propext Iff.rfl
theorem dFreeze_ap : dFreeze i ts F env n = (match env[i]? with | some (some (.own ds)) => ts F (env.set i (some (LV ds))) n | _ => False) := propext Iff.rfl
theorem dAppend_ap : dAppend i ta F env n = (match env[i]? with
  | some (some (.own _)) => ta env n fun d n1 => match env[i]?, d with
    | some (some (.own ds)), .dat y => ds.length < 5000 ∧ F.nx (env.set i (some (.own (ds ++ [y])))) n1
    | _, _ => False
  | _ => False) := propext Iff.rfl
theorem dUnp_ap : dUnp is ta F env n = ta env n fun d n1 => unpK is F env d n1 := propext Iff.rfl
theorem unpT_ap (ds : List PyData) : unpK is F env (.dat (.tuple ds)) n = (ds.length = is.length ∧ F.nx (setAll env is ds) n) := propext Iff.rfl
theorem unpF_ap (q : Rat) : unpK [i, j] F env (.dat (fr q)) n = F.nx ((env.set i (some (IV q.num))).set j (some (IV (q.den : Int)))) n := propext ⟨fun h => h.2, fun h => ⟨rfl, h⟩⟩
theorem dPar_ap : dPar i j tl F env n = tl env n fun xs n1 => match xs with | [x, y] => F.nx ((env.set i (some x)).set j (some y)) n1 | _ => False := propext Iff.rfl
theorem dPar3_ap : dPar3 i j l tl F env n = tl env n fun xs n1 => match xs with | [x, y, z] => F.nx (((env.set i (some x)).set j (some y)).set l (some z)) n1 | _ => False := propext Iff.rfl
theorem dParO2_ap : dParO2 i j F env n = (i ≠ j ∧ F.nx ((env.set i (some (.own []))).set j (some (.own []))) n) := propext Iff.rfl
theorem dParO3_ap : dParO3 i j l ta F env n = (i ≠ j ∧ ta env n fun d n1 => F.nx (((env.set i (some (.own []))).set j (some (.own []))).set l (some d)) n1) := propext Iff.rfl
theorem dParOD_ap : dParOD i j ta F env n = ta env n fun d n1 => F.nx ((env.set i (some (.own []))).set j (some d)) n1 := propext Iff.rfl
theorem dParDO_ap : dParDO i j ta F env n = ta env n fun d n1 => F.nx ((env.set i (some d)).set j (some (.own []))) n1 := propext Iff.rfl
theorem dBreak_ap : dBreak F env n = F.bk env n := propext Iff.rfl
theorem dCont_ap : dCont F env n = F.ct env n := propext Iff.rfl
end
section
variable (i j a b : Int) (ds fs : List PyData) (d f : PyData) (C : Int → Int → Prop) (g : Int → Int → PyData) (R : DV → Prop) (q : Rat) (x y : Bool) (u v : Str)
theorem oI_ap : oI C g (.dat (.int i)) (.dat (.int j)) R = (C i j ∧ R (.dat (g i j))) := propext Iff.rfl
theorem oI0_ap : oI0 g (.dat (.int i)) (.dat (.int j)) R = R (.dat (g i j)) := propext Iff.rfl
theorem oNeg_ap : oNeg (.dat (.int i)) R = R (IV (-i)) := propext Iff.rfl
theorem oEq_ap : oEq (.dat d) (.dat f) R = (SeqAt.shaped d = true ∧ SeqAt.shaped f = true ∧ R (BV (PyData.eqv d f))) := propext Iff.rfl
theorem oNe_ap : oNe (.dat d) (.dat f) R = (SeqAt.shaped d = true ∧ SeqAt.shaped f = true ∧ R (BV (!PyData.eqv d f))) := propext Iff.rfl
theorem oIxT_ap : oIxT (.dat (.tuple ds)) (.dat (.int i)) R = (match L2.atI ds i with | some d => R (.dat d) | none => False) := propext Iff.rfl
theorem oIxL_ap : oIxL (.dat (.list ds)) (.dat (.int i)) R = (match L2.atI ds i with | some d => R (.dat d) | none => False) := propext Iff.rfl
theorem oIx0_ap : oIxT (.dat (fr q)) (.dat (.int 0)) R = R (IV q.num) := fr_at0 q R
theorem oIx1_ap : oIxT (.dat (fr q)) (.dat (.int 1)) R = R (IV (q.den : Int)) := fr_at1 q R
theorem oIsN_ap : oIsN (.dat d) (.dat .none) R = R (BV (isNone d)) := propext Iff.rfl
theorem oNotN_ap : oNotN (.dat d) (.dat .none) R = R (BV (!isNone d)) := propext Iff.rfl
theorem oIsB_ap : oIsB (.dat (.bool x)) (.dat (.bool y)) R = R (BV (decide (x = y))) := propext Iff.rfl
theorem oNotB_ap : oNotB (.dat (.bool x)) (.dat (.bool y)) R = R (BV (!decide (x = y))) := propext Iff.rfl
theorem oEqS_ap : oEqS (.dat (.str u)) (.dat (.str v)) R = R (BV (decide (u = v))) := propext Iff.rfl
theorem oCat_ap : oCat (.dat (.list ds)) (.dat (.list fs)) R = (ds.length ≤ 100000 ∧ fs.length ≤ 100000 ∧ R (LV (ds ++ fs))) := propext Iff.rfl
theorem oCatA_ap : oCatA (.dat (.tuple ds)) (.dat (.tuple fs)) R = (ds.length ≤ 100000 ∧ fs.length ≤ 100000 ∧ R (TV (ds ++ fs))) := propext Iff.rfl
theorem oRepL_ap : oRepL (.dat (.list ds)) (.dat (.int i)) R = (0 ≤ i ∧ i ≤ 1000 ∧ ds.length ≤ 1000 ∧ R (LV (List.replicate i.toNat ds).flatten)) := propext Iff.rfl
theorem oLenT_ap : oLen [.dat (.tuple ds)] R = R (IV ds.length) := propext Iff.rfl
theorem oLenL_ap : oLen [.dat (.list ds)] R = R (IV ds.length) := propext Iff.rfl
theorem oAbs_ap : oAbs [.dat (.int i)] R = R (IV (if i < 0 then -i else i)) := propext Iff.rfl
theorem oInt_ap : oInt [.dat (.int i)] R = R (IV i) := propext Iff.rfl
theorem oGcd_ap : oGcd [.dat (.int i), .dat (.int j)] R = R (IV ((Nat.gcd i.natAbs j.natAbs : Nat) : Int)) := propext Iff.rfl
theorem oListT_ap : oList [.dat (.tuple ds)] R = R (LV ds) := propext Iff.rfl
theorem oListL_ap : oList [.dat (.list ds)] R = R (LV ds) := propext Iff.rfl
theorem oTupT_ap : oTupOf [.dat (.tuple ds)] R = R (TV ds) := propext Iff.rfl
theorem oTupL_ap : oTupOf [.dat (.list ds)] R = R (TV ds) := propext Iff.rfl
theorem oMin_ap : oMin [.dat (.int i), .dat (.int j)] R = R (IV (if j < i then j else i)) := propext Iff.rfl
theorem oSum_ap : oSum [.dat (.list ds)] R = (∃ ns : List Int, ds = ns.map .int ∧ R (IV ns.sum)) := propext Iff.rfl
theorem oMax_ap : oMax [.dat (.list ds)] R = (∃ (ns : List Int) (m : Int), ds = ns.map .int ∧ m ∈ ns ∧ (∀ y, y ∈ ns → y ≤ m) ∧ R (IV m)) := propext Iff.rfl
theorem oMinL_ap : oMinL [.dat (.list ds)] R = (∃ (ns : List Int) (m : Int), ds = ns.map .int ∧ m ∈ ns ∧ (∀ y, y ∈ ns → m ≤ y) ∧ R (IV m)) := propext Iff.rfl
theorem oLcm4_ap : oLcm4 [.dat (.int i), .dat (.int j), .dat (.int a), .dat (.int b)] R = ((i.natAbs < 2 ^ 500 ∧ j.natAbs < 2 ^ 500 ∧ a.natAbs < 2 ^ 500 ∧ b.natAbs < 2 ^ 500) ∧ R (IV (L4 i j a b : Nat))) := propext Iff.rfl
theorem allD_ap (r : List DV) : allD (.dat d :: r) = (match allD r with | some ds => some (d :: ds) | none => none) := Eq.trans rfl rfl
theorem fr_int_ap : PyData.tuple [.int i, .int 1] = fr (i : Rat) := Eq.trans (fr_int i) rfl
theorem allD_nil : allD [] = some [] := Eq.trans rfl rfl
theorem setAll_ap (env : En) (k : Nat) (is : List Nat) : setAll env (k :: is) (d :: ds) = setAll (env.set k (some (.dat d))) is ds := Eq.trans rfl rfl
theorem setAll_nil (env : En) : setAll env [] ds = env := by cases ds <;> rfl
end
end Sx

set_option Elab.async false
set_option linter.all false
set_option maxRecDepth 100000
set_option maxHeartbeats 4000000
/-! Sw: powers; a mean's things; floor sums -/
namespace Sx
open PySem PySem.Spec L2
theorem powZ_B {b : Int} (h : B 10 b.natAbs) (i : Nat) : B (10 * i + 1) (b ^ i).natAbs := by
  unfold B at *
  rw [Int.natAbs_pow]
  have h1 : b.natAbs ^ i ≤ (2 ^ 10) ^ i := Nat.pow_le_pow_left (Nat.le_of_lt h) i
  rw [← Nat.pow_mul] at h1
  exact Nat.lt_of_le_of_lt h1 (Nat.pow_lt_pow_right (by decide) (by omega))
def s_power : DSp := fun ds n R => ∃ b : Int, ∃ N : Nat, ds = [IV b, IV (N : Int)] ∧ B 10 b.natAbs ∧ N ≤ 1000 ∧ R (IV (b ^ N)) n
/-- power. Slots: base, number, result, square -/
def t_power : DTS :=
  (dSeq (dAsg 2 (dC (.int 1)))
  (dSeq (dAsg 3 (dVar 0))
  (dSeq (dWhile (dTest (dOp oGt (dVar 1) (dC (.int 0)))) (dSeq (dIfS (dTest (dOp oEq (dOp oOdd (dVar 1) (dC (.int 1))) (dC (.int 1)))) (dAsg 2 (dOp oMul (dVar 2) (dVar 3))) dNext)
  (dSeq (dAsg 1 (dOp oHalf (dVar 1) (dC (.int 1))))
  (dIfS (dTest (dOp oGt (dVar 1) (dC (.int 0)))) (dAsg 3 (dOp oMul (dVar 3) (dVar 3))) dNext))))
  (dRet (dVar 2)))))
theorem p_power (ds : List DV) (n : Nat) (R : DV → Nat → Prop) (hh : s_power ds n R) : Goal t_power 4 ds n R := by
  obtain ⟨b, N, rfl, hb, hN, k⟩ := hh
  unfold Goal t_power
  simp only [↓oOdd_ap, ↓oHalf_ap, ↓dAsg2_ap, ↓dTruL_ap, ↓dCatOwn_ap, ↓oRepT_ap, ↓dParDX_ap, ↓dVar_ap, ↓dC_ap, ↓dOp_ap, ↓dUn_ap, ↓dCB_ap, ↓dCall_ap, ↓dCallId_ap, ↓dNil_ap, ↓dCons_ap, ↓dTup_ap, ↓dLst_ap, ↓dTest_ap, ↓dNot_ap, ↓dAnd_ap, ↓dOr_ap, ↓dIf_ap, ↓dAndV_ap, ↓dOrV_ap, ↓dNotV_ap, ↓dChain_ap, ↓dChain3_ap, ↓dTy_ap, ↓dIsi_ap, ↓dNoPart_ap, ↓dPart_ap, ↓dSliceL_ap, ↓dSliceA_ap, ↓dPeekT_ap, ↓dPeekI_ap, ↓dYes_ap, ↓dNext_ap, ↓dSeq_ap, ↓dRet_ap, ↓dRetN_ap, ↓dIfS_ap, ↓dDrop_ap, ↓dAsg_ap, ↓dAsgOwn_ap, ↓dFreeze_ap, ↓dAppend_ap, ↓dUnp_ap, ↓unpF_ap, ↓unpT_ap, ↓dPar_ap, ↓dPar3_ap, ↓dParO2_ap, ↓dParO3_ap, ↓dParOD_ap, ↓dParDO_ap, ↓dBreak_ap, ↓dCont_ap, ↓oI_ap, ↓oI0_ap, ↓oNeg_ap, ↓oEq_ap, ↓oNe_ap, ↓oIxT_ap, ↓oIxL_ap, ↓oIx0_ap, ↓oIx1_ap, ↓oIsN_ap, ↓oNotN_ap, ↓oIsB_ap, ↓oNotB_ap, ↓oEqS_ap, ↓oCat_ap, ↓oCatA_ap, ↓oRepL_ap, ↓oLenT_ap, ↓oLenL_ap, ↓oAbs_ap, ↓oInt_ap, ↓oGcd_ap, ↓oListT_ap, ↓oListL_ap, ↓oTupT_ap, ↓oTupL_ap, ↓oMin_ap, ↓oSum_ap, ↓oMax_ap, ↓oMinL_ap, ↓oLcm4_ap, ↓allD_ap, ↓allD_nil, ↓setAll_ap, ↓setAll_nil, TV, LV, IV, BV, FV, atI_0, atI_1, atI_2, atI_3, List.map_cons, List.map_nil, List.length_cons, List.length_nil, List.set_cons_zero, List.set_cons_succ, List.getElem?_cons_zero, List.getElem?_cons_succ, List.cons_append, List.nil_append, Nat.reduceAdd, Nat.reduceSub, Nat.reduceLeDiff, List.replicate, Bool.false_eq_true, if_false, if_true, ite_true, ite_false, true_and, and_true, Bool.not_true, Bool.not_false, decide_true, decide_false, entry, isNone_fr, isNone_non, isNone_tup, isNone_list, isNone_int, isNone_bool, pId, pRev, pR3, pR4, pR5, ↓dCallK_ap]
  refine ⟨fun m env m' => m' = n ∧ ∃ i j : Nat, ∃ s : Int, i + j * m = N ∧ (0 < m → s = b ^ j) ∧ env = [some (IV b), some (IV (m : Int)), some (IV (b ^ i)), some (IV s)], ⟨N, rfl, 0, 1, b, by omega, fun _ => by rw [Int.pow_succ, Int.pow_zero, Int.one_mul], by rw [Int.pow_zero]⟩, ?_⟩
  rintro m env m' ⟨rfl, i, j, s, e, hs, rfl⟩
  by_cases h0 : m = 0
  · subst h0
    have ei : i = N := by omega
    subst ei
    have d0 : ¬ (0 : Int) < ((0 : Nat) : Int) := by omega
    simp only [↓oOdd_ap, ↓oHalf_ap, ↓dAsg2_ap, ↓dTruL_ap, ↓dCatOwn_ap, ↓oRepT_ap, ↓dParDX_ap, ↓dVar_ap, ↓dC_ap, ↓dOp_ap, ↓dUn_ap, ↓dCB_ap, ↓dCall_ap, ↓dCallId_ap, ↓dNil_ap, ↓dCons_ap, ↓dTup_ap, ↓dLst_ap, ↓dTest_ap, ↓dNot_ap, ↓dAnd_ap, ↓dOr_ap, ↓dIf_ap, ↓dAndV_ap, ↓dOrV_ap, ↓dNotV_ap, ↓dChain_ap, ↓dChain3_ap, ↓dTy_ap, ↓dIsi_ap, ↓dNoPart_ap, ↓dPart_ap, ↓dSliceL_ap, ↓dSliceA_ap, ↓dPeekT_ap, ↓dPeekI_ap, ↓dYes_ap, ↓dNext_ap, ↓dSeq_ap, ↓dRet_ap, ↓dRetN_ap, ↓dIfS_ap, ↓dDrop_ap, ↓dAsg_ap, ↓dAsgOwn_ap, ↓dFreeze_ap, ↓dAppend_ap, ↓dUnp_ap, ↓unpF_ap, ↓unpT_ap, ↓dPar_ap, ↓dPar3_ap, ↓dParO2_ap, ↓dParO3_ap, ↓dParOD_ap, ↓dParDO_ap, ↓dBreak_ap, ↓dCont_ap, ↓oI_ap, ↓oI0_ap, ↓oNeg_ap, ↓oEq_ap, ↓oNe_ap, ↓oIxT_ap, ↓oIxL_ap, ↓oIx0_ap, ↓oIx1_ap, ↓oIsN_ap, ↓oNotN_ap, ↓oIsB_ap, ↓oNotB_ap, ↓oEqS_ap, ↓oCat_ap, ↓oCatA_ap, ↓oRepL_ap, ↓oLenT_ap, ↓oLenL_ap, ↓oAbs_ap, ↓oInt_ap, ↓oGcd_ap, ↓oListT_ap, ↓oListL_ap, ↓oTupT_ap, ↓oTupL_ap, ↓oMin_ap, ↓oSum_ap, ↓oMax_ap, ↓oMinL_ap, ↓oLcm4_ap, ↓allD_ap, ↓allD_nil, ↓setAll_ap, ↓setAll_nil, TV, LV, IV, BV, FV, atI_0, atI_1, atI_2, atI_3, List.map_cons, List.map_nil, List.length_cons, List.length_nil, List.set_cons_zero, List.set_cons_succ, List.getElem?_cons_zero, List.getElem?_cons_succ, List.cons_append, List.nil_append, Nat.reduceAdd, Nat.reduceSub, Nat.reduceLeDiff, List.replicate, Bool.false_eq_true, if_false, if_true, ite_true, ite_false, true_and, and_true, Bool.not_true, Bool.not_false, decide_true, decide_false, entry, isNone_fr, isNone_non, isNone_tup, isNone_list, isNone_int, isNone_bool, pId, pRev, pR3, pR4, pR5, ↓dCallK_ap, decide_eq_false d0]
    exact k
  · have m0 : (0 : Int) < (m : Int) := by omega
    have es := hs (by omega)
    subst es
    have jm : j ≤ N := by
      have : j * 1 ≤ j * m := Nat.mul_le_mul_left j (by omega)
      omega
    have dm : j * m = j * (m % 2) + 2 * j * (m / 2) := by
      have h := Nat.div_add_mod m 2
      have h2 : j * m = j * (2 * (m / 2) + m % 2) := by rw [h]
      rw [h2, Nat.mul_add]
      have : j * (2 * (m / 2)) = 2 * j * (m / 2) := by rw [← Nat.mul_assoc, Nat.mul_comm j 2]
      omega
    have c1 : CMulW (b ^ i) (b ^ j) := mulB (powZ_B hb i |>.mono (show _ ≤ 10001 by omega)) (powZ_B hb j |>.mono (show _ ≤ 10001 by omega)) (by decide)
    have c2 : CMulW (b ^ j) (b ^ j) := mulB (powZ_B hb j |>.mono (show _ ≤ 10001 by omega)) (powZ_B hb j |>.mono (show _ ≤ 10001 by omega)) (by decide)
    have ed : ((m : Int) / 2) = ((m / 2 : Nat) : Int) := by omega
    simp only [↓oOdd_ap, ↓oHalf_ap, ↓dAsg2_ap, ↓dTruL_ap, ↓dCatOwn_ap, ↓oRepT_ap, ↓dParDX_ap, ↓dVar_ap, ↓dC_ap, ↓dOp_ap, ↓dUn_ap, ↓dCB_ap, ↓dCall_ap, ↓dCallId_ap, ↓dNil_ap, ↓dCons_ap, ↓dTup_ap, ↓dLst_ap, ↓dTest_ap, ↓dNot_ap, ↓dAnd_ap, ↓dOr_ap, ↓dIf_ap, ↓dAndV_ap, ↓dOrV_ap, ↓dNotV_ap, ↓dChain_ap, ↓dChain3_ap, ↓dTy_ap, ↓dIsi_ap, ↓dNoPart_ap, ↓dPart_ap, ↓dSliceL_ap, ↓dSliceA_ap, ↓dPeekT_ap, ↓dPeekI_ap, ↓dYes_ap, ↓dNext_ap, ↓dSeq_ap, ↓dRet_ap, ↓dRetN_ap, ↓dIfS_ap, ↓dDrop_ap, ↓dAsg_ap, ↓dAsgOwn_ap, ↓dFreeze_ap, ↓dAppend_ap, ↓dUnp_ap, ↓unpF_ap, ↓unpT_ap, ↓dPar_ap, ↓dPar3_ap, ↓dParO2_ap, ↓dParO3_ap, ↓dParOD_ap, ↓dParDO_ap, ↓dBreak_ap, ↓dCont_ap, ↓oI_ap, ↓oI0_ap, ↓oNeg_ap, ↓oEq_ap, ↓oNe_ap, ↓oIxT_ap, ↓oIxL_ap, ↓oIx0_ap, ↓oIx1_ap, ↓oIsN_ap, ↓oNotN_ap, ↓oIsB_ap, ↓oNotB_ap, ↓oEqS_ap, ↓oCat_ap, ↓oCatA_ap, ↓oRepL_ap, ↓oLenT_ap, ↓oLenL_ap, ↓oAbs_ap, ↓oInt_ap, ↓oGcd_ap, ↓oListT_ap, ↓oListL_ap, ↓oTupT_ap, ↓oTupL_ap, ↓oMin_ap, ↓oSum_ap, ↓oMax_ap, ↓oMinL_ap, ↓oLcm4_ap, ↓allD_ap, ↓allD_nil, ↓setAll_ap, ↓setAll_nil, TV, LV, IV, BV, FV, atI_0, atI_1, atI_2, atI_3, List.map_cons, List.map_nil, List.length_cons, List.length_nil, List.set_cons_zero, List.set_cons_succ, List.getElem?_cons_zero, List.getElem?_cons_succ, List.cons_append, List.nil_append, Nat.reduceAdd, Nat.reduceSub, Nat.reduceLeDiff, List.replicate, Bool.false_eq_true, if_false, if_true, ite_true, ite_false, true_and, and_true, Bool.not_true, Bool.not_false, decide_true, decide_false, entry, isNone_fr, isNone_non, isNone_tup, isNone_list, isNone_int, isNone_bool, pId, pRev, pR3, pR4, pR5, ↓dCallK_ap, decide_eq_true m0]
    have sh : ∀ i : Int, SeqAt.shaped (.int i) = true := shaped_int
    have m2 : m / 2 < m := by omega
    have pp : ∀ a c : Nat, b ^ a * b ^ c = b ^ (a + c) := fun a c => (Int.pow_add b a c).symm
    by_cases hodd : m % 2 = 1
    · have eo : ((m : Int) % 2 == 1) = true := by
        have : (m : Int) % 2 = 1 := by omega
        rw [this]; rfl
      by_cases hp : 0 < m / 2
      · have d1 : (0 : Int) < (m : Int) / 2 := by omega
        simp only [eqv_int, eo, ↓oOdd_ap, ↓oHalf_ap, ↓dAsg2_ap, ↓dTruL_ap, ↓dCatOwn_ap, ↓oRepT_ap, ↓dParDX_ap, ↓dVar_ap, ↓dC_ap, ↓dOp_ap, ↓dUn_ap, ↓dCB_ap, ↓dCall_ap, ↓dCallId_ap, ↓dNil_ap, ↓dCons_ap, ↓dTup_ap, ↓dLst_ap, ↓dTest_ap, ↓dNot_ap, ↓dAnd_ap, ↓dOr_ap, ↓dIf_ap, ↓dAndV_ap, ↓dOrV_ap, ↓dNotV_ap, ↓dChain_ap, ↓dChain3_ap, ↓dTy_ap, ↓dIsi_ap, ↓dNoPart_ap, ↓dPart_ap, ↓dSliceL_ap, ↓dSliceA_ap, ↓dPeekT_ap, ↓dPeekI_ap, ↓dYes_ap, ↓dNext_ap, ↓dSeq_ap, ↓dRet_ap, ↓dRetN_ap, ↓dIfS_ap, ↓dDrop_ap, ↓dAsg_ap, ↓dAsgOwn_ap, ↓dFreeze_ap, ↓dAppend_ap, ↓dUnp_ap, ↓unpF_ap, ↓unpT_ap, ↓dPar_ap, ↓dPar3_ap, ↓dParO2_ap, ↓dParO3_ap, ↓dParOD_ap, ↓dParDO_ap, ↓dBreak_ap, ↓dCont_ap, ↓oI_ap, ↓oI0_ap, ↓oNeg_ap, ↓oEq_ap, ↓oNe_ap, ↓oIxT_ap, ↓oIxL_ap, ↓oIx0_ap, ↓oIx1_ap, ↓oIsN_ap, ↓oNotN_ap, ↓oIsB_ap, ↓oNotB_ap, ↓oEqS_ap, ↓oCat_ap, ↓oCatA_ap, ↓oRepL_ap, ↓oLenT_ap, ↓oLenL_ap, ↓oAbs_ap, ↓oInt_ap, ↓oGcd_ap, ↓oListT_ap, ↓oListL_ap, ↓oTupT_ap, ↓oTupL_ap, ↓oMin_ap, ↓oSum_ap, ↓oMax_ap, ↓oMinL_ap, ↓oLcm4_ap, ↓allD_ap, ↓allD_nil, ↓setAll_ap, ↓setAll_nil, TV, LV, IV, BV, FV, atI_0, atI_1, atI_2, atI_3, List.map_cons, List.map_nil, List.length_cons, List.length_nil, List.set_cons_zero, List.set_cons_succ, List.getElem?_cons_zero, List.getElem?_cons_succ, List.cons_append, List.nil_append, Nat.reduceAdd, Nat.reduceSub, Nat.reduceLeDiff, List.replicate, Bool.false_eq_true, if_false, if_true, ite_true, ite_false, true_and, and_true, Bool.not_true, Bool.not_false, decide_true, decide_false, entry, isNone_fr, isNone_non, isNone_tup, isNone_list, isNone_int, isNone_bool, pId, pRev, pR3, pR4, pR5, ↓dCallK_ap, decide_eq_true d1, pp, sh]
        rw [hodd] at dm
        refine ⟨by omega, c1, by omega, c2, m / 2, m2, i + j, j + j, b ^ (j + j), ?_, fun _ => rfl, by rw [ed]⟩
        have : (j + j) * (m / 2) = 2 * j * (m / 2) := by rw [Nat.two_mul]
        omega
      · have d1 : ¬ (0 : Int) < (m : Int) / 2 := by omega
        have m1 : m = 1 := by omega
        subst m1
        simp only [eqv_int, eo, ↓oOdd_ap, ↓oHalf_ap, ↓dAsg2_ap, ↓dTruL_ap, ↓dCatOwn_ap, ↓oRepT_ap, ↓dParDX_ap, ↓dVar_ap, ↓dC_ap, ↓dOp_ap, ↓dUn_ap, ↓dCB_ap, ↓dCall_ap, ↓dCallId_ap, ↓dNil_ap, ↓dCons_ap, ↓dTup_ap, ↓dLst_ap, ↓dTest_ap, ↓dNot_ap, ↓dAnd_ap, ↓dOr_ap, ↓dIf_ap, ↓dAndV_ap, ↓dOrV_ap, ↓dNotV_ap, ↓dChain_ap, ↓dChain3_ap, ↓dTy_ap, ↓dIsi_ap, ↓dNoPart_ap, ↓dPart_ap, ↓dSliceL_ap, ↓dSliceA_ap, ↓dPeekT_ap, ↓dPeekI_ap, ↓dYes_ap, ↓dNext_ap, ↓dSeq_ap, ↓dRet_ap, ↓dRetN_ap, ↓dIfS_ap, ↓dDrop_ap, ↓dAsg_ap, ↓dAsgOwn_ap, ↓dFreeze_ap, ↓dAppend_ap, ↓dUnp_ap, ↓unpF_ap, ↓unpT_ap, ↓dPar_ap, ↓dPar3_ap, ↓dParO2_ap, ↓dParO3_ap, ↓dParOD_ap, ↓dParDO_ap, ↓dBreak_ap, ↓dCont_ap, ↓oI_ap, ↓oI0_ap, ↓oNeg_ap, ↓oEq_ap, ↓oNe_ap, ↓oIxT_ap, ↓oIxL_ap, ↓oIx0_ap, ↓oIx1_ap, ↓oIsN_ap, ↓oNotN_ap, ↓oIsB_ap, ↓oNotB_ap, ↓oEqS_ap, ↓oCat_ap, ↓oCatA_ap, ↓oRepL_ap, ↓oLenT_ap, ↓oLenL_ap, ↓oAbs_ap, ↓oInt_ap, ↓oGcd_ap, ↓oListT_ap, ↓oListL_ap, ↓oTupT_ap, ↓oTupL_ap, ↓oMin_ap, ↓oSum_ap, ↓oMax_ap, ↓oMinL_ap, ↓oLcm4_ap, ↓allD_ap, ↓allD_nil, ↓setAll_ap, ↓setAll_nil, TV, LV, IV, BV, FV, atI_0, atI_1, atI_2, atI_3, List.map_cons, List.map_nil, List.length_cons, List.length_nil, List.set_cons_zero, List.set_cons_succ, List.getElem?_cons_zero, List.getElem?_cons_succ, List.cons_append, List.nil_append, Nat.reduceAdd, Nat.reduceSub, Nat.reduceLeDiff, List.replicate, Bool.false_eq_true, if_false, if_true, ite_true, ite_false, true_and, and_true, Bool.not_true, Bool.not_false, decide_true, decide_false, entry, isNone_fr, isNone_non, isNone_tup, isNone_list, isNone_int, isNone_bool, pId, pRev, pR3, pR4, pR5, ↓dCallK_ap, decide_eq_false d1, pp, sh]
        refine ⟨by omega, c1, by omega, 0, by omega, i + j, j, b ^ j, by omega, fun h => absurd h (by omega), rfl⟩
    · have m20 : m % 2 = 0 := by omega
      have eo : ((m : Int) % 2 == 1) = false := by
        have : (m : Int) % 2 = 0 := by omega
        rw [this]; rfl
      have d1 : (0 : Int) < (m : Int) / 2 := by omega
      simp only [eqv_int, eo, ↓oOdd_ap, ↓oHalf_ap, ↓dAsg2_ap, ↓dTruL_ap, ↓dCatOwn_ap, ↓oRepT_ap, ↓dParDX_ap, ↓dVar_ap, ↓dC_ap, ↓dOp_ap, ↓dUn_ap, ↓dCB_ap, ↓dCall_ap, ↓dCallId_ap, ↓dNil_ap, ↓dCons_ap, ↓dTup_ap, ↓dLst_ap, ↓dTest_ap, ↓dNot_ap, ↓dAnd_ap, ↓dOr_ap, ↓dIf_ap, ↓dAndV_ap, ↓dOrV_ap, ↓dNotV_ap, ↓dChain_ap, ↓dChain3_ap, ↓dTy_ap, ↓dIsi_ap, ↓dNoPart_ap, ↓dPart_ap, ↓dSliceL_ap, ↓dSliceA_ap, ↓dPeekT_ap, ↓dPeekI_ap, ↓dYes_ap, ↓dNext_ap, ↓dSeq_ap, ↓dRet_ap, ↓dRetN_ap, ↓dIfS_ap, ↓dDrop_ap, ↓dAsg_ap, ↓dAsgOwn_ap, ↓dFreeze_ap, ↓dAppend_ap, ↓dUnp_ap, ↓unpF_ap, ↓unpT_ap, ↓dPar_ap, ↓dPar3_ap, ↓dParO2_ap, ↓dParO3_ap, ↓dParOD_ap, ↓dParDO_ap, ↓dBreak_ap, ↓dCont_ap, ↓oI_ap, ↓oI0_ap, ↓oNeg_ap, ↓oEq_ap, ↓oNe_ap, ↓oIxT_ap, ↓oIxL_ap, ↓oIx0_ap, ↓oIx1_ap, ↓oIsN_ap, ↓oNotN_ap, ↓oIsB_ap, ↓oNotB_ap, ↓oEqS_ap, ↓oCat_ap, ↓oCatA_ap, ↓oRepL_ap, ↓oLenT_ap, ↓oLenL_ap, ↓oAbs_ap, ↓oInt_ap, ↓oGcd_ap, ↓oListT_ap, ↓oListL_ap, ↓oTupT_ap, ↓oTupL_ap, ↓oMin_ap, ↓oSum_ap, ↓oMax_ap, ↓oMinL_ap, ↓oLcm4_ap, ↓allD_ap, ↓allD_nil, ↓setAll_ap, ↓setAll_nil, TV, LV, IV, BV, FV, atI_0, atI_1, atI_2, atI_3, List.map_cons, List.map_nil, List.length_cons, List.length_nil, List.set_cons_zero, List.set_cons_succ, List.getElem?_cons_zero, List.getElem?_cons_succ, List.cons_append, List.nil_append, Nat.reduceAdd, Nat.reduceSub, Nat.reduceLeDiff, List.replicate, Bool.false_eq_true, if_false, if_true, ite_true, ite_false, true_and, and_true, Bool.not_true, Bool.not_false, decide_true, decide_false, entry, isNone_fr, isNone_non, isNone_tup, isNone_list, isNone_int, isNone_bool, pId, pRev, pR3, pR4, pR5, ↓dCallK_ap, decide_eq_true d1, pp, sh]
      rw [m20] at dm
      refine ⟨by omega, by omega, c2, m / 2, m2, i, j + j, b ^ (j + j), ?_, fun _ => rfl, by rw [ed]⟩
      have : (j + j) * (m / 2) = 2 * j * (m / 2) := by rw [Nat.two_mul]
      omega
theorem e_power (b : Int) (N : Nat) (n : Nat) (R : DV → Nat → Prop) : s_power [IV b, IV (N : Int)] n R = (B 10 b.natAbs ∧ N ≤ 1000 ∧ R (IV (b ^ N)) n) := by
  refine propext ⟨?_, fun hh => ⟨b, N, rfl, hh⟩⟩
  rintro ⟨b', N', hh, rr⟩
  simp only [List.cons.injEq, DV.dat.injEq, PyData.tuple.injEq, PyData.int.injEq, PyData.list.injEq, fr_eq, natc_eq, and_true, true_and] at hh
  try simp only [hh]
  first | exact rr | (subst hh; exact rr)
/-! ### a mean's things -/
theorem ixF0 (q : Rat) (f : DV → Prop) : oIxT (.dat (fr q)) (.dat (.int 0)) f = f (.dat (.int q.num)) := propext Iff.rfl
theorem ixF1 (q : Rat) (f : DV → Prop) : oIxT (.dat (fr q)) (.dat (.int 1)) f = f (.dat (.int (q.den : Int))) := propext Iff.rfl
def upT (q : Rat) (t : Int) : Int := -((-t * q.num) / (q.den : Int))
def thK (q : Rat) (t : Nat) : Int := upT q ((t : Int) + 1) - upT q (t : Int)
def thD (q : Rat) (N : Nat) : List PyData := (List.range N).map fun t => .int (thK q t)
def upD' (q : Rat) (N : Nat) : List PyData := (List.range N).map fun t : Nat => .int (upT q (t : Int))
theorem thD_len (q : Rat) (N : Nat) : (thD q N).length = N := by simp [thD]
theorem thD_succ (q : Rat) (N : Nat) : thD q N ++ [.int (thK q N)] = thD q (N + 1) := by simp [thD, List.range_succ]
theorem upD'_len (q : Rat) (N : Nat) : (upD' q N).length = N := by simp [upD']
theorem upD'_succ (q : Rat) (N : Nat) : upD' q N ++ [.int (upT q (N : Int))] = upD' q (N + 1) := by simp [upD', List.range_succ]
theorem upD'_at {q : Rat} {N k : Nat} (hk : k < N) : (upD' q N)[k]? = some (.int (upT q (k : Int))) := by
  simp only [upD', List.getElem?_map, List.getElem?_range hk, Option.map_some]
theorem thD_get {q : Rat} {N k : Nat} {d : PyData} (e : (thD q N)[k]? = some d) : k < N ∧ d = .int (thK q k) := by
  simp only [thD, List.getElem?_map] at e
  by_cases hk : k < N
  · rw [List.getElem?_range hk] at e
    simp at e
    exact ⟨hk, e.symm⟩
  · rw [List.getElem?_eq_none (by simp; omega)] at e
    simp at e
def s_ticks_up_to : DSp := fun ds n R => ∃ q : Rat, ∃ t : Int, ds = [FV q, IV t] ∧ Sz 100 q ∧ B 100 t.natAbs ∧ R (IV (upT q t)) n
def s_things_of : DSp := fun ds n R => ∃ q : Rat, ds = [FV q] ∧ Sz 100 q ∧ q.den ≤ 900 ∧ R (TV (thD q q.den)) n
/-- ticks_up_to. Slots: mean, number -/
def t_ticks_up_to : DTS :=
  (dRet (dUn oNeg (dOp oDiv (dOp oMul (dUn oNeg (dVar 1)) (dOp oIxT (dVar 0) (dC (.int 0)))) (dOp oIxT (dVar 0) (dC (.int 1))))))
/-- things_of. Slots: mean, sums, at -/
def t_things_of : DTS :=
  (dSeq (dAsg 1 (dLcR 2 (dOp oAdd (dOp oIxT (dVar 0) (dC (.int 1))) (dC (.int 1))) dYes (dCall s_ticks_up_to (dCons (dVar 0) (dCons (dVar 2) dNil)))))
  (dRet (dCB oTupOf (dCons (dLcR 2 (dOp oIxT (dVar 0) (dC (.int 1))) dYes (dOp oSub (dOp oIxL (dVar 1) (dOp oAdd (dVar 2) (dC (.int 1)))) (dOp oIxL (dVar 1) (dVar 2)))) dNil))))
theorem e_ticks_up_to (q : Rat) (t : Int) (n : Nat) (R : DV → Nat → Prop) : s_ticks_up_to [FV q, IV t] n R = (Sz 100 q ∧ B 100 t.natAbs ∧ R (IV (upT q t)) n) := by
  refine propext ⟨?_, fun hh => ⟨q, t, rfl, hh⟩⟩
  rintro ⟨q', t', hh, rr⟩
  simp only [List.cons.injEq, DV.dat.injEq, PyData.tuple.injEq, PyData.int.injEq, PyData.list.injEq, fr_eq, natc_eq, and_true, true_and] at hh
  try simp only [hh]
  first | exact rr | (subst hh; exact rr)
theorem e_things_of (q : Rat) (n : Nat) (R : DV → Nat → Prop) : s_things_of [FV q] n R = (Sz 100 q ∧ q.den ≤ 900 ∧ R (TV (thD q q.den)) n) := by
  refine propext ⟨?_, fun hh => ⟨q, rfl, hh⟩⟩
  rintro ⟨q', hh, rr⟩
  simp only [List.cons.injEq, DV.dat.injEq, PyData.tuple.injEq, PyData.int.injEq, PyData.list.injEq, fr_eq, natc_eq, and_true, true_and] at hh
  try simp only [hh]
  first | exact rr | (subst hh; exact rr)
theorem p_ticks_up_to (ds : List DV) (n : Nat) (R : DV → Nat → Prop) (hh : s_ticks_up_to ds n R) : Goal t_ticks_up_to 2 ds n R := by
  obtain ⟨q, t, rfl, zq, bt, k⟩ := hh
  have bt' : B 100 (-t).natAbs := by rw [Int.natAbs_neg]; exact bt
  unfold Goal t_ticks_up_to
  simp only [↓oOdd_ap, ↓oHalf_ap, ↓dAsg2_ap, ↓dTruL_ap, ↓dCatOwn_ap, ↓oRepT_ap, ↓dParDX_ap, ↓dVar_ap, ↓dC_ap, ↓dOp_ap, ↓dUn_ap, ↓dCB_ap, ↓dCall_ap, ↓dCallId_ap, ↓dNil_ap, ↓dCons_ap, ↓dTup_ap, ↓dLst_ap, ↓dTest_ap, ↓dNot_ap, ↓dAnd_ap, ↓dOr_ap, ↓dIf_ap, ↓dAndV_ap, ↓dOrV_ap, ↓dNotV_ap, ↓dChain_ap, ↓dChain3_ap, ↓dTy_ap, ↓dIsi_ap, ↓dNoPart_ap, ↓dPart_ap, ↓dSliceL_ap, ↓dSliceA_ap, ↓dPeekT_ap, ↓dPeekI_ap, ↓dYes_ap, ↓dNext_ap, ↓dSeq_ap, ↓dRet_ap, ↓dRetN_ap, ↓dIfS_ap, ↓dDrop_ap, ↓dAsg_ap, ↓dAsgOwn_ap, ↓dFreeze_ap, ↓dAppend_ap, ↓dUnp_ap, ↓unpF_ap, ↓unpT_ap, ↓dPar_ap, ↓dPar3_ap, ↓dParO2_ap, ↓dParO3_ap, ↓dParOD_ap, ↓dParDO_ap, ↓dBreak_ap, ↓dCont_ap, ↓oI_ap, ↓oI0_ap, ↓oNeg_ap, ↓oEq_ap, ↓oNe_ap, ↓oIxT_ap, ↓oIxL_ap, ↓oIx0_ap, ↓oIx1_ap, ↓oIsN_ap, ↓oNotN_ap, ↓oIsB_ap, ↓oNotB_ap, ↓oEqS_ap, ↓oCat_ap, ↓oCatA_ap, ↓oRepL_ap, ↓oLenT_ap, ↓oLenL_ap, ↓oAbs_ap, ↓oInt_ap, ↓oGcd_ap, ↓oListT_ap, ↓oListL_ap, ↓oTupT_ap, ↓oTupL_ap, ↓oMin_ap, ↓oSum_ap, ↓oMax_ap, ↓oMinL_ap, ↓oLcm4_ap, ↓allD_ap, ↓allD_nil, ↓setAll_ap, ↓setAll_nil, TV, LV, IV, BV, FV, atI_0, atI_1, atI_2, atI_3, List.map_cons, List.map_nil, List.length_cons, List.length_nil, List.set_cons_zero, List.set_cons_succ, List.getElem?_cons_zero, List.getElem?_cons_succ, List.cons_append, List.nil_append, Nat.reduceAdd, Nat.reduceSub, Nat.reduceLeDiff, List.replicate, Bool.false_eq_true, if_false, if_true, ite_true, ite_false, true_and, and_true, Bool.not_true, Bool.not_false, decide_true, decide_false, entry, isNone_fr, isNone_non, isNone_tup, isNone_list, isNone_int, isNone_bool, pId, pRev, pR3, pR4, pR5, ↓dCallK_ap, ↓ixF0, ↓ixF1]
  exact ⟨mulB bt' zq.n (by decide), ⟨by have := q.den_pos; omega, logB (den_B zq) (by decide)⟩, k⟩
theorem p_things_of (ds : List DV) (n : Nat) (R : DV → Nat → Prop) (hh : s_things_of ds n R) : Goal t_things_of 3 ds n R := by
  obtain ⟨q, rfl, zq, hq, k⟩ := hh
  have B10 : ∀ i : Int, i.natAbs ≤ 1000 → B 100 i.natAbs := fun i h => (B.of (show i.natAbs < 2 ^ 10 by omega) : B 10 i.natAbs).mono (by decide)
  unfold Goal t_things_of
  have dp := q.den_pos
  simp only [↓oOdd_ap, ↓oHalf_ap, ↓dAsg2_ap, ↓dTruL_ap, ↓dCatOwn_ap, ↓oRepT_ap, ↓dParDX_ap, ↓dVar_ap, ↓dC_ap, ↓dOp_ap, ↓dUn_ap, ↓dCB_ap, ↓dCall_ap, ↓dCallId_ap, ↓dNil_ap, ↓dCons_ap, ↓dTup_ap, ↓dLst_ap, ↓dTest_ap, ↓dNot_ap, ↓dAnd_ap, ↓dOr_ap, ↓dIf_ap, ↓dAndV_ap, ↓dOrV_ap, ↓dNotV_ap, ↓dChain_ap, ↓dChain3_ap, ↓dTy_ap, ↓dIsi_ap, ↓dNoPart_ap, ↓dPart_ap, ↓dSliceL_ap, ↓dSliceA_ap, ↓dPeekT_ap, ↓dPeekI_ap, ↓dYes_ap, ↓dNext_ap, ↓dSeq_ap, ↓dRet_ap, ↓dRetN_ap, ↓dIfS_ap, ↓dDrop_ap, ↓dAsg_ap, ↓dAsgOwn_ap, ↓dFreeze_ap, ↓dAppend_ap, ↓dUnp_ap, ↓unpF_ap, ↓unpT_ap, ↓dPar_ap, ↓dPar3_ap, ↓dParO2_ap, ↓dParO3_ap, ↓dParOD_ap, ↓dParDO_ap, ↓dBreak_ap, ↓dCont_ap, ↓oI_ap, ↓oI0_ap, ↓oNeg_ap, ↓oEq_ap, ↓oNe_ap, ↓oIxT_ap, ↓oIxL_ap, ↓oIx0_ap, ↓oIx1_ap, ↓oIsN_ap, ↓oNotN_ap, ↓oIsB_ap, ↓oNotB_ap, ↓oEqS_ap, ↓oCat_ap, ↓oCatA_ap, ↓oRepL_ap, ↓oLenT_ap, ↓oLenL_ap, ↓oAbs_ap, ↓oInt_ap, ↓oGcd_ap, ↓oListT_ap, ↓oListL_ap, ↓oTupT_ap, ↓oTupL_ap, ↓oMin_ap, ↓oSum_ap, ↓oMax_ap, ↓oMinL_ap, ↓oLcm4_ap, ↓allD_ap, ↓allD_nil, ↓setAll_ap, ↓setAll_nil, TV, LV, IV, BV, FV, atI_0, atI_1, atI_2, atI_3, List.map_cons, List.map_nil, List.length_cons, List.length_nil, List.set_cons_zero, List.set_cons_succ, List.getElem?_cons_zero, List.getElem?_cons_succ, List.cons_append, List.nil_append, Nat.reduceAdd, Nat.reduceSub, Nat.reduceLeDiff, List.replicate, Bool.false_eq_true, if_false, if_true, ite_true, ite_false, true_and, and_true, Bool.not_true, Bool.not_false, decide_true, decide_false, entry, isNone_fr, isNone_non, isNone_tup, isNone_list, isNone_int, isNone_bool, pId, pRev, pR3, pR4, pR5, ↓dCallK_ap]
  simp only [dLcR, ↓oOdd_ap, ↓oHalf_ap, ↓dAsg2_ap, ↓dTruL_ap, ↓dCatOwn_ap, ↓oRepT_ap, ↓dParDX_ap, ↓dVar_ap, ↓dC_ap, ↓dOp_ap, ↓dUn_ap, ↓dCB_ap, ↓dCall_ap, ↓dCallId_ap, ↓dNil_ap, ↓dCons_ap, ↓dTup_ap, ↓dLst_ap, ↓dTest_ap, ↓dNot_ap, ↓dAnd_ap, ↓dOr_ap, ↓dIf_ap, ↓dAndV_ap, ↓dOrV_ap, ↓dNotV_ap, ↓dChain_ap, ↓dChain3_ap, ↓dTy_ap, ↓dIsi_ap, ↓dNoPart_ap, ↓dPart_ap, ↓dSliceL_ap, ↓dSliceA_ap, ↓dPeekT_ap, ↓dPeekI_ap, ↓dYes_ap, ↓dNext_ap, ↓dSeq_ap, ↓dRet_ap, ↓dRetN_ap, ↓dIfS_ap, ↓dDrop_ap, ↓dAsg_ap, ↓dAsgOwn_ap, ↓dFreeze_ap, ↓dAppend_ap, ↓dUnp_ap, ↓unpF_ap, ↓unpT_ap, ↓dPar_ap, ↓dPar3_ap, ↓dParO2_ap, ↓dParO3_ap, ↓dParOD_ap, ↓dParDO_ap, ↓dBreak_ap, ↓dCont_ap, ↓oI_ap, ↓oI0_ap, ↓oNeg_ap, ↓oEq_ap, ↓oNe_ap, ↓oIxT_ap, ↓oIxL_ap, ↓oIx0_ap, ↓oIx1_ap, ↓oIsN_ap, ↓oNotN_ap, ↓oIsB_ap, ↓oNotB_ap, ↓oEqS_ap, ↓oCat_ap, ↓oCatA_ap, ↓oRepL_ap, ↓oLenT_ap, ↓oLenL_ap, ↓oAbs_ap, ↓oInt_ap, ↓oGcd_ap, ↓oListT_ap, ↓oListL_ap, ↓oTupT_ap, ↓oTupL_ap, ↓oMin_ap, ↓oSum_ap, ↓oMax_ap, ↓oMinL_ap, ↓oLcm4_ap, ↓allD_ap, ↓allD_nil, ↓setAll_ap, ↓setAll_nil, TV, LV, IV, BV, FV, atI_0, atI_1, atI_2, atI_3, List.map_cons, List.map_nil, List.length_cons, List.length_nil, List.set_cons_zero, List.set_cons_succ, List.getElem?_cons_zero, List.getElem?_cons_succ, List.cons_append, List.nil_append, Nat.reduceAdd, Nat.reduceSub, Nat.reduceLeDiff, List.replicate, Bool.false_eq_true, if_false, if_true, ite_true, ite_false, true_and, and_true, Bool.not_true, Bool.not_false, decide_true, decide_false, entry, isNone_fr, isNone_non, isNone_tup, isNone_list, isNone_int, isNone_bool, pId, pRev, pR3, pR4, pR5, ↓dCallK_ap, ↓ixF0, ↓ixF1]
  refine ⟨by omega, by omega, fun i acc m => m = n ∧ acc = upD' q i, ⟨rfl, rfl⟩, fun i hi => ?_, fun acc m ha => ?_⟩
  · rintro acc m ⟨rfl, rfl⟩
    simp only [↓oOdd_ap, ↓oHalf_ap, ↓dAsg2_ap, ↓dTruL_ap, ↓dCatOwn_ap, ↓oRepT_ap, ↓dParDX_ap, ↓dVar_ap, ↓dC_ap, ↓dOp_ap, ↓dUn_ap, ↓dCB_ap, ↓dCall_ap, ↓dCallId_ap, ↓dNil_ap, ↓dCons_ap, ↓dTup_ap, ↓dLst_ap, ↓dTest_ap, ↓dNot_ap, ↓dAnd_ap, ↓dOr_ap, ↓dIf_ap, ↓dAndV_ap, ↓dOrV_ap, ↓dNotV_ap, ↓dChain_ap, ↓dChain3_ap, ↓dTy_ap, ↓dIsi_ap, ↓dNoPart_ap, ↓dPart_ap, ↓dSliceL_ap, ↓dSliceA_ap, ↓dPeekT_ap, ↓dPeekI_ap, ↓dYes_ap, ↓dNext_ap, ↓dSeq_ap, ↓dRet_ap, ↓dRetN_ap, ↓dIfS_ap, ↓dDrop_ap, ↓dAsg_ap, ↓dAsgOwn_ap, ↓dFreeze_ap, ↓dAppend_ap, ↓dUnp_ap, ↓unpF_ap, ↓unpT_ap, ↓dPar_ap, ↓dPar3_ap, ↓dParO2_ap, ↓dParO3_ap, ↓dParOD_ap, ↓dParDO_ap, ↓dBreak_ap, ↓dCont_ap, ↓oI_ap, ↓oI0_ap, ↓oNeg_ap, ↓oEq_ap, ↓oNe_ap, ↓oIxT_ap, ↓oIxL_ap, ↓oIx0_ap, ↓oIx1_ap, ↓oIsN_ap, ↓oNotN_ap, ↓oIsB_ap, ↓oNotB_ap, ↓oEqS_ap, ↓oCat_ap, ↓oCatA_ap, ↓oRepL_ap, ↓oLenT_ap, ↓oLenL_ap, ↓oAbs_ap, ↓oInt_ap, ↓oGcd_ap, ↓oListT_ap, ↓oListL_ap, ↓oTupT_ap, ↓oTupL_ap, ↓oMin_ap, ↓oSum_ap, ↓oMax_ap, ↓oMinL_ap, ↓oLcm4_ap, ↓allD_ap, ↓allD_nil, ↓setAll_ap, ↓setAll_nil, TV, LV, IV, BV, FV, atI_0, atI_1, atI_2, atI_3, List.map_cons, List.map_nil, List.length_cons, List.length_nil, List.set_cons_zero, List.set_cons_succ, List.getElem?_cons_zero, List.getElem?_cons_succ, List.cons_append, List.nil_append, Nat.reduceAdd, Nat.reduceSub, Nat.reduceLeDiff, List.replicate, Bool.false_eq_true, if_false, if_true, ite_true, ite_false, true_and, and_true, Bool.not_true, Bool.not_false, decide_true, decide_false, entry, isNone_fr, isNone_non, isNone_tup, isNone_list, isNone_int, isNone_bool, pId, pRev, pR3, pR4, pR5, ↓dCallK_ap, ↓e_ticks_up_to]
    exact ⟨zq, B10 _ (by omega), upD'_succ q i⟩
  · obtain ⟨rfl, rfl⟩ := ha
    have e1 : ((q.den : Int) + 1).toNat = q.den + 1 := by omega
    rw [e1]
    refine ⟨by omega, by omega, fun i acc m' => m' = m ∧ acc = thD q i, ⟨rfl, rfl⟩, fun i hi => ?_, fun acc m' ha => ?_⟩
    · rintro acc m' ⟨rfl, rfl⟩
      have hi' : i < q.den := by omega
      have a1 : atI (upD' q (q.den + 1)) (i : Int) = some (.int (upT q (i : Int))) := atI_nat (upD'_at (by omega))
      have a2 : atI (upD' q (q.den + 1)) ((i : Int) + 1) = some (.int (upT q ((i : Int) + 1))) := atI_nat (j := i + 1) (by
        rw [upD'_at (by omega)]
        have : ((i + 1 : Nat) : Int) = (i : Int) + 1 := by omega
        rw [this])
      simp only [↓oOdd_ap, ↓oHalf_ap, ↓dAsg2_ap, ↓dTruL_ap, ↓dCatOwn_ap, ↓oRepT_ap, ↓dParDX_ap, ↓dVar_ap, ↓dC_ap, ↓dOp_ap, ↓dUn_ap, ↓dCB_ap, ↓dCall_ap, ↓dCallId_ap, ↓dNil_ap, ↓dCons_ap, ↓dTup_ap, ↓dLst_ap, ↓dTest_ap, ↓dNot_ap, ↓dAnd_ap, ↓dOr_ap, ↓dIf_ap, ↓dAndV_ap, ↓dOrV_ap, ↓dNotV_ap, ↓dChain_ap, ↓dChain3_ap, ↓dTy_ap, ↓dIsi_ap, ↓dNoPart_ap, ↓dPart_ap, ↓dSliceL_ap, ↓dSliceA_ap, ↓dPeekT_ap, ↓dPeekI_ap, ↓dYes_ap, ↓dNext_ap, ↓dSeq_ap, ↓dRet_ap, ↓dRetN_ap, ↓dIfS_ap, ↓dDrop_ap, ↓dAsg_ap, ↓dAsgOwn_ap, ↓dFreeze_ap, ↓dAppend_ap, ↓dUnp_ap, ↓unpF_ap, ↓unpT_ap, ↓dPar_ap, ↓dPar3_ap, ↓dParO2_ap, ↓dParO3_ap, ↓dParOD_ap, ↓dParDO_ap, ↓dBreak_ap, ↓dCont_ap, ↓oI_ap, ↓oI0_ap, ↓oNeg_ap, ↓oEq_ap, ↓oNe_ap, ↓oIxT_ap, ↓oIxL_ap, ↓oIx0_ap, ↓oIx1_ap, ↓oIsN_ap, ↓oNotN_ap, ↓oIsB_ap, ↓oNotB_ap, ↓oEqS_ap, ↓oCat_ap, ↓oCatA_ap, ↓oRepL_ap, ↓oLenT_ap, ↓oLenL_ap, ↓oAbs_ap, ↓oInt_ap, ↓oGcd_ap, ↓oListT_ap, ↓oListL_ap, ↓oTupT_ap, ↓oTupL_ap, ↓oMin_ap, ↓oSum_ap, ↓oMax_ap, ↓oMinL_ap, ↓oLcm4_ap, ↓allD_ap, ↓allD_nil, ↓setAll_ap, ↓setAll_nil, TV, LV, IV, BV, FV, atI_0, atI_1, atI_2, atI_3, List.map_cons, List.map_nil, List.length_cons, List.length_nil, List.set_cons_zero, List.set_cons_succ, List.getElem?_cons_zero, List.getElem?_cons_succ, List.cons_append, List.nil_append, Nat.reduceAdd, Nat.reduceSub, Nat.reduceLeDiff, List.replicate, Bool.false_eq_true, if_false, if_true, ite_true, ite_false, true_and, and_true, Bool.not_true, Bool.not_false, decide_true, decide_false, entry, isNone_fr, isNone_non, isNone_tup, isNone_list, isNone_int, isNone_bool, pId, pRev, pR3, pR4, pR5, ↓dCallK_ap, a1, a2]
      exact thD_succ q i
    · obtain ⟨rfl, rfl⟩ := ha
      have e2 : ((q.den : Int)).toNat = q.den := by omega
      rw [e2]
      exact k
/-! ### sums of a rhythm -/
def rsS (c q : Rat) : Nat → Int
  | 0 => 0
  | t + 1 => rsS c q t * c.num + thK q t * (c.den : Int) ^ t
theorem upT_B {q : Rat} {t : Int} (zq : Sz 100 q) (bt : B 10 t.natAbs) : B 110 (upT q t).natAbs := by
  have bt' : B 10 (-t).natAbs := by rw [Int.natAbs_neg]; exact bt
  have h := natAbs_mul_B bt' zq.n
  unfold upT
  rw [Int.natAbs_neg]
  exact h.le (Int.natAbs_ediv_le_natAbs _ _)
theorem thK_B {q : Rat} {t : Nat} (zq : Sz 100 q) (ht : t < 1000) : B 111 (thK q t).natAbs := by
  unfold thK
  refine natAbs_sub_B2 (upT_B zq (B.of ?_)) (upT_B zq (B.of ?_)) <;> omega
theorem rsS_B {c q : Rat} (zq : Sz 100 q) (zc : Sz 10 c) : ∀ t : Nat, t ≤ 900 → B (130 + 11 * t) (rsS c q t).natAbs
  | 0, _ => B.of (by show 0 < _; exact Nat.pow_pos (by decide))
  | t + 1, h => by
    have ih := rsS_B zq zc t (by omega)
    have h1 := natAbs_mul_B ih zc.n
    have h2 := natAbs_mul_B (thK_B (t := t) zq (by omega)) (powZ_B (den_B zc) t)
    have h3 := natAbs_add_B2 (h1.mono (show _ ≤ 140 + 11 * t by omega)) (h2.mono (show _ ≤ 140 + 11 * t by omega))
    exact h3.mono (by omega)
def s_rhythm_sum : DSp := fun ds n R => ∃ c q : Rat, ds = [FV c, FV q] ∧ Sz 10 c ∧ Sz 100 q ∧ q.den ≤ 300 ∧ R (IV (rsS c q q.den)) n
def s_weighed_sum : DSp := fun ds n R => ∃ c q : Rat, ds = [IV c.num, IV (c.den : Int), TV (thD q q.den)] ∧ Sz 10 c ∧ Sz 100 q ∧ q.den ≤ 300 ∧ R (IV (rsS c q q.den)) n
def s_powers_apart : DSp := fun ds n R => ∃ c : Rat, ∃ N : Nat, ds = [FV c, IV (N : Int)] ∧ Sz 10 c ∧ N ≤ 1000 ∧ R (IV ((c.den : Int) ^ N - c.num ^ N)) n
def t_weighed_sum_b1 : DTS :=
  (dSeq (dAsg 3 (dOp oAdd (dOp oMul (dVar 3) (dVar 0)) (dOp oMul (dVar 5) (dVar 4))))
  (dAsg 4 (dOp oMul (dVar 4) (dVar 1))))
/-- weighed_sum. Slots: above, below, things, total, weight, ticks -/
def t_weighed_sum : DTS :=
  (dSeq (dAsg 3 (dC (.int 0)))
  (dSeq (dAsg 4 (dC (.int 1)))
  (dSeq (dForT 5 (dVar 2) t_weighed_sum_b1)
  (dRet (dVar 3)))))
/-- rhythm_sum. Slots: part, mean -/
def t_rhythm_sum : DTS :=
  (dRet (dCall s_weighed_sum (dCons (dOp oIxT (dVar 0) (dC (.int 0))) (dCons (dOp oIxT (dVar 0) (dC (.int 1))) (dCons (dCall s_things_of (dCons (dVar 1) dNil)) dNil)))))
/-- powers_apart. Slots: part, number -/
def t_powers_apart : DTS :=
  (dRet (dOp oSub (dCall s_power (dCons (dOp oIxT (dVar 0) (dC (.int 1))) (dCons (dVar 1) dNil))) (dCall s_power (dCons (dOp oIxT (dVar 0) (dC (.int 0))) (dCons (dVar 1) dNil)))))
theorem e_rhythm_sum (c q : Rat) (n : Nat) (R : DV → Nat → Prop) : s_rhythm_sum [FV c, FV q] n R = (Sz 10 c ∧ Sz 100 q ∧ q.den ≤ 300 ∧ R (IV (rsS c q q.den)) n) := by
  refine propext ⟨?_, fun hh => ⟨c, q, rfl, hh⟩⟩
  rintro ⟨c', q', hh, rr⟩
  simp only [List.cons.injEq, DV.dat.injEq, PyData.tuple.injEq, PyData.int.injEq, PyData.list.injEq, fr_eq, natc_eq, and_true, true_and] at hh
  try simp only [hh]
  first | exact rr | (subst hh; exact rr)
theorem e_powers_apart (c : Rat) (N : Nat) (n : Nat) (R : DV → Nat → Prop) : s_powers_apart [FV c, IV (N : Int)] n R = (Sz 10 c ∧ N ≤ 1000 ∧ R (IV ((c.den : Int) ^ N - c.num ^ N)) n) := by
  refine propext ⟨?_, fun hh => ⟨c, N, rfl, hh⟩⟩
  rintro ⟨c', N', hh, rr⟩
  simp only [List.cons.injEq, DV.dat.injEq, PyData.tuple.injEq, PyData.int.injEq, PyData.list.injEq, fr_eq, natc_eq, and_true, true_and] at hh
  try simp only [hh]
  first | exact rr | (subst hh; exact rr)
theorem p_weighed_sum (ds : List DV) (n : Nat) (R : DV → Nat → Prop) (hh : s_weighed_sum ds n R) : Goal t_weighed_sum 6 ds n R := by
  obtain ⟨c, q, rfl, zc, zq, hq, k⟩ := hh
  have e0 : (c.den : Int) ^ 0 = 1 := Int.pow_zero _
  unfold Goal t_weighed_sum
  simp only [↓oOdd_ap, ↓oHalf_ap, ↓dAsg2_ap, ↓dTruL_ap, ↓dCatOwn_ap, ↓oRepT_ap, ↓dParDX_ap, ↓dVar_ap, ↓dC_ap, ↓dOp_ap, ↓dUn_ap, ↓dCB_ap, ↓dCall_ap, ↓dCallId_ap, ↓dNil_ap, ↓dCons_ap, ↓dTup_ap, ↓dLst_ap, ↓dTest_ap, ↓dNot_ap, ↓dAnd_ap, ↓dOr_ap, ↓dIf_ap, ↓dAndV_ap, ↓dOrV_ap, ↓dNotV_ap, ↓dChain_ap, ↓dChain3_ap, ↓dTy_ap, ↓dIsi_ap, ↓dNoPart_ap, ↓dPart_ap, ↓dSliceL_ap, ↓dSliceA_ap, ↓dPeekT_ap, ↓dPeekI_ap, ↓dYes_ap, ↓dNext_ap, ↓dSeq_ap, ↓dRet_ap, ↓dRetN_ap, ↓dIfS_ap, ↓dDrop_ap, ↓dAsg_ap, ↓dAsgOwn_ap, ↓dFreeze_ap, ↓dAppend_ap, ↓dUnp_ap, ↓unpF_ap, ↓unpT_ap, ↓dPar_ap, ↓dPar3_ap, ↓dParO2_ap, ↓dParO3_ap, ↓dParOD_ap, ↓dParDO_ap, ↓dBreak_ap, ↓dCont_ap, ↓oI_ap, ↓oI0_ap, ↓oNeg_ap, ↓oEq_ap, ↓oNe_ap, ↓oIxT_ap, ↓oIxL_ap, ↓oIx0_ap, ↓oIx1_ap, ↓oIsN_ap, ↓oNotN_ap, ↓oIsB_ap, ↓oNotB_ap, ↓oEqS_ap, ↓oCat_ap, ↓oCatA_ap, ↓oRepL_ap, ↓oLenT_ap, ↓oLenL_ap, ↓oAbs_ap, ↓oInt_ap, ↓oGcd_ap, ↓oListT_ap, ↓oListL_ap, ↓oTupT_ap, ↓oTupL_ap, ↓oMin_ap, ↓oSum_ap, ↓oMax_ap, ↓oMinL_ap, ↓oLcm4_ap, ↓allD_ap, ↓allD_nil, ↓setAll_ap, ↓setAll_nil, TV, LV, IV, BV, FV, atI_0, atI_1, atI_2, atI_3, List.map_cons, List.map_nil, List.length_cons, List.length_nil, List.set_cons_zero, List.set_cons_succ, List.getElem?_cons_zero, List.getElem?_cons_succ, List.cons_append, List.nil_append, Nat.reduceAdd, Nat.reduceSub, Nat.reduceLeDiff, List.replicate, Bool.false_eq_true, if_false, if_true, ite_true, ite_false, true_and, and_true, Bool.not_true, Bool.not_false, decide_true, decide_false, entry, isNone_fr, isNone_non, isNone_tup, isNone_list, isNone_int, isNone_bool, pId, pRev, pR3, pR4, pR5, ↓dCallK_ap]
  refine forT_go (thD q q.den) n (fun i env m => m = n ∧ i ≤ q.den ∧ ∃ o5, env = [some (IV c.num), some (IV (c.den : Int)), some (TV (thD q q.den)), some (IV (rsS c q i)), some (IV ((c.den : Int) ^ i)), o5]) (fun R' k' => ?_) ⟨rfl, by omega, none, by rw [e0]; rfl⟩ ?_ ?_
  · simp only [↓oOdd_ap, ↓oHalf_ap, ↓dAsg2_ap, ↓dTruL_ap, ↓dCatOwn_ap, ↓oRepT_ap, ↓dParDX_ap, ↓dVar_ap, ↓dC_ap, ↓dOp_ap, ↓dUn_ap, ↓dCB_ap, ↓dCall_ap, ↓dCallId_ap, ↓dNil_ap, ↓dCons_ap, ↓dTup_ap, ↓dLst_ap, ↓dTest_ap, ↓dNot_ap, ↓dAnd_ap, ↓dOr_ap, ↓dIf_ap, ↓dAndV_ap, ↓dOrV_ap, ↓dNotV_ap, ↓dChain_ap, ↓dChain3_ap, ↓dTy_ap, ↓dIsi_ap, ↓dNoPart_ap, ↓dPart_ap, ↓dSliceL_ap, ↓dSliceA_ap, ↓dPeekT_ap, ↓dPeekI_ap, ↓dYes_ap, ↓dNext_ap, ↓dSeq_ap, ↓dRet_ap, ↓dRetN_ap, ↓dIfS_ap, ↓dDrop_ap, ↓dAsg_ap, ↓dAsgOwn_ap, ↓dFreeze_ap, ↓dAppend_ap, ↓dUnp_ap, ↓unpF_ap, ↓unpT_ap, ↓dPar_ap, ↓dPar3_ap, ↓dParO2_ap, ↓dParO3_ap, ↓dParOD_ap, ↓dParDO_ap, ↓dBreak_ap, ↓dCont_ap, ↓oI_ap, ↓oI0_ap, ↓oNeg_ap, ↓oEq_ap, ↓oNe_ap, ↓oIxT_ap, ↓oIxL_ap, ↓oIx0_ap, ↓oIx1_ap, ↓oIsN_ap, ↓oNotN_ap, ↓oIsB_ap, ↓oNotB_ap, ↓oEqS_ap, ↓oCat_ap, ↓oCatA_ap, ↓oRepL_ap, ↓oLenT_ap, ↓oLenL_ap, ↓oAbs_ap, ↓oInt_ap, ↓oGcd_ap, ↓oListT_ap, ↓oListL_ap, ↓oTupT_ap, ↓oTupL_ap, ↓oMin_ap, ↓oSum_ap, ↓oMax_ap, ↓oMinL_ap, ↓oLcm4_ap, ↓allD_ap, ↓allD_nil, ↓setAll_ap, ↓setAll_nil, TV, LV, IV, BV, FV, atI_0, atI_1, atI_2, atI_3, List.map_cons, List.map_nil, List.length_cons, List.length_nil, List.set_cons_zero, List.set_cons_succ, List.getElem?_cons_zero, List.getElem?_cons_succ, List.cons_append, List.nil_append, Nat.reduceAdd, Nat.reduceSub, Nat.reduceLeDiff, List.replicate, Bool.false_eq_true, if_false, if_true, ite_true, ite_false, true_and, and_true, Bool.not_true, Bool.not_false, decide_true, decide_false, entry, isNone_fr, isNone_non, isNone_tup, isNone_list, isNone_int, isNone_bool, pId, pRev, pR3, pR4, pR5, ↓dCallK_ap]
    exact k'
  · rintro i d env m hd ⟨rfl, hi0, o6, rfl⟩
    obtain ⟨hi, rfl⟩ := thD_get hd
    have b1 := rsS_B zq zc i (by omega)
    have b2 := powZ_B (den_B zc) i
    have b3 := thK_B (t := i) zq (by omega)
    unfold t_weighed_sum_b1
    simp only [↓oOdd_ap, ↓oHalf_ap, ↓dAsg2_ap, ↓dTruL_ap, ↓dCatOwn_ap, ↓oRepT_ap, ↓dParDX_ap, ↓dVar_ap, ↓dC_ap, ↓dOp_ap, ↓dUn_ap, ↓dCB_ap, ↓dCall_ap, ↓dCallId_ap, ↓dNil_ap, ↓dCons_ap, ↓dTup_ap, ↓dLst_ap, ↓dTest_ap, ↓dNot_ap, ↓dAnd_ap, ↓dOr_ap, ↓dIf_ap, ↓dAndV_ap, ↓dOrV_ap, ↓dNotV_ap, ↓dChain_ap, ↓dChain3_ap, ↓dTy_ap, ↓dIsi_ap, ↓dNoPart_ap, ↓dPart_ap, ↓dSliceL_ap, ↓dSliceA_ap, ↓dPeekT_ap, ↓dPeekI_ap, ↓dYes_ap, ↓dNext_ap, ↓dSeq_ap, ↓dRet_ap, ↓dRetN_ap, ↓dIfS_ap, ↓dDrop_ap, ↓dAsg_ap, ↓dAsgOwn_ap, ↓dFreeze_ap, ↓dAppend_ap, ↓dUnp_ap, ↓unpF_ap, ↓unpT_ap, ↓dPar_ap, ↓dPar3_ap, ↓dParO2_ap, ↓dParO3_ap, ↓dParOD_ap, ↓dParDO_ap, ↓dBreak_ap, ↓dCont_ap, ↓oI_ap, ↓oI0_ap, ↓oNeg_ap, ↓oEq_ap, ↓oNe_ap, ↓oIxT_ap, ↓oIxL_ap, ↓oIx0_ap, ↓oIx1_ap, ↓oIsN_ap, ↓oNotN_ap, ↓oIsB_ap, ↓oNotB_ap, ↓oEqS_ap, ↓oCat_ap, ↓oCatA_ap, ↓oRepL_ap, ↓oLenT_ap, ↓oLenL_ap, ↓oAbs_ap, ↓oInt_ap, ↓oGcd_ap, ↓oListT_ap, ↓oListL_ap, ↓oTupT_ap, ↓oTupL_ap, ↓oMin_ap, ↓oSum_ap, ↓oMax_ap, ↓oMinL_ap, ↓oLcm4_ap, ↓allD_ap, ↓allD_nil, ↓setAll_ap, ↓setAll_nil, TV, LV, IV, BV, FV, atI_0, atI_1, atI_2, atI_3, List.map_cons, List.map_nil, List.length_cons, List.length_nil, List.set_cons_zero, List.set_cons_succ, List.getElem?_cons_zero, List.getElem?_cons_succ, List.cons_append, List.nil_append, Nat.reduceAdd, Nat.reduceSub, Nat.reduceLeDiff, List.replicate, Bool.false_eq_true, if_false, if_true, ite_true, ite_false, true_and, and_true, Bool.not_true, Bool.not_false, decide_true, decide_false, entry, isNone_fr, isNone_non, isNone_tup, isNone_list, isNone_int, isNone_bool, pId, pRev, pR3, pR4, pR5, ↓dCallK_ap]
    refine ⟨mulB (b1.mono (show _ ≤ 10030 by omega)) zc.n (by decide), mulB b3 (b2.mono (show _ ≤ 10030 by omega)) (by decide), mulB (b2.mono (show _ ≤ 10030 by omega)) (den_B zc) (by decide), by omega, some (IV (thK q i)), ?_⟩
    have : (c.den : Int) ^ i * (c.den : Int) = (c.den : Int) ^ (i + 1) := (Int.pow_succ _ _).symm
    rw [this]
    rfl
  · rintro env m ⟨rfl, hi0, o6, rfl⟩
    rw [thD_len]
    simp only [↓oOdd_ap, ↓oHalf_ap, ↓dAsg2_ap, ↓dTruL_ap, ↓dCatOwn_ap, ↓oRepT_ap, ↓dParDX_ap, ↓dVar_ap, ↓dC_ap, ↓dOp_ap, ↓dUn_ap, ↓dCB_ap, ↓dCall_ap, ↓dCallId_ap, ↓dNil_ap, ↓dCons_ap, ↓dTup_ap, ↓dLst_ap, ↓dTest_ap, ↓dNot_ap, ↓dAnd_ap, ↓dOr_ap, ↓dIf_ap, ↓dAndV_ap, ↓dOrV_ap, ↓dNotV_ap, ↓dChain_ap, ↓dChain3_ap, ↓dTy_ap, ↓dIsi_ap, ↓dNoPart_ap, ↓dPart_ap, ↓dSliceL_ap, ↓dSliceA_ap, ↓dPeekT_ap, ↓dPeekI_ap, ↓dYes_ap, ↓dNext_ap, ↓dSeq_ap, ↓dRet_ap, ↓dRetN_ap, ↓dIfS_ap, ↓dDrop_ap, ↓dAsg_ap, ↓dAsgOwn_ap, ↓dFreeze_ap, ↓dAppend_ap, ↓dUnp_ap, ↓unpF_ap, ↓unpT_ap, ↓dPar_ap, ↓dPar3_ap, ↓dParO2_ap, ↓dParO3_ap, ↓dParOD_ap, ↓dParDO_ap, ↓dBreak_ap, ↓dCont_ap, ↓oI_ap, ↓oI0_ap, ↓oNeg_ap, ↓oEq_ap, ↓oNe_ap, ↓oIxT_ap, ↓oIxL_ap, ↓oIx0_ap, ↓oIx1_ap, ↓oIsN_ap, ↓oNotN_ap, ↓oIsB_ap, ↓oNotB_ap, ↓oEqS_ap, ↓oCat_ap, ↓oCatA_ap, ↓oRepL_ap, ↓oLenT_ap, ↓oLenL_ap, ↓oAbs_ap, ↓oInt_ap, ↓oGcd_ap, ↓oListT_ap, ↓oListL_ap, ↓oTupT_ap, ↓oTupL_ap, ↓oMin_ap, ↓oSum_ap, ↓oMax_ap, ↓oMinL_ap, ↓oLcm4_ap, ↓allD_ap, ↓allD_nil, ↓setAll_ap, ↓setAll_nil, TV, LV, IV, BV, FV, atI_0, atI_1, atI_2, atI_3, List.map_cons, List.map_nil, List.length_cons, List.length_nil, List.set_cons_zero, List.set_cons_succ, List.getElem?_cons_zero, List.getElem?_cons_succ, List.cons_append, List.nil_append, Nat.reduceAdd, Nat.reduceSub, Nat.reduceLeDiff, List.replicate, Bool.false_eq_true, if_false, if_true, ite_true, ite_false, true_and, and_true, Bool.not_true, Bool.not_false, decide_true, decide_false, entry, isNone_fr, isNone_non, isNone_tup, isNone_list, isNone_int, isNone_bool, pId, pRev, pR3, pR4, pR5, ↓dCallK_ap]
    exact k
theorem p_rhythm_sum (ds : List DV) (n : Nat) (R : DV → Nat → Prop) (hh : s_rhythm_sum ds n R) : Goal t_rhythm_sum 2 ds n R := by
  obtain ⟨c, q, rfl, zc, zq, hq, k⟩ := hh
  unfold Goal t_rhythm_sum
  simp only [↓oOdd_ap, ↓oHalf_ap, ↓dAsg2_ap, ↓dTruL_ap, ↓dCatOwn_ap, ↓oRepT_ap, ↓dParDX_ap, ↓dVar_ap, ↓dC_ap, ↓dOp_ap, ↓dUn_ap, ↓dCB_ap, ↓dCall_ap, ↓dCallId_ap, ↓dNil_ap, ↓dCons_ap, ↓dTup_ap, ↓dLst_ap, ↓dTest_ap, ↓dNot_ap, ↓dAnd_ap, ↓dOr_ap, ↓dIf_ap, ↓dAndV_ap, ↓dOrV_ap, ↓dNotV_ap, ↓dChain_ap, ↓dChain3_ap, ↓dTy_ap, ↓dIsi_ap, ↓dNoPart_ap, ↓dPart_ap, ↓dSliceL_ap, ↓dSliceA_ap, ↓dPeekT_ap, ↓dPeekI_ap, ↓dYes_ap, ↓dNext_ap, ↓dSeq_ap, ↓dRet_ap, ↓dRetN_ap, ↓dIfS_ap, ↓dDrop_ap, ↓dAsg_ap, ↓dAsgOwn_ap, ↓dFreeze_ap, ↓dAppend_ap, ↓dUnp_ap, ↓unpF_ap, ↓unpT_ap, ↓dPar_ap, ↓dPar3_ap, ↓dParO2_ap, ↓dParO3_ap, ↓dParOD_ap, ↓dParDO_ap, ↓dBreak_ap, ↓dCont_ap, ↓oI_ap, ↓oI0_ap, ↓oNeg_ap, ↓oEq_ap, ↓oNe_ap, ↓oIxT_ap, ↓oIxL_ap, ↓oIx0_ap, ↓oIx1_ap, ↓oIsN_ap, ↓oNotN_ap, ↓oIsB_ap, ↓oNotB_ap, ↓oEqS_ap, ↓oCat_ap, ↓oCatA_ap, ↓oRepL_ap, ↓oLenT_ap, ↓oLenL_ap, ↓oAbs_ap, ↓oInt_ap, ↓oGcd_ap, ↓oListT_ap, ↓oListL_ap, ↓oTupT_ap, ↓oTupL_ap, ↓oMin_ap, ↓oSum_ap, ↓oMax_ap, ↓oMinL_ap, ↓oLcm4_ap, ↓allD_ap, ↓allD_nil, ↓setAll_ap, ↓setAll_nil, TV, LV, IV, BV, FV, atI_0, atI_1, atI_2, atI_3, List.map_cons, List.map_nil, List.length_cons, List.length_nil, List.set_cons_zero, List.set_cons_succ, List.getElem?_cons_zero, List.getElem?_cons_succ, List.cons_append, List.nil_append, Nat.reduceAdd, Nat.reduceSub, Nat.reduceLeDiff, List.replicate, Bool.false_eq_true, if_false, if_true, ite_true, ite_false, true_and, and_true, Bool.not_true, Bool.not_false, decide_true, decide_false, entry, isNone_fr, isNone_non, isNone_tup, isNone_list, isNone_int, isNone_bool, pId, pRev, pR3, pR4, pR5, ↓dCallK_ap, ↓ixF0, ↓ixF1, ↓e_things_of]
  exact ⟨zq, by omega, c, q, rfl, zc, zq, hq, k⟩
theorem p_powers_apart (ds : List DV) (n : Nat) (R : DV → Nat → Prop) (hh : s_powers_apart ds n R) : Goal t_powers_apart 2 ds n R := by
  obtain ⟨c, N, rfl, zc, hN, k⟩ := hh
  unfold Goal t_powers_apart
  simp only [↓oOdd_ap, ↓oHalf_ap, ↓dAsg2_ap, ↓dTruL_ap, ↓dCatOwn_ap, ↓oRepT_ap, ↓dParDX_ap, ↓dVar_ap, ↓dC_ap, ↓dOp_ap, ↓dUn_ap, ↓dCB_ap, ↓dCall_ap, ↓dCallId_ap, ↓dNil_ap, ↓dCons_ap, ↓dTup_ap, ↓dLst_ap, ↓dTest_ap, ↓dNot_ap, ↓dAnd_ap, ↓dOr_ap, ↓dIf_ap, ↓dAndV_ap, ↓dOrV_ap, ↓dNotV_ap, ↓dChain_ap, ↓dChain3_ap, ↓dTy_ap, ↓dIsi_ap, ↓dNoPart_ap, ↓dPart_ap, ↓dSliceL_ap, ↓dSliceA_ap, ↓dPeekT_ap, ↓dPeekI_ap, ↓dYes_ap, ↓dNext_ap, ↓dSeq_ap, ↓dRet_ap, ↓dRetN_ap, ↓dIfS_ap, ↓dDrop_ap, ↓dAsg_ap, ↓dAsgOwn_ap, ↓dFreeze_ap, ↓dAppend_ap, ↓dUnp_ap, ↓unpF_ap, ↓unpT_ap, ↓dPar_ap, ↓dPar3_ap, ↓dParO2_ap, ↓dParO3_ap, ↓dParOD_ap, ↓dParDO_ap, ↓dBreak_ap, ↓dCont_ap, ↓oI_ap, ↓oI0_ap, ↓oNeg_ap, ↓oEq_ap, ↓oNe_ap, ↓oIxT_ap, ↓oIxL_ap, ↓oIx0_ap, ↓oIx1_ap, ↓oIsN_ap, ↓oNotN_ap, ↓oIsB_ap, ↓oNotB_ap, ↓oEqS_ap, ↓oCat_ap, ↓oCatA_ap, ↓oRepL_ap, ↓oLenT_ap, ↓oLenL_ap, ↓oAbs_ap, ↓oInt_ap, ↓oGcd_ap, ↓oListT_ap, ↓oListL_ap, ↓oTupT_ap, ↓oTupL_ap, ↓oMin_ap, ↓oSum_ap, ↓oMax_ap, ↓oMinL_ap, ↓oLcm4_ap, ↓allD_ap, ↓allD_nil, ↓setAll_ap, ↓setAll_nil, TV, LV, IV, BV, FV, atI_0, atI_1, atI_2, atI_3, List.map_cons, List.map_nil, List.length_cons, List.length_nil, List.set_cons_zero, List.set_cons_succ, List.getElem?_cons_zero, List.getElem?_cons_succ, List.cons_append, List.nil_append, Nat.reduceAdd, Nat.reduceSub, Nat.reduceLeDiff, List.replicate, Bool.false_eq_true, if_false, if_true, ite_true, ite_false, true_and, and_true, Bool.not_true, Bool.not_false, decide_true, decide_false, entry, isNone_fr, isNone_non, isNone_tup, isNone_list, isNone_int, isNone_bool, pId, pRev, pR3, pR4, pR5, ↓dCallK_ap, ↓ixF0, ↓ixF1, ↓e_power]
  exact ⟨den_B zc, hN, zc.n, hN, k⟩
def Mean (q : Rat) : Prop := Bd q ∧ 1 ≤ q ∧ q.den ≤ 300
structure Prt (c : Rat) : Prop where
  b : Bd c
  c0 : 0 < c
  c1 : c < 1
  cd : (c.den : Int) ≤ 1000
def s_need_part_and_mean : DSp := fun ds n R => ∃ c q : Rat, ds = [FV c, FV q] ∧ Prt c ∧ Mean q ∧ R (.dat .none) n
def s_need_mean : DSp := fun ds n R => ∃ q : Rat, ds = [FV q] ∧ Mean q ∧ R (FV q) n
def s_is_any_mean : DSp := fun ds n R => ∃ q : Rat, ds = [FV q] ∧ Mean q ∧ R (BV true) n
/-- is_any_mean. Slots: value -/
def t_is_any_mean : DTS :=
  (dRet (dAndV (dCall s_is_fraction (dCons (dVar 0) dNil)) (dAndV (dOp oLe (dOp oIxT (dVar 0) (dC (.int 1))) (dOp oIxT (dVar 0) (dC (.int 0)))) (dOp oLe (dOp oIxT (dVar 0) (dC (.int 1))) (dC (.int 300))))))
/-- need_mean. Slots: mean -/
def t_need_mean : DTS :=
  (dSeq (dIfS (dNot (dTest (dCall s_is_any_mean (dCons (dVar 0) dNil)))) dNever dNext)
  (dRet (dVar 0)))
/-- need_part_and_mean. Slots: part, mean -/
def t_need_part_and_mean : DTS :=
  (dSeq (dDrop (dCall s_need_part (dCons (dVar 0) dNil)))
  (dDrop (dCall s_need_mean (dCons (dVar 1) dNil))))
theorem e_is_any_mean (q : Rat) (n : Nat) (R : DV → Nat → Prop) : s_is_any_mean [FV q] n R = (Mean q ∧ R (BV true) n) := by
  refine propext ⟨?_, fun hh => ⟨q, rfl, hh⟩⟩
  rintro ⟨q', hh, rr⟩
  simp only [List.cons.injEq, DV.dat.injEq, PyData.tuple.injEq, PyData.int.injEq, PyData.list.injEq, fr_eq, natc_eq, and_true, true_and] at hh
  try simp only [hh]
  first | exact rr | (subst hh; exact rr)
theorem e_need_mean (q : Rat) (n : Nat) (R : DV → Nat → Prop) : s_need_mean [FV q] n R = (Mean q ∧ R (FV q) n) := by
  refine propext ⟨?_, fun hh => ⟨q, rfl, hh⟩⟩
  rintro ⟨q', hh, rr⟩
  simp only [List.cons.injEq, DV.dat.injEq, PyData.tuple.injEq, PyData.int.injEq, PyData.list.injEq, fr_eq, natc_eq, and_true, true_and] at hh
  try simp only [hh]
  first | exact rr | (subst hh; exact rr)
theorem e_need_part_and_mean (c q : Rat) (n : Nat) (R : DV → Nat → Prop) : s_need_part_and_mean [FV c, FV q] n R = (Prt c ∧ Mean q ∧ R (.dat .none) n) := by
  refine propext ⟨?_, fun hh => ⟨c, q, rfl, hh⟩⟩
  rintro ⟨c', q', hh, rr⟩
  simp only [List.cons.injEq, DV.dat.injEq, PyData.tuple.injEq, PyData.int.injEq, PyData.list.injEq, fr_eq, natc_eq, and_true, true_and] at hh
  try simp only [hh]
  first | exact rr | (subst hh; exact rr)
theorem one_le_num {q : Rat} (h : 1 ≤ q) : (q.den : Int) ≤ q.num := by
  have h1 := q_den q
  have h2 := Rat.mul_le_mul_of_nonneg_right h (Rat.le_of_lt (den_q q))
  rw [h1, Rat.one_mul] at h2
  exact Rat.intCast_le_intCast.1 h2
theorem p_is_any_mean (ds : List DV) (n : Nat) (R : DV → Nat → Prop) (hh : s_is_any_mean ds n R) : Goal t_is_any_mean 1 ds n R := by
  obtain ⟨q, rfl, ⟨b, h1, h3⟩, k⟩ := hh
  have d1 := one_le_num h1
  have d2 : (q.den : Int) ≤ 300 := by omega
  unfold Goal t_is_any_mean
  simp only [↓oOdd_ap, ↓oHalf_ap, ↓dAsg2_ap, ↓dTruL_ap, ↓dCatOwn_ap, ↓oRepT_ap, ↓dParDX_ap, ↓dVar_ap, ↓dC_ap, ↓dOp_ap, ↓dUn_ap, ↓dCB_ap, ↓dCall_ap, ↓dCallId_ap, ↓dNil_ap, ↓dCons_ap, ↓dTup_ap, ↓dLst_ap, ↓dTest_ap, ↓dNot_ap, ↓dAnd_ap, ↓dOr_ap, ↓dIf_ap, ↓dAndV_ap, ↓dOrV_ap, ↓dNotV_ap, ↓dChain_ap, ↓dChain3_ap, ↓dTy_ap, ↓dIsi_ap, ↓dNoPart_ap, ↓dPart_ap, ↓dSliceL_ap, ↓dSliceA_ap, ↓dPeekT_ap, ↓dPeekI_ap, ↓dYes_ap, ↓dNext_ap, ↓dSeq_ap, ↓dRet_ap, ↓dRetN_ap, ↓dIfS_ap, ↓dDrop_ap, ↓dAsg_ap, ↓dAsgOwn_ap, ↓dFreeze_ap, ↓dAppend_ap, ↓dUnp_ap, ↓unpF_ap, ↓unpT_ap, ↓dPar_ap, ↓dPar3_ap, ↓dParO2_ap, ↓dParO3_ap, ↓dParOD_ap, ↓dParDO_ap, ↓dBreak_ap, ↓dCont_ap, ↓oI_ap, ↓oI0_ap, ↓oNeg_ap, ↓oEq_ap, ↓oNe_ap, ↓oIxT_ap, ↓oIxL_ap, ↓oIx0_ap, ↓oIx1_ap, ↓oIsN_ap, ↓oNotN_ap, ↓oIsB_ap, ↓oNotB_ap, ↓oEqS_ap, ↓oCat_ap, ↓oCatA_ap, ↓oRepL_ap, ↓oLenT_ap, ↓oLenL_ap, ↓oAbs_ap, ↓oInt_ap, ↓oGcd_ap, ↓oListT_ap, ↓oListL_ap, ↓oTupT_ap, ↓oTupL_ap, ↓oMin_ap, ↓oSum_ap, ↓oMax_ap, ↓oMinL_ap, ↓oLcm4_ap, ↓allD_ap, ↓allD_nil, ↓setAll_ap, ↓setAll_nil, TV, LV, IV, BV, FV, atI_0, atI_1, atI_2, atI_3, List.map_cons, List.map_nil, List.length_cons, List.length_nil, List.set_cons_zero, List.set_cons_succ, List.getElem?_cons_zero, List.getElem?_cons_succ, List.cons_append, List.nil_append, Nat.reduceAdd, Nat.reduceSub, Nat.reduceLeDiff, List.replicate, Bool.false_eq_true, if_false, if_true, ite_true, ite_false, true_and, and_true, Bool.not_true, Bool.not_false, decide_true, decide_false, entry, isNone_fr, isNone_non, isNone_tup, isNone_list, isNone_int, isNone_bool, pId, pRev, pR3, pR4, pR5, ↓dCallK_ap, ↓ixF0, ↓ixF1, ↓e_is_fraction, decide_eq_true d1, decide_eq_true d2]
  exact ⟨b, k⟩
theorem p_need_mean (ds : List DV) (n : Nat) (R : DV → Nat → Prop) (hh : s_need_mean ds n R) : Goal t_need_mean 1 ds n R := by
  obtain ⟨q, rfl, m, k⟩ := hh
  unfold Goal t_need_mean
  simp only [↓oOdd_ap, ↓oHalf_ap, ↓dAsg2_ap, ↓dTruL_ap, ↓dCatOwn_ap, ↓oRepT_ap, ↓dParDX_ap, ↓dVar_ap, ↓dC_ap, ↓dOp_ap, ↓dUn_ap, ↓dCB_ap, ↓dCall_ap, ↓dCallId_ap, ↓dNil_ap, ↓dCons_ap, ↓dTup_ap, ↓dLst_ap, ↓dTest_ap, ↓dNot_ap, ↓dAnd_ap, ↓dOr_ap, ↓dIf_ap, ↓dAndV_ap, ↓dOrV_ap, ↓dNotV_ap, ↓dChain_ap, ↓dChain3_ap, ↓dTy_ap, ↓dIsi_ap, ↓dNoPart_ap, ↓dPart_ap, ↓dSliceL_ap, ↓dSliceA_ap, ↓dPeekT_ap, ↓dPeekI_ap, ↓dYes_ap, ↓dNext_ap, ↓dSeq_ap, ↓dRet_ap, ↓dRetN_ap, ↓dIfS_ap, ↓dDrop_ap, ↓dAsg_ap, ↓dAsgOwn_ap, ↓dFreeze_ap, ↓dAppend_ap, ↓dUnp_ap, ↓unpF_ap, ↓unpT_ap, ↓dPar_ap, ↓dPar3_ap, ↓dParO2_ap, ↓dParO3_ap, ↓dParOD_ap, ↓dParDO_ap, ↓dBreak_ap, ↓dCont_ap, ↓oI_ap, ↓oI0_ap, ↓oNeg_ap, ↓oEq_ap, ↓oNe_ap, ↓oIxT_ap, ↓oIxL_ap, ↓oIx0_ap, ↓oIx1_ap, ↓oIsN_ap, ↓oNotN_ap, ↓oIsB_ap, ↓oNotB_ap, ↓oEqS_ap, ↓oCat_ap, ↓oCatA_ap, ↓oRepL_ap, ↓oLenT_ap, ↓oLenL_ap, ↓oAbs_ap, ↓oInt_ap, ↓oGcd_ap, ↓oListT_ap, ↓oListL_ap, ↓oTupT_ap, ↓oTupL_ap, ↓oMin_ap, ↓oSum_ap, ↓oMax_ap, ↓oMinL_ap, ↓oLcm4_ap, ↓allD_ap, ↓allD_nil, ↓setAll_ap, ↓setAll_nil, TV, LV, IV, BV, FV, atI_0, atI_1, atI_2, atI_3, List.map_cons, List.map_nil, List.length_cons, List.length_nil, List.set_cons_zero, List.set_cons_succ, List.getElem?_cons_zero, List.getElem?_cons_succ, List.cons_append, List.nil_append, Nat.reduceAdd, Nat.reduceSub, Nat.reduceLeDiff, List.replicate, Bool.false_eq_true, if_false, if_true, ite_true, ite_false, true_and, and_true, Bool.not_true, Bool.not_false, decide_true, decide_false, entry, isNone_fr, isNone_non, isNone_tup, isNone_list, isNone_int, isNone_bool, pId, pRev, pR3, pR4, pR5, ↓dCallK_ap, ↓e_is_any_mean]
  exact ⟨m, k⟩
theorem p_need_part_and_mean (ds : List DV) (n : Nat) (R : DV → Nat → Prop) (hh : s_need_part_and_mean ds n R) : Goal t_need_part_and_mean 2 ds n R := by
  obtain ⟨c, q, rfl, ⟨b, c0, c1, cd⟩, m, k⟩ := hh
  unfold Goal t_need_part_and_mean
  simp only [↓oOdd_ap, ↓oHalf_ap, ↓dAsg2_ap, ↓dTruL_ap, ↓dCatOwn_ap, ↓oRepT_ap, ↓dParDX_ap, ↓dVar_ap, ↓dC_ap, ↓dOp_ap, ↓dUn_ap, ↓dCB_ap, ↓dCall_ap, ↓dCallId_ap, ↓dNil_ap, ↓dCons_ap, ↓dTup_ap, ↓dLst_ap, ↓dTest_ap, ↓dNot_ap, ↓dAnd_ap, ↓dOr_ap, ↓dIf_ap, ↓dAndV_ap, ↓dOrV_ap, ↓dNotV_ap, ↓dChain_ap, ↓dChain3_ap, ↓dTy_ap, ↓dIsi_ap, ↓dNoPart_ap, ↓dPart_ap, ↓dSliceL_ap, ↓dSliceA_ap, ↓dPeekT_ap, ↓dPeekI_ap, ↓dYes_ap, ↓dNext_ap, ↓dSeq_ap, ↓dRet_ap, ↓dRetN_ap, ↓dIfS_ap, ↓dDrop_ap, ↓dAsg_ap, ↓dAsgOwn_ap, ↓dFreeze_ap, ↓dAppend_ap, ↓dUnp_ap, ↓unpF_ap, ↓unpT_ap, ↓dPar_ap, ↓dPar3_ap, ↓dParO2_ap, ↓dParO3_ap, ↓dParOD_ap, ↓dParDO_ap, ↓dBreak_ap, ↓dCont_ap, ↓oI_ap, ↓oI0_ap, ↓oNeg_ap, ↓oEq_ap, ↓oNe_ap, ↓oIxT_ap, ↓oIxL_ap, ↓oIx0_ap, ↓oIx1_ap, ↓oIsN_ap, ↓oNotN_ap, ↓oIsB_ap, ↓oNotB_ap, ↓oEqS_ap, ↓oCat_ap, ↓oCatA_ap, ↓oRepL_ap, ↓oLenT_ap, ↓oLenL_ap, ↓oAbs_ap, ↓oInt_ap, ↓oGcd_ap, ↓oListT_ap, ↓oListL_ap, ↓oTupT_ap, ↓oTupL_ap, ↓oMin_ap, ↓oSum_ap, ↓oMax_ap, ↓oMinL_ap, ↓oLcm4_ap, ↓allD_ap, ↓allD_nil, ↓setAll_ap, ↓setAll_nil, TV, LV, IV, BV, FV, atI_0, atI_1, atI_2, atI_3, List.map_cons, List.map_nil, List.length_cons, List.length_nil, List.set_cons_zero, List.set_cons_succ, List.getElem?_cons_zero, List.getElem?_cons_succ, List.cons_append, List.nil_append, Nat.reduceAdd, Nat.reduceSub, Nat.reduceLeDiff, List.replicate, Bool.false_eq_true, if_false, if_true, ite_true, ite_false, true_and, and_true, Bool.not_true, Bool.not_false, decide_true, decide_false, entry, isNone_fr, isNone_non, isNone_tup, isNone_list, isNone_int, isNone_bool, pId, pRev, pR3, pR4, pR5, ↓dCallK_ap, ↓e_need_part, ↓e_need_mean]
  exact ⟨b, c0, c1, cd, m, k⟩
/-! ### the floor sum -/
def fsP (c q : Rat) : Rat := (((c.den : Int) * (c.den : Int) * rsS c q q.den : Int) : Rat) / ((((c.den : Int) - c.num) * ((c.den : Int) ^ q.den - c.num ^ q.den) : Int) : Rat)
def s_floor_sum : DSp := fun ds n R => ∃ c q : Rat, ds = [FV c, FV q] ∧ Prt c ∧ Mean q ∧ R (FV (fsP c q)) n
/-- floor_sum. Slots: part, mean, rest, above -/
def t_floor_sum : DTS :=
  (dSeq (dDrop (dCall s_need_part_and_mean (dCons (dVar 0) (dCons (dVar 1) dNil))))
  (dSeq (dAsg 2 (dOp oSub (dOp oIxT (dVar 0) (dC (.int 1))) (dOp oIxT (dVar 0) (dC (.int 0)))))
  (dSeq (dAsg 3 (dOp oMul (dOp oMul (dOp oIxT (dVar 0) (dC (.int 1))) (dOp oIxT (dVar 0) (dC (.int 1)))) (dCall s_rhythm_sum (dCons (dVar 0) (dCons (dVar 1) dNil)))))
  (dRet (dCall s_reduced (dCons (dVar 3) (dCons (dOp oMul (dVar 2) (dCall s_powers_apart (dCons (dVar 0) (dCons (dOp oIxT (dVar 1) (dC (.int 1))) dNil)))) dNil)))))))
theorem e_floor_sum (c q : Rat) (n : Nat) (R : DV → Nat → Prop) : s_floor_sum [FV c, FV q] n R = (Prt c ∧ Mean q ∧ R (FV (fsP c q)) n) := by
  refine propext ⟨?_, fun hh => ⟨c, q, rfl, hh⟩⟩
  rintro ⟨c', q', hh, rr⟩
  simp only [List.cons.injEq, DV.dat.injEq, PyData.tuple.injEq, PyData.int.injEq, PyData.list.injEq, fr_eq, natc_eq, and_true, true_and] at hh
  try simp only [hh]
  first | exact rr | (subst hh; exact rr)
theorem pow_lt_pow {a b : Int} (h0 : 0 < a) (h : a < b) : ∀ n : Nat, a ^ (n + 1) < b ^ (n + 1)
  | 0 => by rw [Int.pow_succ, Int.pow_succ, Int.pow_zero, Int.pow_zero]; omega
  | n + 1 => by
    have ih := pow_lt_pow h0 h n
    have p : 0 < b ^ (n + 1) := Int.pow_pos (by omega)
    rw [Int.pow_succ a (n + 1), Int.pow_succ b (n + 1)]
    have h1 : a ^ (n + 1) * a < b ^ (n + 1) * a := Int.mul_lt_mul_of_pos_right ih h0
    have h2 : b ^ (n + 1) * a < b ^ (n + 1) * b := Int.mul_lt_mul_of_pos_left h p
    omega
theorem p_floor_sum (ds : List DV) (n : Nat) (R : DV → Nat → Prop) (hh : s_floor_sum ds n R) : Goal t_floor_sum 4 ds n R := by
  obtain ⟨c, q, rfl, C, M, k⟩ := hh
  have zq := M.1.sz
  have zc : Sz 10 c := (⟨C.b, C.c0, C.c1, C.cd, C.b, Rat.le_refl⟩ : Ht c c).zc
  have hq := M.2.2
  have q0 := q.den_pos
  unfold Goal t_floor_sum
  simp only [↓oOdd_ap, ↓oHalf_ap, ↓dAsg2_ap, ↓dTruL_ap, ↓dCatOwn_ap, ↓oRepT_ap, ↓dParDX_ap, ↓dVar_ap, ↓dC_ap, ↓dOp_ap, ↓dUn_ap, ↓dCB_ap, ↓dCall_ap, ↓dCallId_ap, ↓dNil_ap, ↓dCons_ap, ↓dTup_ap, ↓dLst_ap, ↓dTest_ap, ↓dNot_ap, ↓dAnd_ap, ↓dOr_ap, ↓dIf_ap, ↓dAndV_ap, ↓dOrV_ap, ↓dNotV_ap, ↓dChain_ap, ↓dChain3_ap, ↓dTy_ap, ↓dIsi_ap, ↓dNoPart_ap, ↓dPart_ap, ↓dSliceL_ap, ↓dSliceA_ap, ↓dPeekT_ap, ↓dPeekI_ap, ↓dYes_ap, ↓dNext_ap, ↓dSeq_ap, ↓dRet_ap, ↓dRetN_ap, ↓dIfS_ap, ↓dDrop_ap, ↓dAsg_ap, ↓dAsgOwn_ap, ↓dFreeze_ap, ↓dAppend_ap, ↓dUnp_ap, ↓unpF_ap, ↓unpT_ap, ↓dPar_ap, ↓dPar3_ap, ↓dParO2_ap, ↓dParO3_ap, ↓dParOD_ap, ↓dParDO_ap, ↓dBreak_ap, ↓dCont_ap, ↓oI_ap, ↓oI0_ap, ↓oNeg_ap, ↓oEq_ap, ↓oNe_ap, ↓oIxT_ap, ↓oIxL_ap, ↓oIx0_ap, ↓oIx1_ap, ↓oIsN_ap, ↓oNotN_ap, ↓oIsB_ap, ↓oNotB_ap, ↓oEqS_ap, ↓oCat_ap, ↓oCatA_ap, ↓oRepL_ap, ↓oLenT_ap, ↓oLenL_ap, ↓oAbs_ap, ↓oInt_ap, ↓oGcd_ap, ↓oListT_ap, ↓oListL_ap, ↓oTupT_ap, ↓oTupL_ap, ↓oMin_ap, ↓oSum_ap, ↓oMax_ap, ↓oMinL_ap, ↓oLcm4_ap, ↓allD_ap, ↓allD_nil, ↓setAll_ap, ↓setAll_nil, TV, LV, IV, BV, FV, atI_0, atI_1, atI_2, atI_3, List.map_cons, List.map_nil, List.length_cons, List.length_nil, List.set_cons_zero, List.set_cons_succ, List.getElem?_cons_zero, List.getElem?_cons_succ, List.cons_append, List.nil_append, Nat.reduceAdd, Nat.reduceSub, Nat.reduceLeDiff, List.replicate, Bool.false_eq_true, if_false, if_true, ite_true, ite_false, true_and, and_true, Bool.not_true, Bool.not_false, decide_true, decide_false, entry, isNone_fr, isNone_non, isNone_tup, isNone_list, isNone_int, isNone_bool, pId, pRev, pR3, pR4, pR5, ↓dCallK_ap, ↓ixF0, ↓ixF1, ↓e_need_part_and_mean, ↓e_rhythm_sum, ↓e_powers_apart, ↓e_reduced]
  have n0 : 0 < c.num := (num_pos_iff c).2 C.c0
  have n1 : c.num < (c.den : Int) := by
    have h1 := q_den c
    have h2 := Rat.mul_lt_mul_of_pos_right C.c1 (den_q c)
    rw [h1, Rat.one_mul] at h2
    exact Rat.intCast_lt_intCast.1 h2
  have ex : ∃ m, q.den = m + 1 := ⟨q.den - 1, by omega⟩
  obtain ⟨m, hm⟩ := ex
  have pw : c.num ^ q.den < (c.den : Int) ^ q.den := by rw [hm]; exact pow_lt_pow n0 n1 m
  have p0 : 0 < ((c.den : Int) - c.num) * ((c.den : Int) ^ q.den - c.num ^ q.den) := Int.mul_pos (by omega) (by omega)
  have bd := den_B zc
  have b1 := natAbs_mul_B bd bd
  have b2 := (rsS_B zq zc q.den (by omega)).mono (show _ ≤ 3500 by omega)
  have b3 := natAbs_sub_B2 bd zc.n
  have b4 := natAbs_sub_B2 ((powZ_B bd q.den).mono (show _ ≤ 3500 by omega)) ((powZ_B zc.n q.den).mono (show _ ≤ 3500 by omega))
  exact ⟨C, M, mulB bd bd (by decide), zc, zq, hq, mulB b1 b2 (by decide), zc, by omega, mulB b3 b4 (by decide), p0, (natAbs_mul_B b1 b2).mono (by decide), (natAbs_mul_B b3 b4).mono (by decide), k⟩
end Sx

set_option Elab.async false
set_option linter.all false
set_option maxRecDepth 100000
set_option maxHeartbeats 4000000
/-! Fsum: the sum of c ^ (M - 1) f M without end, f growing by P in Q -/
namespace Sx
def pwQ (c : Rat) : Nat → Rat
  | 0 => 1
  | k + 1 => pwQ c k * c
theorem pwQ_pos {c : Rat} (h : 0 < c) : ∀ n, 0 < pwQ c n
  | 0 => by show (0 : Rat) < 1; decide +kernel
  | n + 1 => Rat.mul_pos (pwQ_pos h n) h
theorem pwQ_lt {c : Rat} (h : 0 < c) (h1 : c < 1) : ∀ n, pwQ c (n + 1) < 1
  | 0 => by show 1 * c < 1; grind
  | n + 1 => by
    have a := pwQ_lt h h1 n
    have b := Rat.mul_lt_mul_of_pos_right a h
    show pwQ c (n + 1) * c < 1
    grind
theorem pwQ_add (c : Rat) (m : Nat) : ∀ n, pwQ c (m + n) = pwQ c m * pwQ c n
  | 0 => by show pwQ c m = pwQ c m * 1; grind
  | n + 1 => by
    show pwQ c (m + n) * c = pwQ c m * (pwQ c n * c)
    rw [pwQ_add c m n]; grind
/-- f (k + 1), .., f (k + n) by powers -/
def sgm (c : Rat) (f : Nat → Rat) (k : Nat) : Nat → Rat
  | 0 => 0
  | n + 1 => sgm c f k n + pwQ c n * f (k + n + 1)
theorem sgm_front (c : Rat) (f : Nat → Rat) (k : Nat) : ∀ n, sgm c f k (n + 1) = f (k + 1) + c * sgm c f (k + 1) n
  | 0 => by show 0 + 1 * f (k + 0 + 1) = f (k + 1) + c * 0; rw [Nat.add_zero]; grind
  | n + 1 => by
    have ih := sgm_front c f k n
    have e1 : sgm c f k (n + 1 + 1) = sgm c f k (n + 1) + pwQ c (n + 1) * f (k + (n + 1) + 1) := rfl
    have e2 : sgm c f (k + 1) (n + 1) = sgm c f (k + 1) n + pwQ c n * f (k + 1 + n + 1) := rfl
    have e3 : pwQ c (n + 1) = pwQ c n * c := rfl
    have e4 : k + (n + 1) + 1 = k + 1 + n + 1 := by omega
    rw [e1, e2, e3, e4, ih]
    generalize f (k + 1 + n + 1) = x
    generalize sgm c f (k + 1) n = y
    generalize pwQ c n = z
    grind
/-- f grows by P in Q steps -/
def Grow (f : Nat → Rat) (Q : Nat) (P : Rat) : Prop := ∀ k, f (k + Q) = f k + P
/-- the sum without end from k on -/
def tailS (c : Rat) (f : Nat → Rat) (Q : Nat) (P : Rat) (k : Nat) : Rat := sgm c f k Q / (1 - pwQ c Q) + P * pwQ c Q / ((1 - c) * (1 - pwQ c Q))
theorem tailS_step {c P : Rat} {f : Nat → Rat} {Q : Nat} (c1 : c < 1) (q1 : pwQ c Q < 1) (g : Grow f Q P) (k : Nat) : tailS c f Q P k = f (k + 1) + c * tailS c f Q P (k + 1) := by
  have h := sgm_front c f k Q
  have e1 : sgm c f k (Q + 1) = sgm c f k Q + pwQ c Q * f (k + Q + 1) := rfl
  have e2 : f (k + Q + 1) = f (k + 1) + P := by
    have := g (k + 1)
    have e : k + 1 + Q = k + Q + 1 := by omega
    rw [e] at this
    exact this
  rw [e1, e2] at h
  unfold tailS
  generalize sgm c f (k + 1) Q = y at *
  generalize sgm c f k Q = x at *
  generalize pwQ c Q = z at *
  generalize f (k + 1) = w at *
  have z1 : 1 - z ≠ 0 := by grind
  have z2 : 1 - c ≠ 0 := by grind
  have hy : c * y = x + z * (w + P) - w := by grind
  have e3 : c * (y / (1 - z) + P * z / ((1 - c) * (1 - z))) = (c * y) / (1 - z) + c * P * z / ((1 - c) * (1 - z)) := by grind
  rw [e3, hy]
  grind
theorem sgm_shift {c P : Rat} {f : Nat → Rat} {Q : Nat} (c1 : c < 1) (g : Grow f Q P) (k : Nat) : ∀ n, sgm c f (k + Q) n = sgm c f k n + P * ((1 - pwQ c n) / (1 - c))
  | 0 => by
    have z2 : 1 - c ≠ 0 := by grind
    show (0 : Rat) = 0 + P * ((1 - 1) / (1 - c))
    grind
  | n + 1 => by
    have ih := sgm_shift c1 g k n
    have e1 : sgm c f (k + Q) (n + 1) = sgm c f (k + Q) n + pwQ c n * f (k + Q + n + 1) := rfl
    have e2 : sgm c f k (n + 1) = sgm c f k n + pwQ c n * f (k + n + 1) := rfl
    have e3 : pwQ c (n + 1) = pwQ c n * c := rfl
    have e4 : f (k + Q + n + 1) = f (k + n + 1) + P := by
      have := g (k + n + 1)
      have e : k + n + 1 + Q = k + Q + n + 1 := by omega
      rw [e] at this
      exact this
    rw [e1, e2, e3, e4, ih]
    have z2 : 1 - c ≠ 0 := by grind
    generalize sgm c f k n = x
    generalize pwQ c n = z
    generalize f (k + n + 1) = w
    grind
theorem tailS_grow {c P : Rat} {f : Nat → Rat} {Q : Nat} (c1 : c < 1) (q1 : pwQ c Q < 1) (g : Grow f Q P) (k : Nat) : tailS c f Q P (k + Q) = tailS c f Q P k + P / (1 - c) := by
  unfold tailS
  rw [sgm_shift c1 g k Q]
  have z1 : 1 - pwQ c Q ≠ 0 := by grind
  have z2 : 1 - c ≠ 0 := by grind
  generalize sgm c f k Q = x
  generalize pwQ c Q = z at *
  grind
/-- the first n things, and the rest -/
theorem tailS_split {c P : Rat} {f : Nat → Rat} {Q : Nat} (c1 : c < 1) (q1 : pwQ c Q < 1) (g : Grow f Q P) (k : Nat) : ∀ n, sgm c f k n + pwQ c n * tailS c f Q P (k + n) = tailS c f Q P k
  | 0 => by show 0 + 1 * tailS c f Q P (k + 0) = _; rw [Nat.add_zero]; grind
  | n + 1 => by
    have ih := tailS_split c1 q1 g k n
    have st := tailS_step c1 q1 g (k + n)
    show sgm c f k n + pwQ c n * f (k + n + 1) + pwQ c n * c * tailS c f Q P (k + (n + 1)) = _
    have e : k + (n + 1) = k + n + 1 := by omega
    rw [e]
    rw [← ih, st]
    generalize tailS c f Q P (k + n + 1) = x
    generalize f (k + n + 1) = w
    generalize pwQ c n = z
    grind
theorem down_le {c : Rat} {D : Nat → Rat} (c0 : 0 < c) (h : ∀ k, c * D (k + 1) ≤ D k) (k : Nat) : ∀ n, pwQ c n * D (k + n) ≤ D k
  | 0 => by show 1 * D (k + 0) ≤ D k; rw [Nat.add_zero, Rat.one_mul]; exact Rat.le_refl
  | n + 1 => by
    have ih := down_le c0 h k n
    have z := Rat.mul_le_mul_of_nonneg_left (h (k + n)) (Rat.le_of_lt (pwQ_pos c0 n))
    show pwQ c n * c * D (k + (n + 1)) ≤ D k
    have e : k + (n + 1) = k + n + 1 := by omega
    rw [e, Rat.mul_assoc]
    exact Rat.le_trans z ih
theorem down_pos {c : Rat} {D : Nat → Rat} {Q : Nat} (c0 : 0 < c) (q1 : pwQ c Q < 1) (h : ∀ k, c * D (k + 1) ≤ D k) (p : ∀ k, D k ≤ D (k + Q)) (k : Nat) : 0 ≤ D k := by
  have a := down_le c0 h k Q
  have b := Rat.mul_le_mul_of_nonneg_left (p k) (Rat.le_of_lt (pwQ_pos c0 Q))
  have e : 0 ≤ D k * (1 - pwQ c Q) := by grind
  by_cases z : 0 ≤ D k
  · exact z
  · exfalso
    have z' : D k < 0 := Rat.not_le.1 z
    have y : 0 < 1 - pwQ c Q := by grind
    have := Rat.mul_lt_mul_of_pos_right z' y
    grind
theorem tailS_pos {c P : Rat} {f : Nat → Rat} {Q : Nat} (c0 : 0 < c) (c1 : c < 1) (q1 : pwQ c Q < 1) (g : Grow f Q P) (f0 : ∀ k, 0 ≤ f k) (P0 : 0 ≤ P) (k : Nat) : 0 ≤ tailS c f Q P k := by
  refine down_pos (Q := Q) c0 q1 (fun k => ?_) (fun k => ?_) k
  · rw [tailS_step c1 q1 g k]
    have := f0 (k + 1)
    grind
  · rw [tailS_grow c1 q1 g k]
    have y : 0 < 1 - c := by grind
    have : 0 ≤ P / (1 - c) := by
      rw [Rat.div_def]
      exact Rat.mul_nonneg P0 (Rat.le_of_lt (Rat.inv_pos.2 y))
    grind
theorem tailS_le {c P : Rat} {f f' : Nat → Rat} {Q : Nat} (c0 : 0 < c) (c1 : c < 1) (q1 : pwQ c Q < 1) (g : Grow f Q P) (g' : Grow f' Q P) (le : ∀ k, f k ≤ f' k) (k : Nat) : tailS c f Q P k ≤ tailS c f' Q P k := by
  have := down_pos (D := fun k => tailS c f' Q P k - tailS c f Q P k) (Q := Q) c0 q1 (fun k => ?_) (fun k => ?_) k
  · have h : 0 ≤ tailS c f' Q P k - tailS c f Q P k := this
    grind
  · show c * (tailS c f' Q P (k + 1) - tailS c f Q P (k + 1)) ≤ tailS c f' Q P k - tailS c f Q P k
    rw [tailS_step c1 q1 g k, tailS_step c1 q1 g' k]
    have := le (k + 1)
    grind
  · show tailS c f' Q P k - tailS c f Q P k ≤ tailS c f' Q P (k + Q) - tailS c f Q P (k + Q)
    rw [tailS_grow c1 q1 g k, tailS_grow c1 q1 g' k]
    grind
/-- the row r, 2 r, 3 r, .. -/
def linF (r : Rat) (k : Nat) : Rat := ((k : Int) : Rat) * r
theorem natc_add (a b : Nat) : (((a + b : Nat) : Int) : Rat) = ((a : Int) : Rat) + ((b : Int) : Rat) := by
  have : ((a + b : Nat) : Int) = (a : Int) + (b : Int) := by omega
  rw [this, Rat.intCast_add]
theorem linF_grow (r : Rat) (Q : Nat) : Grow (linF r) Q (((Q : Int) : Rat) * r) := fun k => by
  unfold linF
  rw [natc_add]
  grind
theorem tailS_lin {c r : Rat} {Q : Nat} (c0 : 0 < c) (c1 : c < 1) (q1 : pwQ c Q < 1) (k : Nat) : tailS c (linF r) Q (((Q : Int) : Rat) * r) k = (((k + 1 : Nat) : Int) : Rat) * r / (1 - c) + c * r / ((1 - c) * (1 - c)) := by
  have z2 : 1 - c ≠ 0 := by grind
  have g := linF_grow r Q
  have one : (((1 : Nat) : Int) : Rat) = 1 := rfl
  have st : ∀ k : Nat, (((k + 1 : Nat) : Int) : Rat) * r / (1 - c) + c * r / ((1 - c) * (1 - c)) = linF r (k + 1) + c * ((((k + 1 + 1 : Nat) : Int) : Rat) * r / (1 - c) + c * r / ((1 - c) * (1 - c))) := fun k => by
    unfold linF
    rw [natc_add (k + 1) 1, natc_add k 1, one]
    generalize ((k : Int) : Rat) = x
    grind
  have gr : ∀ k : Nat, (((k + Q + 1 : Nat) : Int) : Rat) * r / (1 - c) + c * r / ((1 - c) * (1 - c)) = (((k + 1 : Nat) : Int) : Rat) * r / (1 - c) + c * r / ((1 - c) * (1 - c)) + ((Q : Int) : Rat) * r / (1 - c) := fun k => by
    have e : k + Q + 1 = k + 1 + Q := by omega
    rw [e, natc_add (k + 1) Q]
    generalize (((k + 1 : Nat) : Int) : Rat) = x
    generalize ((Q : Int) : Rat) = y
    grind
  have h1 := down_pos (D := fun k => tailS c (linF r) Q (((Q : Int) : Rat) * r) k - ((((k + 1 : Nat) : Int) : Rat) * r / (1 - c) + c * r / ((1 - c) * (1 - c)))) (Q := Q) c0 q1 (fun k => by
    show c * (tailS c (linF r) Q (((Q : Int) : Rat) * r) (k + 1) - ((((k + 1 + 1 : Nat) : Int) : Rat) * r / (1 - c) + c * r / ((1 - c) * (1 - c)))) ≤ tailS c (linF r) Q (((Q : Int) : Rat) * r) k - ((((k + 1 : Nat) : Int) : Rat) * r / (1 - c) + c * r / ((1 - c) * (1 - c)))
    rw [tailS_step c1 q1 g k, st k]
    grind) (fun k => by
    show tailS c (linF r) Q (((Q : Int) : Rat) * r) k - ((((k + 1 : Nat) : Int) : Rat) * r / (1 - c) + c * r / ((1 - c) * (1 - c))) ≤ tailS c (linF r) Q (((Q : Int) : Rat) * r) (k + Q) - ((((k + Q + 1 : Nat) : Int) : Rat) * r / (1 - c) + c * r / ((1 - c) * (1 - c)))
    rw [tailS_grow c1 q1 g k, gr k]
    grind) k
  have h2 := down_pos (D := fun k => ((((k + 1 : Nat) : Int) : Rat) * r / (1 - c) + c * r / ((1 - c) * (1 - c))) - tailS c (linF r) Q (((Q : Int) : Rat) * r) k) (Q := Q) c0 q1 (fun k => by
    show c * (((((k + 1 + 1 : Nat) : Int) : Rat) * r / (1 - c) + c * r / ((1 - c) * (1 - c))) - tailS c (linF r) Q (((Q : Int) : Rat) * r) (k + 1)) ≤ ((((k + 1 : Nat) : Int) : Rat) * r / (1 - c) + c * r / ((1 - c) * (1 - c))) - tailS c (linF r) Q (((Q : Int) : Rat) * r) k
    rw [tailS_step c1 q1 g k, st k]
    grind) (fun k => by
    show ((((k + 1 : Nat) : Int) : Rat) * r / (1 - c) + c * r / ((1 - c) * (1 - c))) - tailS c (linF r) Q (((Q : Int) : Rat) * r) k ≤ ((((k + Q + 1 : Nat) : Int) : Rat) * r / (1 - c) + c * r / ((1 - c) * (1 - c))) - tailS c (linF r) Q (((Q : Int) : Rat) * r) (k + Q)
    rw [tailS_grow c1 q1 g k, gr k]
    grind) k
  have h1' : 0 ≤ tailS c (linF r) Q (((Q : Int) : Rat) * r) k - ((((k + 1 : Nat) : Int) : Rat) * r / (1 - c) + c * r / ((1 - c) * (1 - c))) := h1
  have h2' : 0 ≤ ((((k + 1 : Nat) : Int) : Rat) * r / (1 - c) + c * r / ((1 - c) * (1 - c))) - tailS c (linF r) Q (((Q : Int) : Rat) * r) k := h2
  generalize tailS c (linF r) Q (((Q : Int) : Rat) * r) k = x at *
  generalize (((k + 1 : Nat) : Int) : Rat) * r / (1 - c) + c * r / ((1 - c) * (1 - c)) = y at *
  grind
/-- Horner's sum of the differences, the last one first -/
def hor (c : Rat) (K : Nat → Rat) : Nat → Rat
  | 0 => 0
  | t + 1 => c * hor c K t + K t
theorem hor_tail {c P : Rat} {f K : Nat → Rat} {Q : Nat} (c1 : c < 1) (q1 : pwQ c Q < 1) (g : Grow f Q P) (hK : ∀ j, j < Q → K (Q - 1 - j) = f (j + 1) - f j) : ∀ t, t ≤ Q → hor c K t = ((1 - c) * tailS c f Q P (Q - t) - f (Q - t)) - pwQ c t * ((1 - c) * tailS c f Q P Q - f Q)
  | 0, _ => by show (0 : Rat) = _ - 1 * _; rw [Nat.sub_zero]; grind
  | t + 1, h => by
    have ih := hor_tail c1 q1 g hK t (by omega)
    have k1 := hK (Q - 1 - t) (by omega)
    have e1 : Q - 1 - (Q - 1 - t) = t := by omega
    have e2 : Q - 1 - t + 1 = Q - t := by omega
    have e3 : Q - (t + 1) = Q - 1 - t := by omega
    rw [e1, e2] at k1
    have st := tailS_step c1 q1 g (Q - 1 - t)
    rw [e2] at st
    show c * hor c K t + K t = _
    rw [ih, k1, e3, st]
    show _ = _ - pwQ c t * c * _
    generalize tailS c f Q P (Q - t) = x
    generalize f (Q - t) = y
    generalize pwQ c t = z
    grind
theorem hor_all {c P : Rat} {f K : Nat → Rat} {Q : Nat} (c1 : c < 1) (q1 : pwQ c Q < 1) (g : Grow f Q P) (f0 : f 0 = 0) (hK : ∀ j, j < Q → K (Q - 1 - j) = f (j + 1) - f j) : hor c K Q = (1 - c) * (1 - pwQ c Q) * tailS c f Q P 0 := by
  have h := hor_tail c1 q1 g hK Q (Nat.le_refl _)
  have gr := tailS_grow c1 q1 g 0
  have fg := g 0
  rw [Nat.zero_add] at gr fg
  rw [Nat.sub_self] at h
  rw [h, gr, fg, f0]
  have z2 : 1 - c ≠ 0 := by grind
  generalize tailS c f Q P 0 = x
  generalize pwQ c Q = z
  grind
end Sx

set_option Elab.async false
set_option linter.all false
set_option maxRecDepth 100000
set_option maxHeartbeats 4000000
/-! Fs2: the package's floor sum is the sum without end -/
namespace Sx
open PySem PySem.Spec L2
def flQ (q : Rat) (M : Nat) : Int := ((M : Int) * q.num) / (q.den : Int)
def flF (q : Rat) (M : Nat) : Rat := (flQ q M : Rat)
theorem flF_grow (q : Rat) : Grow (flF q) q.den (q.num : Rat) := fun k => by
  have dp := q.den_pos
  have e : ((k + q.den : Nat) : Int) * q.num = (k : Int) * q.num + q.num * (q.den : Int) := by
    have : ((k + q.den : Nat) : Int) = (k : Int) + (q.den : Int) := by omega
    rw [this, Int.add_mul, Int.mul_comm (q.den : Int)]
  unfold flF flQ
  rw [e, Int.add_mul_ediv_right _ _ (by omega), Rat.intCast_add]
theorem flF_zero (q : Rat) : flF q 0 = 0 := by
  unfold flF flQ
  have : ((0 : Nat) : Int) * q.num = 0 := by simp
  rw [this]
  simp
theorem flF_pos {q : Rat} (h : 0 ≤ q.num) (k : Nat) : 0 ≤ flF q k := by
  unfold flF flQ
  have : (0 : Int) ≤ ((k : Int) * q.num) / (q.den : Int) := Int.ediv_nonneg (Int.mul_nonneg (by omega) h) (by omega)
  exact Rat.intCast_nonneg.2 this
theorem flF_le (q : Rat) (k : Nat) : flF q k ≤ linF q k := by
  have dp := q.den_pos
  have h : ((k : Int) * q.num) / (q.den : Int) * (q.den : Int) ≤ (k : Int) * q.num := Int.ediv_mul_le _ (by omega)
  have h2 := Rat.intCast_le_intCast.2 h
  rw [Rat.intCast_mul, Rat.intCast_mul, ← q_den q] at h2
  unfold flF flQ linF
  have z := den_q q
  generalize ((((k : Int) * q.num) / (q.den : Int) : Int) : Rat) = x at *
  generalize ((k : Int) : Rat) = y at *
  generalize ((q.den : Int) : Rat) = w at *
  have h3 : x * w ≤ (y * q) * w := by grind
  by_cases t : x ≤ y * q
  · exact t
  · exfalso
    have := Rat.mul_lt_mul_of_pos_right (Rat.not_le.1 t) z
    grind
theorem thK_fl (q : Rat) {j : Nat} (hj : j < q.den) : thK q (q.den - 1 - j) = flQ q (j + 1) - flQ q j := by
  have dp := q.den_pos
  have up : ∀ i : Nat, i ≤ q.den → upT q (((q.den - i : Nat) : Int)) = q.num - flQ q i := fun i hi => by
    have e : -(((q.den - i : Nat) : Int)) * q.num = (i : Int) * q.num + (-q.num) * (q.den : Int) := by
      have : (((q.den - i : Nat)) : Int) = (q.den : Int) - (i : Int) := by omega
      rw [this]
      grind
    unfold upT flQ
    rw [e, Int.add_mul_ediv_right _ _ (by omega)]
    omega
  have a := up j (by omega)
  have b := up (j + 1) (by omega)
  unfold thK
  have e1 : (((q.den - 1 - j : Nat)) : Int) + 1 = ((q.den - j : Nat) : Int) := by omega
  have e2 : q.den - 1 - j = q.den - (j + 1) := by omega
  rw [e1, a, e2, b]
  omega
theorem rsS_hor (c q : Rat) : ∀ t, (rsS c q t : Rat) * ((c.den : Int) : Rat) = pwQ ((c.den : Int) : Rat) t * hor c (fun i => (thK q i : Rat)) t
  | 0 => by
    show ((0 : Int) : Rat) * _ = 1 * 0
    have : ((0 : Int) : Rat) = 0 := rfl
    rw [this]; grind
  | t + 1 => by
    have ih := rsS_hor c q t
    have pe : ∀ t : Nat, (((c.den : Int) ^ t : Int) : Rat) = pwQ ((c.den : Int) : Rat) t := fun t => by
      induction t with
      | zero => rfl
      | succ t ih => rw [Int.pow_succ, Rat.intCast_mul, ih]; rfl
    have cn := q_den c
    show ((rsS c q t * c.num + thK q t * (c.den : Int) ^ t : Int) : Rat) * _ = pwQ _ t * _ * (c * hor c _ t + (thK q t : Rat))
    rw [Rat.intCast_add, Rat.intCast_mul, Rat.intCast_mul, pe, ← cn]
    generalize hor c (fun i => (thK q i : Rat)) t = x at *
    generalize (thK q t : Rat) = y at *
    generalize pwQ ((c.den : Int) : Rat) t = z at *
    generalize ((c.den : Int) : Rat) = w at *
    generalize (rsS c q t : Rat) = v at *
    grind
theorem pow_split (c : Rat) : ∀ t : Nat, ((c.num ^ t : Int) : Rat) = pwQ c t * (((c.den : Int) ^ t : Int) : Rat)
  | 0 => by
    rw [Int.pow_zero, Int.pow_zero]
    show ((1 : Int) : Rat) = 1 * ((1 : Int) : Rat)
    rw [Rat.one_mul]
  | t + 1 => by
    rw [Int.pow_succ, Int.pow_succ, Rat.intCast_mul, Rat.intCast_mul, pow_split c t, ← q_den c]
    show _ = pwQ c t * c * _
    grind
theorem fsP_eq {c q : Rat} (C : Prt c) : fsP c q = tailS c (flF q) q.den (q.num : Rat) 0 := by
  have q0 := q.den_pos
  have ex : ∃ m, q.den = m + 1 := ⟨q.den - 1, by omega⟩
  obtain ⟨m, hm⟩ := ex
  have q1 : pwQ c q.den < 1 := by rw [hm]; exact pwQ_lt C.c0 C.c1 m
  have h := hor_all (K := fun i => (thK q i : Rat)) C.c1 q1 (flF_grow q) (flF_zero q) fun j hj => by
    show (thK q (q.den - 1 - j) : Rat) = _
    rw [thK_fl q hj, Rat.intCast_sub]
    rfl
  have r := rsS_hor c q q.den
  rw [h] at r
  have pe : ∀ t : Nat, (((c.den : Int) ^ t : Int) : Rat) = pwQ ((c.den : Int) : Rat) t := fun t => by
    induction t with
    | zero => rfl
    | succ t ih => rw [Int.pow_succ, Rat.intCast_mul, ih]; rfl
  have ps := pow_split c q.den
  rw [pe] at ps
  have dpos := den_q c
  have wp := pwQ_pos dpos q.den
  unfold fsP
  rw [Rat.intCast_mul, Rat.intCast_mul, Rat.intCast_mul, Rat.intCast_sub, Rat.intCast_sub, ps, pe, ← q_den c]
  have c1 := C.c1
  generalize tailS c (flF q) q.den (q.num : Rat) 0 = x at *
  generalize pwQ c q.den = y at *
  generalize pwQ ((c.den : Int) : Rat) q.den = z at *
  generalize ((c.den : Int) : Rat) = w at *
  generalize (rsS c q q.den : Rat) = v at *
  have a1 : 1 - c ≠ 0 := by grind
  have a2 : 1 - y ≠ 0 := by grind
  have a3 : z ≠ 0 := by grind
  have a4 : w ≠ 0 := by grind
  have e1 : w * w * v = w * (z * ((1 - c) * (1 - y) * x)) := by grind
  have e2 : (w - c * w) * (z - y * z) = w * z * ((1 - c) * (1 - y)) := by grind
  rw [e1, e2]
  have a5 : w * z * ((1 - c) * (1 - y)) ≠ 0 := by
    intro h0
    rcases Rat.mul_eq_zero.1 h0 with h0 | h0
    · rcases Rat.mul_eq_zero.1 h0 with h0 | h0 <;> contradiction
    · rcases Rat.mul_eq_zero.1 h0 with h0 | h0 <;> contradiction
  have e3 : w * (z * ((1 - c) * (1 - y) * x)) = x * (w * z * ((1 - c) * (1 - y))) := by grind
  rw [e3]
  generalize w * z * ((1 - c) * (1 - y)) = u at *
  grind
end Sx

set_option Elab.async false
set_option linter.all false
set_option maxRecDepth 100000
set_option maxHeartbeats 4000000
namespace Sx
open PySem PySem.Spec L2
theorem pwQ_sz {c : Rat} {k : Nat} (h : Sz k c) : ∀ j, Sz (k * j + 1) (pwQ c j)
  | 0 => one_sz
  | j + 1 => (Sz.mul (pwQ_sz h j) h).mono (by rw [Nat.mul_succ]; omega)
/-- what a drawn mean is -/
structure Pr (q : Rat) : Prop where
  one : 1 ≤ q
  den : q.den ≤ 12
  num : q.num ≤ 100
theorem Pr.of {a b : Int} (b0 : 0 < b) (b12 : b ≤ 12) (ab : b ≤ a) (a1 : a ≤ 100) : Pr ((a : Rat) / (b : Rat)) := by
  obtain ⟨e1, e2⟩ := red (a := a) b0
  have g : (0 : Int) < (Nat.gcd a.natAbs b.natAbs : Nat) := by
    have := Nat.gcd_pos_of_pos_right a.natAbs (show 0 < b.natAbs by omega)
    omega
  have h1 : a / (Nat.gcd a.natAbs b.natAbs : Nat) ≤ a := Int.ediv_le_self _ (by omega)
  have h2 : b / (Nat.gcd a.natAbs b.natAbs : Nat) ≤ b := Int.ediv_le_self _ (by omega)
  refine ⟨?_, by omega, by omega⟩
  have bp : (0 : Rat) < (b : Rat) := Rat.intCast_pos.2 b0
  have h := Rat.intCast_le_intCast.2 ab
  have e : (b : Rat) / (b : Rat) = 1 := by
    have : (b : Rat) ≠ 0 := by grind
    grind
  rw [← e, Rat.div_def, Rat.div_def]
  exact Rat.mul_le_mul_of_nonneg_right h (Rat.le_of_lt (Rat.inv_pos.2 bp))
theorem plus_one (q : Rat) : (q + 1).den = q.den ∧ (q + 1).num = q.num + (q.den : Int) := by
  have q0 : (0 : Int) < (q.den : Int) := by have := q.den_pos; omega
  have e : q + 1 = ((q.num + (q.den : Int) : Int) : Rat) / ((q.den : Int) : Rat) := by
    have h := q_den q
    have d := den_q q
    rw [Rat.intCast_add, ← h]
    generalize ((q.den : Int) : Rat) = x at *
    have : x ≠ 0 := by grind
    grind
  obtain ⟨e1, e2⟩ := red (a := q.num + (q.den : Int)) q0
  have gg : Nat.gcd (q.num + (q.den : Int)).natAbs ((q.den : Int)).natAbs = 1 := by
    have h := q.reduced
    have h2 : Int.gcd (q.num + (q.den : Int)) (q.den : Int) = 1 := by
      rw [Int.gcd_add_self_left]
      exact h
    exact h2
  rw [gg] at e1 e2
  rw [← e] at e1 e2
  have h1 : ∀ x : Int, x / ((1 : Nat) : Int) = x := fun x => Int.ediv_one x
  rw [h1] at e1 e2
  exact ⟨by omega, e1⟩
theorem den_one (q : Rat) : (q + 1).den = q.den := (plus_one q).1
theorem flF_one (q : Rat) (M : Nat) : flF (q + 1) M = flF q M + linF 1 M := by
  obtain ⟨e1, e2⟩ := plus_one q
  have dp := q.den_pos
  unfold flF flQ linF
  rw [e1, e2, Int.mul_add, Int.add_mul_ediv_right _ _ (by omega), Rat.intCast_add, Rat.mul_one]
theorem sgm_add (c : Rat) (f h : Nat → Rat) (k : Nat) : ∀ n, sgm c (fun M => f M + h M) k n = sgm c f k n + sgm c h k n
  | 0 => by show (0 : Rat) = 0 + 0; grind
  | n + 1 => by
    show sgm c (fun M => f M + h M) k n + pwQ c n * (f (k + n + 1) + h (k + n + 1)) = (sgm c f k n + pwQ c n * f (k + n + 1)) + (sgm c h k n + pwQ c n * h (k + n + 1))
    rw [sgm_add c f h k n]
    grind
theorem fs_one {c q : Rat} (C : Prt c) : fsP c (q + 1) = fsP c q + 1 / ((1 - c) * (1 - c)) := by
  obtain ⟨e1, e2⟩ := plus_one q
  have q0 := q.den_pos
  have ex : ∃ m, q.den = m + 1 := ⟨q.den - 1, by omega⟩
  obtain ⟨m, hm⟩ := ex
  have q1 : pwQ c q.den < 1 := by rw [hm]; exact pwQ_lt C.c0 C.c1 m
  have li := tailS_lin (r := 1) (Q := q.den) C.c0 C.c1 q1 0
  have one : (((0 + 1 : Nat) : Int) : Rat) = 1 := rfl
  rw [one] at li
  have ff : flF (q + 1) = fun M => flF q M + linF 1 M := funext (flF_one q)
  have c1 := C.c1
  rw [fsP_eq C, fsP_eq C, e1, e2, ff, Rat.intCast_add]
  have e3 : 1 / ((1 - c) * (1 - c)) = tailS c (linF 1) q.den (((q.den : Int) : Rat) * 1) 0 := by
    rw [li]
    have : 1 - c ≠ 0 := by grind
    grind
  rw [e3]
  unfold tailS
  rw [sgm_add]
  generalize sgm c (flF q) 0 q.den = x
  generalize sgm c (linF 1) 0 q.den = y
  generalize pwQ c q.den = z at *
  generalize ((q.den : Int) : Rat) = w
  generalize (q.num : Rat) = v
  have h1 : 1 - z ≠ 0 := by grind
  have h2 : 1 - c ≠ 0 := by grind
  grind
theorem Pr.num0 {q : Rat} (h : Pr q) : 0 < q.num := by have := one_le_num h.one; have := q.den_pos; omega
theorem Pr.sz {q : Rat} (h : Pr q) : Sz 7 q := by
  have := h.num0
  have := h.num
  have := h.den
  constructor
  · exact B.of (by omega)
  · exact B.of (by omega)
theorem fl_sz {q : Rat} (h : Pr q) {M : Nat} (hM : M ≤ 30) : Sz 13 (flF q M) := by
  have n0 := h.num0
  have n1 := h.num
  unfold flF flQ
  refine sz_int ?_ (by decide)
  refine (show B 13 ((M : Int) * q.num).natAbs from B.of ?_).le (Int.natAbs_ediv_le_natAbs _ _)
  have a : 0 ≤ (M : Int) * q.num := Int.mul_nonneg (by omega) (by omega)
  have b : (M : Int) * q.num ≤ 30 * q.num := Int.mul_le_mul_of_nonneg_right (by omega) (by omega)
  omega
theorem sgm_sz {c q : Rat} (zc : Sz 4 c) (h : Pr q) : ∀ n : Nat, n ≤ 20 → Sz (100 * n + 1) (sgm c (flF q) 0 n)
  | 0, _ => ⟨by show B 1 0; exact B.of (by decide), by show B 1 1; exact B.of (by decide)⟩
  | n + 1, hn => by
    have ih := sgm_sz zc h n (by omega)
    have z := (pwQ_sz zc n).mul (fl_sz h (M := 0 + n + 1) (by omega))
    exact (ih.add z).mono (by omega)
def s__law_pair : DSp := fun ds n R => ds = [.draws, IV 12] ∧ n + 2 < LIM ∧ ∀ q : Rat, Pr q → R (FV q) (n + 2)
def s__law_floors : DSp := fun ds n R => ∃ c q : Rat, ds = [FV c, FV q] ∧ 0 < c ∧ c < 1 ∧ Sz 4 c ∧ Pr q ∧ (Sz 1500 (tailS c (flF q) q.den (q.num : Rat) 0) → R (FV (tailS c (flF q) q.den (q.num : Rat) 0)) n)
/-- _law_pair. Slots: draws_so, most_so, low -/
def t__law_pair : DTS :=
  (dSeq (dAsg 2 (dOp oAdd (dC (.int 1)) (dCall s__law_draw (dCons (dVar 0) (dCons (dVar 1) dNil)))))
  (dRet (dCall s__law_share (dCons (dOp oAdd (dVar 2) (dCall s__law_draw (dCons (dVar 0) (dCons (dOp oAdd (dOp oMul (dC (.int 3)) (dVar 2)) (dC (.int 1))) dNil)))) (dCons (dVar 2) dNil)))))
def t__law_floors_b1 : DTS :=
  (dSeq (dAsg 4 (dCall s__law_plus (dCons (dVar 4) (dCons (dCall s__law_times (dCons (dVar 5) (dCons (dTup (dCons (dOp oDiv (dOp oMul (dVar 6) (dVar 2)) (dVar 3)) (dCons (dC (.int 1)) dNil))) dNil))) dNil))))
  (dAsg 5 (dCall s__law_times (dCons (dVar 5) (dCons (dVar 0) dNil)))))
/-- _law_floors. Slots: cut_so, pair_so, above, below, one, power_v, step, rest, whole, more -/
def t__law_floors : DTS :=
  (dSeq (dUnp [2, 3] (dVar 1))
  (dSeq (dUnp [4, 5] (dTup (dCons (dTup (dCons (dC (.int 0)) (dCons (dC (.int 1)) dNil))) (dCons (dTup (dCons (dC (.int 1)) (dCons (dC (.int 1)) dNil))) dNil))))
  (dSeq (dForR2 6 (dCons (dC (.int 1)) (dCons (dOp oAdd (dVar 3) (dC (.int 1))) dNil)) t__law_floors_b1)
  (dSeq (dAsg 7 (dCall s__law_minus (dCons (dTup (dCons (dC (.int 1)) (dCons (dC (.int 1)) dNil))) (dCons (dVar 5) dNil))))
  (dSeq (dAsg 8 (dCall s__law_over (dCons (dVar 7) (dCons (dCall s__law_minus (dCons (dTup (dCons (dC (.int 1)) (dCons (dC (.int 1)) dNil))) (dCons (dVar 0) dNil))) dNil))))
  (dSeq (dAsg 9 (dCall s__law_over (dCons (dVar 5) (dCons (dCall s__law_times (dCons (dVar 7) (dCons (dVar 7) dNil))) dNil))))
  (dRet (dCall s__law_plus (dCons (dCall s__law_over (dCons (dVar 4) (dCons (dVar 7) dNil))) (dCons (dCall s__law_times (dCons (dCall s__law_times (dCons (dTup (dCons (dVar 2) (dCons (dC (.int 1)) dNil))) (dCons (dVar 8) dNil))) (dCons (dVar 9) dNil))) dNil))))))))))
theorem p__law_pair (ds : List DV) (n : Nat) (R : DV → Nat → Prop) (hh : s__law_pair ds n R) : Goal t__law_pair 3 ds n R := by
  obtain ⟨rfl, hn, k⟩ := hh
  unfold Goal t__law_pair
  simp only [↓oOdd_ap, ↓oHalf_ap, ↓dAsg2_ap, ↓dTruL_ap, ↓dCatOwn_ap, ↓oRepT_ap, ↓dParDX_ap, ↓dVar_ap, ↓dC_ap, ↓dOp_ap, ↓dUn_ap, ↓dCB_ap, ↓dCall_ap, ↓dCallId_ap, ↓dNil_ap, ↓dCons_ap, ↓dTup_ap, ↓dLst_ap, ↓dTest_ap, ↓dNot_ap, ↓dAnd_ap, ↓dOr_ap, ↓dIf_ap, ↓dAndV_ap, ↓dOrV_ap, ↓dNotV_ap, ↓dChain_ap, ↓dChain3_ap, ↓dTy_ap, ↓dIsi_ap, ↓dNoPart_ap, ↓dPart_ap, ↓dSliceL_ap, ↓dSliceA_ap, ↓dPeekT_ap, ↓dPeekI_ap, ↓dYes_ap, ↓dNext_ap, ↓dSeq_ap, ↓dRet_ap, ↓dRetN_ap, ↓dIfS_ap, ↓dDrop_ap, ↓dAsg_ap, ↓dAsgOwn_ap, ↓dFreeze_ap, ↓dAppend_ap, ↓dUnp_ap, ↓unpF_ap, ↓unpT_ap, ↓dPar_ap, ↓dPar3_ap, ↓dParO2_ap, ↓dParO3_ap, ↓dParOD_ap, ↓dParDO_ap, ↓dBreak_ap, ↓dCont_ap, ↓oI_ap, ↓oI0_ap, ↓oNeg_ap, ↓oEq_ap, ↓oNe_ap, ↓oIxT_ap, ↓oIxL_ap, ↓oIx0_ap, ↓oIx1_ap, ↓oIsN_ap, ↓oNotN_ap, ↓oIsB_ap, ↓oNotB_ap, ↓oEqS_ap, ↓oCat_ap, ↓oCatA_ap, ↓oRepL_ap, ↓oLenT_ap, ↓oLenL_ap, ↓oAbs_ap, ↓oInt_ap, ↓oGcd_ap, ↓oListT_ap, ↓oListL_ap, ↓oTupT_ap, ↓oTupL_ap, ↓oMin_ap, ↓oSum_ap, ↓oMax_ap, ↓oMinL_ap, ↓oLcm4_ap, ↓allD_ap, ↓allD_nil, ↓setAll_ap, ↓setAll_nil, TV, LV, IV, BV, FV, atI_0, atI_1, atI_2, atI_3, List.map_cons, List.map_nil, List.length_cons, List.length_nil, List.set_cons_zero, List.set_cons_succ, List.getElem?_cons_zero, List.getElem?_cons_succ, List.cons_append, List.nil_append, Nat.reduceAdd, Nat.reduceSub, Nat.reduceLeDiff, List.replicate, Bool.false_eq_true, if_false, if_true, ite_true, ite_false, true_and, and_true, Bool.not_true, Bool.not_false, decide_true, decide_false, entry, isNone_fr, isNone_non, isNone_tup, isNone_list, isNone_int, isNone_bool, pId, pRev, pR3, pR4, pR5, ↓dCallK_ap]
  refine draw_go (lim := 12) rfl (by decide) (by decide) (by omega) fun x hx => ?_
  simp only [↓oOdd_ap, ↓oHalf_ap, ↓dAsg2_ap, ↓dTruL_ap, ↓dCatOwn_ap, ↓oRepT_ap, ↓dParDX_ap, ↓dVar_ap, ↓dC_ap, ↓dOp_ap, ↓dUn_ap, ↓dCB_ap, ↓dCall_ap, ↓dCallId_ap, ↓dNil_ap, ↓dCons_ap, ↓dTup_ap, ↓dLst_ap, ↓dTest_ap, ↓dNot_ap, ↓dAnd_ap, ↓dOr_ap, ↓dIf_ap, ↓dAndV_ap, ↓dOrV_ap, ↓dNotV_ap, ↓dChain_ap, ↓dChain3_ap, ↓dTy_ap, ↓dIsi_ap, ↓dNoPart_ap, ↓dPart_ap, ↓dSliceL_ap, ↓dSliceA_ap, ↓dPeekT_ap, ↓dPeekI_ap, ↓dYes_ap, ↓dNext_ap, ↓dSeq_ap, ↓dRet_ap, ↓dRetN_ap, ↓dIfS_ap, ↓dDrop_ap, ↓dAsg_ap, ↓dAsgOwn_ap, ↓dFreeze_ap, ↓dAppend_ap, ↓dUnp_ap, ↓unpF_ap, ↓unpT_ap, ↓dPar_ap, ↓dPar3_ap, ↓dParO2_ap, ↓dParO3_ap, ↓dParOD_ap, ↓dParDO_ap, ↓dBreak_ap, ↓dCont_ap, ↓oI_ap, ↓oI0_ap, ↓oNeg_ap, ↓oEq_ap, ↓oNe_ap, ↓oIxT_ap, ↓oIxL_ap, ↓oIx0_ap, ↓oIx1_ap, ↓oIsN_ap, ↓oNotN_ap, ↓oIsB_ap, ↓oNotB_ap, ↓oEqS_ap, ↓oCat_ap, ↓oCatA_ap, ↓oRepL_ap, ↓oLenT_ap, ↓oLenL_ap, ↓oAbs_ap, ↓oInt_ap, ↓oGcd_ap, ↓oListT_ap, ↓oListL_ap, ↓oTupT_ap, ↓oTupL_ap, ↓oMin_ap, ↓oSum_ap, ↓oMax_ap, ↓oMinL_ap, ↓oLcm4_ap, ↓allD_ap, ↓allD_nil, ↓setAll_ap, ↓setAll_nil, TV, LV, IV, BV, FV, atI_0, atI_1, atI_2, atI_3, List.map_cons, List.map_nil, List.length_cons, List.length_nil, List.set_cons_zero, List.set_cons_succ, List.getElem?_cons_zero, List.getElem?_cons_succ, List.cons_append, List.nil_append, Nat.reduceAdd, Nat.reduceSub, Nat.reduceLeDiff, List.replicate, Bool.false_eq_true, if_false, if_true, ite_true, ite_false, true_and, and_true, Bool.not_true, Bool.not_false, decide_true, decide_false, entry, isNone_fr, isNone_non, isNone_tup, isNone_list, isNone_int, isNone_bool, pId, pRev, pR3, pR4, pR5, ↓dCallK_ap]
  refine ⟨mulB (a := 2) (b := 4) (B.of (by decide)) (B.of (by omega)) (by decide), ?_⟩
  refine draw_go (lim := 3 * (1 + x) + 1) (by omega) (by omega) (Nat.lt_trans (show 3 * (1 + x) + 1 < 50 by omega) (by decide)) (by omega) fun y hy => ?_
  simp only [↓oOdd_ap, ↓oHalf_ap, ↓dAsg2_ap, ↓dTruL_ap, ↓dCatOwn_ap, ↓oRepT_ap, ↓dParDX_ap, ↓dVar_ap, ↓dC_ap, ↓dOp_ap, ↓dUn_ap, ↓dCB_ap, ↓dCall_ap, ↓dCallId_ap, ↓dNil_ap, ↓dCons_ap, ↓dTup_ap, ↓dLst_ap, ↓dTest_ap, ↓dNot_ap, ↓dAnd_ap, ↓dOr_ap, ↓dIf_ap, ↓dAndV_ap, ↓dOrV_ap, ↓dNotV_ap, ↓dChain_ap, ↓dChain3_ap, ↓dTy_ap, ↓dIsi_ap, ↓dNoPart_ap, ↓dPart_ap, ↓dSliceL_ap, ↓dSliceA_ap, ↓dPeekT_ap, ↓dPeekI_ap, ↓dYes_ap, ↓dNext_ap, ↓dSeq_ap, ↓dRet_ap, ↓dRetN_ap, ↓dIfS_ap, ↓dDrop_ap, ↓dAsg_ap, ↓dAsgOwn_ap, ↓dFreeze_ap, ↓dAppend_ap, ↓dUnp_ap, ↓unpF_ap, ↓unpT_ap, ↓dPar_ap, ↓dPar3_ap, ↓dParO2_ap, ↓dParO3_ap, ↓dParOD_ap, ↓dParDO_ap, ↓dBreak_ap, ↓dCont_ap, ↓oI_ap, ↓oI0_ap, ↓oNeg_ap, ↓oEq_ap, ↓oNe_ap, ↓oIxT_ap, ↓oIxL_ap, ↓oIx0_ap, ↓oIx1_ap, ↓oIsN_ap, ↓oNotN_ap, ↓oIsB_ap, ↓oNotB_ap, ↓oEqS_ap, ↓oCat_ap, ↓oCatA_ap, ↓oRepL_ap, ↓oLenT_ap, ↓oLenL_ap, ↓oAbs_ap, ↓oInt_ap, ↓oGcd_ap, ↓oListT_ap, ↓oListL_ap, ↓oTupT_ap, ↓oTupL_ap, ↓oMin_ap, ↓oSum_ap, ↓oMax_ap, ↓oMinL_ap, ↓oLcm4_ap, ↓allD_ap, ↓allD_nil, ↓setAll_ap, ↓setAll_nil, TV, LV, IV, BV, FV, atI_0, atI_1, atI_2, atI_3, List.map_cons, List.map_nil, List.length_cons, List.length_nil, List.set_cons_zero, List.set_cons_succ, List.getElem?_cons_zero, List.getElem?_cons_succ, List.cons_append, List.nil_append, Nat.reduceAdd, Nat.reduceSub, Nat.reduceLeDiff, List.replicate, Bool.false_eq_true, if_false, if_true, ite_true, ite_false, true_and, and_true, Bool.not_true, Bool.not_false, decide_true, decide_false, entry, isNone_fr, isNone_non, isNone_tup, isNone_list, isNone_int, isNone_bool, pId, pRev, pR3, pR4, pR5, ↓dCallK_ap, ↓e__law_share]
  refine ⟨by omega, B.mono (k := 7) (B.of (by omega)) (by decide), B.mono (k := 7) (B.of (by omega)) (by decide), k _ (Pr.of (by omega) (by omega) (by omega) (by omega))⟩
theorem p__law_floors (ds : List DV) (n : Nat) (R : DV → Nat → Prop) (hh : s__law_floors ds n R) : Goal t__law_floors 10 ds n R := by
  obtain ⟨c, q, rfl, c0, c1, zc, hq, k⟩ := hh
  have f01 : PyData.tuple [.int 0, .int 1] = fr 0 := fr_of (by decide +kernel) (by decide +kernel)
  have f11 : PyData.tuple [.int 1, .int 1] = fr 1 := fr_of (by decide +kernel) (by decide +kernel)
  have zq := hq.sz
  have q0 := q.den_pos
  have hd := hq.den
  have l0 : 0 < 1 - c := by grind
  have zl := one_sz.sub zc
  have ex : ∃ m, q.den = m + 1 := ⟨q.den - 1, by omega⟩
  obtain ⟨m, hm⟩ := ex
  have q1 : pwQ c q.den < 1 := by rw [hm]; exact pwQ_lt c0 c1 m
  have r0 : 0 < 1 - pwQ c q.den := by grind
  unfold Goal t__law_floors
  simp only [↓oOdd_ap, ↓oHalf_ap, ↓dAsg2_ap, ↓dTruL_ap, ↓dCatOwn_ap, ↓oRepT_ap, ↓dParDX_ap, ↓dVar_ap, ↓dC_ap, ↓dOp_ap, ↓dUn_ap, ↓dCB_ap, ↓dCall_ap, ↓dCallId_ap, ↓dNil_ap, ↓dCons_ap, ↓dTup_ap, ↓dLst_ap, ↓dTest_ap, ↓dNot_ap, ↓dAnd_ap, ↓dOr_ap, ↓dIf_ap, ↓dAndV_ap, ↓dOrV_ap, ↓dNotV_ap, ↓dChain_ap, ↓dChain3_ap, ↓dTy_ap, ↓dIsi_ap, ↓dNoPart_ap, ↓dPart_ap, ↓dSliceL_ap, ↓dSliceA_ap, ↓dPeekT_ap, ↓dPeekI_ap, ↓dYes_ap, ↓dNext_ap, ↓dSeq_ap, ↓dRet_ap, ↓dRetN_ap, ↓dIfS_ap, ↓dDrop_ap, ↓dAsg_ap, ↓dAsgOwn_ap, ↓dFreeze_ap, ↓dAppend_ap, ↓dUnp_ap, ↓unpF_ap, ↓unpT_ap, ↓dPar_ap, ↓dPar3_ap, ↓dParO2_ap, ↓dParO3_ap, ↓dParOD_ap, ↓dParDO_ap, ↓dBreak_ap, ↓dCont_ap, ↓oI_ap, ↓oI0_ap, ↓oNeg_ap, ↓oEq_ap, ↓oNe_ap, ↓oIxT_ap, ↓oIxL_ap, ↓oIx0_ap, ↓oIx1_ap, ↓oIsN_ap, ↓oNotN_ap, ↓oIsB_ap, ↓oNotB_ap, ↓oEqS_ap, ↓oCat_ap, ↓oCatA_ap, ↓oRepL_ap, ↓oLenT_ap, ↓oLenL_ap, ↓oAbs_ap, ↓oInt_ap, ↓oGcd_ap, ↓oListT_ap, ↓oListL_ap, ↓oTupT_ap, ↓oTupL_ap, ↓oMin_ap, ↓oSum_ap, ↓oMax_ap, ↓oMinL_ap, ↓oLcm4_ap, ↓allD_ap, ↓allD_nil, ↓setAll_ap, ↓setAll_nil, TV, LV, IV, BV, FV, atI_0, atI_1, atI_2, atI_3, List.map_cons, List.map_nil, List.length_cons, List.length_nil, List.set_cons_zero, List.set_cons_succ, List.getElem?_cons_zero, List.getElem?_cons_succ, List.cons_append, List.nil_append, Nat.reduceAdd, Nat.reduceSub, Nat.reduceLeDiff, List.replicate, Bool.false_eq_true, if_false, if_true, ite_true, ite_false, true_and, and_true, Bool.not_true, Bool.not_false, decide_true, decide_false, entry, isNone_fr, isNone_non, isNone_tup, isNone_list, isNone_int, isNone_bool, pId, pRev, pR3, pR4, pR5, ↓dCallK_ap, f01, f11]
  refine forR2_go 1 ((q.den : Int) + 1) n (fun i env m => m = n ∧ i ≤ q.den ∧ ∃ o6, env = [some (FV c), some (FV q), some (IV q.num), some (IV (q.den : Int)), some (FV (sgm c (flF q) 0 i)), some (FV (pwQ c i)), o6, none, none, none]) (fun R' k' => ?_) ⟨by omega, by omega, by omega, by omega⟩ ⟨rfl, by omega, none, rfl⟩ ?_ ?_
  · simp only [↓oOdd_ap, ↓oHalf_ap, ↓dAsg2_ap, ↓dTruL_ap, ↓dCatOwn_ap, ↓oRepT_ap, ↓dParDX_ap, ↓dVar_ap, ↓dC_ap, ↓dOp_ap, ↓dUn_ap, ↓dCB_ap, ↓dCall_ap, ↓dCallId_ap, ↓dNil_ap, ↓dCons_ap, ↓dTup_ap, ↓dLst_ap, ↓dTest_ap, ↓dNot_ap, ↓dAnd_ap, ↓dOr_ap, ↓dIf_ap, ↓dAndV_ap, ↓dOrV_ap, ↓dNotV_ap, ↓dChain_ap, ↓dChain3_ap, ↓dTy_ap, ↓dIsi_ap, ↓dNoPart_ap, ↓dPart_ap, ↓dSliceL_ap, ↓dSliceA_ap, ↓dPeekT_ap, ↓dPeekI_ap, ↓dYes_ap, ↓dNext_ap, ↓dSeq_ap, ↓dRet_ap, ↓dRetN_ap, ↓dIfS_ap, ↓dDrop_ap, ↓dAsg_ap, ↓dAsgOwn_ap, ↓dFreeze_ap, ↓dAppend_ap, ↓dUnp_ap, ↓unpF_ap, ↓unpT_ap, ↓dPar_ap, ↓dPar3_ap, ↓dParO2_ap, ↓dParO3_ap, ↓dParOD_ap, ↓dParDO_ap, ↓dBreak_ap, ↓dCont_ap, ↓oI_ap, ↓oI0_ap, ↓oNeg_ap, ↓oEq_ap, ↓oNe_ap, ↓oIxT_ap, ↓oIxL_ap, ↓oIx0_ap, ↓oIx1_ap, ↓oIsN_ap, ↓oNotN_ap, ↓oIsB_ap, ↓oNotB_ap, ↓oEqS_ap, ↓oCat_ap, ↓oCatA_ap, ↓oRepL_ap, ↓oLenT_ap, ↓oLenL_ap, ↓oAbs_ap, ↓oInt_ap, ↓oGcd_ap, ↓oListT_ap, ↓oListL_ap, ↓oTupT_ap, ↓oTupL_ap, ↓oMin_ap, ↓oSum_ap, ↓oMax_ap, ↓oMinL_ap, ↓oLcm4_ap, ↓allD_ap, ↓allD_nil, ↓setAll_ap, ↓setAll_nil, TV, LV, IV, BV, FV, atI_0, atI_1, atI_2, atI_3, List.map_cons, List.map_nil, List.length_cons, List.length_nil, List.set_cons_zero, List.set_cons_succ, List.getElem?_cons_zero, List.getElem?_cons_succ, List.cons_append, List.nil_append, Nat.reduceAdd, Nat.reduceSub, Nat.reduceLeDiff, List.replicate, Bool.false_eq_true, if_false, if_true, ite_true, ite_false, true_and, and_true, Bool.not_true, Bool.not_false, decide_true, decide_false, entry, isNone_fr, isNone_non, isNone_tup, isNone_list, isNone_int, isNone_bool, pId, pRev, pR3, pR4, pR5, ↓dCallK_ap]
    exact k'
  · rintro i env m hi ⟨rfl, hi0, o6, rfl⟩
    have hi' : i < q.den := by omega
    have z1 := sgm_sz zc hq i (by omega)
    have z2 := pwQ_sz zc i
    have z3 := fl_sz hq (M := i + 1) (by omega)
    have ef : (1 + (i : Int)) * q.num / (q.den : Int) = flQ q (i + 1) := by
      unfold flQ
      have : ((i + 1 : Nat) : Int) = 1 + (i : Int) := by omega
      rw [this]
    have ez : flF q (0 + i + 1) = ((flQ q (i + 1) : Int) : Rat) := by rw [Nat.zero_add]; rfl
    have z3' : Sz 13 ((flQ q (i + 1) : Int) : Rat) := z3
    have bi : B 5 (1 + (i : Int)).natAbs := B.of (by omega)
    unfold t__law_floors_b1
    simp only [↓oOdd_ap, ↓oHalf_ap, ↓dAsg2_ap, ↓dTruL_ap, ↓dCatOwn_ap, ↓oRepT_ap, ↓dParDX_ap, ↓dVar_ap, ↓dC_ap, ↓dOp_ap, ↓dUn_ap, ↓dCB_ap, ↓dCall_ap, ↓dCallId_ap, ↓dNil_ap, ↓dCons_ap, ↓dTup_ap, ↓dLst_ap, ↓dTest_ap, ↓dNot_ap, ↓dAnd_ap, ↓dOr_ap, ↓dIf_ap, ↓dAndV_ap, ↓dOrV_ap, ↓dNotV_ap, ↓dChain_ap, ↓dChain3_ap, ↓dTy_ap, ↓dIsi_ap, ↓dNoPart_ap, ↓dPart_ap, ↓dSliceL_ap, ↓dSliceA_ap, ↓dPeekT_ap, ↓dPeekI_ap, ↓dYes_ap, ↓dNext_ap, ↓dSeq_ap, ↓dRet_ap, ↓dRetN_ap, ↓dIfS_ap, ↓dDrop_ap, ↓dAsg_ap, ↓dAsgOwn_ap, ↓dFreeze_ap, ↓dAppend_ap, ↓dUnp_ap, ↓unpF_ap, ↓unpT_ap, ↓dPar_ap, ↓dPar3_ap, ↓dParO2_ap, ↓dParO3_ap, ↓dParOD_ap, ↓dParDO_ap, ↓dBreak_ap, ↓dCont_ap, ↓oI_ap, ↓oI0_ap, ↓oNeg_ap, ↓oEq_ap, ↓oNe_ap, ↓oIxT_ap, ↓oIxL_ap, ↓oIx0_ap, ↓oIx1_ap, ↓oIsN_ap, ↓oNotN_ap, ↓oIsB_ap, ↓oNotB_ap, ↓oEqS_ap, ↓oCat_ap, ↓oCatA_ap, ↓oRepL_ap, ↓oLenT_ap, ↓oLenL_ap, ↓oAbs_ap, ↓oInt_ap, ↓oGcd_ap, ↓oListT_ap, ↓oListL_ap, ↓oTupT_ap, ↓oTupL_ap, ↓oMin_ap, ↓oSum_ap, ↓oMax_ap, ↓oMinL_ap, ↓oLcm4_ap, ↓allD_ap, ↓allD_nil, ↓setAll_ap, ↓setAll_nil, TV, LV, IV, BV, FV, atI_0, atI_1, atI_2, atI_3, List.map_cons, List.map_nil, List.length_cons, List.length_nil, List.set_cons_zero, List.set_cons_succ, List.getElem?_cons_zero, List.getElem?_cons_succ, List.cons_append, List.nil_append, Nat.reduceAdd, Nat.reduceSub, Nat.reduceLeDiff, List.replicate, Bool.false_eq_true, if_false, if_true, ite_true, ite_false, true_and, and_true, Bool.not_true, Bool.not_false, decide_true, decide_false, entry, isNone_fr, isNone_non, isNone_tup, isNone_list, isNone_int, isNone_bool, pId, pRev, pR3, pR4, pR5, ↓dCallK_ap, ↓ixF0, ↓ixF1, ef, ↓fr_int_ap, ↓e__law_times, ↓e__law_plus]
    refine ⟨mulB bi zq.n (by decide), ⟨by omega, logB (den_B zq) (by decide)⟩, z2.mono (by omega), z3'.mono (by decide), z1.mono (by omega), (z2.mul z3').mono (by omega), z2.mono (by omega), zc.mono (by decide), by omega, some (IV (1 + (i : Int))), ?_⟩
    rw [← ez]
    rfl
  · rintro env m ⟨rfl, hi0, o6, rfl⟩
    have e : ((q.den : Int) + 1 - 1).toNat = q.den := by omega
    rw [e]
    have z1 := (sgm_sz zc hq q.den (by omega)).mono (show _ ≤ 1201 by omega)
    have z2 := (pwQ_sz zc q.den).mono (show _ ≤ 49 by omega)
    have zr := one_sz.sub z2
    have rr := Rat.mul_pos r0 r0
    have zn : Sz 7 (q.num : Rat) := sz_int zq.n (by decide)
    have za := Sz.div z1 zr r0
    have zw := Sz.div zr zl l0
    have zm := Sz.div z2 (zr.mul zr) rr
    have ev : sgm c (flF q) 0 q.den / (1 - pwQ c q.den) + (q.num : Rat) * ((1 - pwQ c q.den) / (1 - c)) * (pwQ c q.den / ((1 - pwQ c q.den) * (1 - pwQ c q.den))) = tailS c (flF q) q.den (q.num : Rat) 0 := by
      unfold tailS
      generalize sgm c (flF q) 0 q.den = x
      generalize (q.num : Rat) = y
      generalize pwQ c q.den = z at *
      have h1 : 1 - z ≠ 0 := by grind
      have h2 : 1 - c ≠ 0 := by grind
      grind
    have zt : Sz 1500 (tailS c (flF q) q.den (q.num : Rat) 0) := by
      rw [← ev]
      exact (za.add ((zn.mul zw).mul zm)).mono (by decide)
    simp only [↓oOdd_ap, ↓oHalf_ap, ↓dAsg2_ap, ↓dTruL_ap, ↓dCatOwn_ap, ↓oRepT_ap, ↓dParDX_ap, ↓dVar_ap, ↓dC_ap, ↓dOp_ap, ↓dUn_ap, ↓dCB_ap, ↓dCall_ap, ↓dCallId_ap, ↓dNil_ap, ↓dCons_ap, ↓dTup_ap, ↓dLst_ap, ↓dTest_ap, ↓dNot_ap, ↓dAnd_ap, ↓dOr_ap, ↓dIf_ap, ↓dAndV_ap, ↓dOrV_ap, ↓dNotV_ap, ↓dChain_ap, ↓dChain3_ap, ↓dTy_ap, ↓dIsi_ap, ↓dNoPart_ap, ↓dPart_ap, ↓dSliceL_ap, ↓dSliceA_ap, ↓dPeekT_ap, ↓dPeekI_ap, ↓dYes_ap, ↓dNext_ap, ↓dSeq_ap, ↓dRet_ap, ↓dRetN_ap, ↓dIfS_ap, ↓dDrop_ap, ↓dAsg_ap, ↓dAsgOwn_ap, ↓dFreeze_ap, ↓dAppend_ap, ↓dUnp_ap, ↓unpF_ap, ↓unpT_ap, ↓dPar_ap, ↓dPar3_ap, ↓dParO2_ap, ↓dParO3_ap, ↓dParOD_ap, ↓dParDO_ap, ↓dBreak_ap, ↓dCont_ap, ↓oI_ap, ↓oI0_ap, ↓oNeg_ap, ↓oEq_ap, ↓oNe_ap, ↓oIxT_ap, ↓oIxL_ap, ↓oIx0_ap, ↓oIx1_ap, ↓oIsN_ap, ↓oNotN_ap, ↓oIsB_ap, ↓oNotB_ap, ↓oEqS_ap, ↓oCat_ap, ↓oCatA_ap, ↓oRepL_ap, ↓oLenT_ap, ↓oLenL_ap, ↓oAbs_ap, ↓oInt_ap, ↓oGcd_ap, ↓oListT_ap, ↓oListL_ap, ↓oTupT_ap, ↓oTupL_ap, ↓oMin_ap, ↓oSum_ap, ↓oMax_ap, ↓oMinL_ap, ↓oLcm4_ap, ↓allD_ap, ↓allD_nil, ↓setAll_ap, ↓setAll_nil, TV, LV, IV, BV, FV, atI_0, atI_1, atI_2, atI_3, List.map_cons, List.map_nil, List.length_cons, List.length_nil, List.set_cons_zero, List.set_cons_succ, List.getElem?_cons_zero, List.getElem?_cons_succ, List.cons_append, List.nil_append, Nat.reduceAdd, Nat.reduceSub, Nat.reduceLeDiff, List.replicate, Bool.false_eq_true, if_false, if_true, ite_true, ite_false, true_and, and_true, Bool.not_true, Bool.not_false, decide_true, decide_false, entry, isNone_fr, isNone_non, isNone_tup, isNone_list, isNone_int, isNone_bool, pId, pRev, pR3, pR4, pR5, ↓dCallK_ap, ↓f11, ↓fr_int_ap, one_rat, ↓e__law_minus, ↓e__law_over, ↓e__law_times, ↓e__law_plus, ev]
    exact ⟨one_sz.mono (by decide), z2.mono (by decide), one_sz.mono (by decide), zc.mono (by decide), zr.mono (by decide), zl.mono (by decide), l0, zr.mono (by decide), zr.mono (by decide), z2.mono (by decide), (zr.mul zr).mono (by decide), rr, z1.mono (by decide), zr.mono (by decide), r0, zn.mono (by decide), zw.mono (by decide), (zn.mul zw).mono (by decide), zm.mono (by decide), za.mono (by decide), ((zn.mul zw).mul zm).mono (by decide), k zt⟩
theorem e__law_pair (n : Nat) (R : DV → Nat → Prop) : s__law_pair [.draws, IV 12] n R = (n + 2 < LIM ∧ ∀ q : Rat, Pr q → R (FV q) (n + 2)) := propext ⟨fun h => h.2, fun h => ⟨rfl, h⟩⟩
theorem e__law_floors (c q : Rat) (n : Nat) (R : DV → Nat → Prop) : s__law_floors [FV c, FV q] n R = (0 < c ∧ c < 1 ∧ Sz 4 c ∧ Pr q ∧ (Sz 1500 (tailS c (flF q) q.den (q.num : Rat) 0) → R (FV (tailS c (flF q) q.den (q.num : Rat) 0)) n)) := by
  refine propext ⟨?_, fun hh => ⟨c, q, rfl, hh⟩⟩
  rintro ⟨c', q', hh, rr⟩
  simp only [List.cons.injEq, DV.dat.injEq, PyData.tuple.injEq, PyData.int.injEq, PyData.list.injEq, fr_eq, natc_eq, and_true, true_and] at hh
  try simp only [hh]
  first | exact rr | (subst hh; exact rr)
end Sx

set_option Elab.async false
set_option linter.all false
set_option maxRecDepth 100000
set_option maxHeartbeats 4000000
namespace Sx
open PySem PySem.Spec L2
/-! En: the package's ends of stretches -/
def TT (c q : Rat) : Rat := tailS c (flF q) q.den (q.num : Rat) 0
def hiE (c q : Rat) : Rat := (1 - c) * (1 - c) * TT c q
def lenE (c : Rat) (N : Nat) : Rat := (1 - c) * (1 - c) * pwQ c (N - 1) / (1 - pwQ c N)
def loE (c q : Rat) : Rat := hiE c q - lenE c q.den
def hiA (c q : Rat) : Int := ((c.den : Int) - c.num) * rsS c q q.den
def apN (c : Rat) (N : Nat) : Int := (c.den : Int) ^ N - c.num ^ N
def lnA (c : Rat) (N : Nat) : Int := ((c.den : Int) - c.num) * ((c.den : Int) - c.num) * c.num ^ (N - 1)
def s_high_of : DSp := fun ds n R => ∃ c q : Rat, ds = [FV c, FV q] ∧ Prt c ∧ Mean q ∧ R (TV [.int (hiA c q), .int (apN c q.den)]) n
def s_length_of : DSp := fun ds n R => ∃ c : Rat, ∃ N : Nat, ds = [FV c, IV (N : Int)] ∧ Prt c ∧ 1 ≤ N ∧ N ≤ 300 ∧ R (TV [.int (lnA c N), .int ((c.den : Int) * apN c N)]) n
def s_ends_of : DSp := fun ds n R => ∃ c q : Rat, ds = [FV c, FV q] ∧ Prt c ∧ Mean q ∧ R (TV [.tuple [.int ((c.den : Int) * hiA c q - lnA c q.den), .int ((c.den : Int) * apN c q.den)], .tuple [.int (hiA c q), .int (apN c q.den)]]) n
def s_low_end : DSp := fun ds n R => ∃ c q : Rat, ds = [FV c, FV q] ∧ Prt c ∧ Mean q ∧ R (FV (loE c q)) n
def s_high_end : DSp := fun ds n R => ∃ c q : Rat, ds = [FV c, FV q] ∧ Prt c ∧ Mean q ∧ R (FV (hiE c q)) n
def s_stretch_of : DSp := fun ds n R => ∃ c q : Rat, ds = [FV c, FV q] ∧ Prt c ∧ Mean q ∧ R (TV [fr (loE c q), fr (hiE c q)]) n
def s_stretch_length : DSp := fun ds n R => ∃ c q : Rat, ds = [FV c, FV q] ∧ Prt c ∧ Mean q ∧ R (FV (lenE c q.den)) n
/-- high_of. Slots: part, mean, rest -/
def t_high_of : DTS :=
  (dSeq (dAsg 2 (dOp oSub (dOp oIxT (dVar 0) (dC (.int 1))) (dOp oIxT (dVar 0) (dC (.int 0)))))
  (dRet (dTup (dCons (dOp oMul (dVar 2) (dCall s_rhythm_sum (dCons (dVar 0) (dCons (dVar 1) dNil)))) (dCons (dCall s_powers_apart (dCons (dVar 0) (dCons (dOp oIxT (dVar 1) (dC (.int 1))) dNil))) dNil)))))
/-- length_of. Slots: part, below, rest -/
def t_length_of : DTS :=
  (dSeq (dAsg 2 (dOp oSub (dOp oIxT (dVar 0) (dC (.int 1))) (dOp oIxT (dVar 0) (dC (.int 0)))))
  (dRet (dTup (dCons (dOp oMul (dOp oMul (dVar 2) (dVar 2)) (dCall s_power (dCons (dOp oIxT (dVar 0) (dC (.int 0))) (dCons (dOp oSub (dVar 1) (dC (.int 1))) dNil)))) (dCons (dOp oMul (dOp oIxT (dVar 0) (dC (.int 1))) (dCall s_powers_apart (dCons (dVar 0) (dCons (dVar 1) dNil)))) dNil)))))
/-- ends_of. Slots: part, mean, high, length -/
def t_ends_of : DTS :=
  (dSeq (dAsg 2 (dCall s_high_of (dCons (dVar 0) (dCons (dVar 1) dNil))))
  (dSeq (dAsg 3 (dCall s_length_of (dCons (dVar 0) (dCons (dOp oIxT (dVar 1) (dC (.int 1))) dNil))))
  (dRet (dTup (dCons (dTup (dCons (dOp oSub (dOp oMul (dOp oIxT (dVar 0) (dC (.int 1))) (dOp oIxT (dVar 2) (dC (.int 0)))) (dOp oIxT (dVar 3) (dC (.int 0)))) (dCons (dOp oIxT (dVar 3) (dC (.int 1))) dNil))) (dCons (dVar 2) dNil))))))
/-- low_end. Slots: part, mean, low, _ -/
def t_low_end : DTS :=
  (dSeq (dDrop (dCall s_need_part_and_mean (dCons (dVar 0) (dCons (dVar 1) dNil))))
  (dSeq (dUnp [2, 3] (dCall s_ends_of (dCons (dVar 0) (dCons (dVar 1) dNil))))
  (dRet (dCall s_reduced (dCons (dOp oIxT (dVar 2) (dC (.int 0))) (dCons (dOp oIxT (dVar 2) (dC (.int 1))) dNil))))))
/-- high_end. Slots: part, mean, high -/
def t_high_end : DTS :=
  (dSeq (dDrop (dCall s_need_part_and_mean (dCons (dVar 0) (dCons (dVar 1) dNil))))
  (dSeq (dAsg 2 (dCall s_high_of (dCons (dVar 0) (dCons (dVar 1) dNil))))
  (dRet (dCall s_reduced (dCons (dOp oIxT (dVar 2) (dC (.int 0))) (dCons (dOp oIxT (dVar 2) (dC (.int 1))) dNil))))))
/-- stretch_of. Slots: part, mean -/
def t_stretch_of : DTS :=
  (dRet (dTup (dCons (dCall s_low_end (dCons (dVar 0) (dCons (dVar 1) dNil))) (dCons (dCall s_high_end (dCons (dVar 0) (dCons (dVar 1) dNil))) dNil))))
/-- stretch_length. Slots: part, mean, length -/
def t_stretch_length : DTS :=
  (dSeq (dDrop (dCall s_need_part_and_mean (dCons (dVar 0) (dCons (dVar 1) dNil))))
  (dSeq (dAsg 2 (dCall s_length_of (dCons (dVar 0) (dCons (dOp oIxT (dVar 1) (dC (.int 1))) dNil))))
  (dRet (dCall s_reduced (dCons (dOp oIxT (dVar 2) (dC (.int 0))) (dCons (dOp oIxT (dVar 2) (dC (.int 1))) dNil))))))
theorem e_high_of (c q : Rat) (n : Nat) (R : DV → Nat → Prop) : s_high_of [FV c, FV q] n R = (Prt c ∧ Mean q ∧ R (TV [.int (hiA c q), .int (apN c q.den)]) n) := by
  refine propext ⟨?_, fun hh => ⟨c, q, rfl, hh⟩⟩
  rintro ⟨c', q', hh, rr⟩
  simp only [List.cons.injEq, DV.dat.injEq, PyData.tuple.injEq, PyData.int.injEq, PyData.list.injEq, fr_eq, natc_eq, and_true, true_and] at hh
  try simp only [hh]
  first | exact rr | (subst hh; exact rr)
theorem e_length_of (c : Rat) (N : Nat) (n : Nat) (R : DV → Nat → Prop) : s_length_of [FV c, IV (N : Int)] n R = (Prt c ∧ 1 ≤ N ∧ N ≤ 300 ∧ R (TV [.int (lnA c N), .int ((c.den : Int) * apN c N)]) n) := by
  refine propext ⟨?_, fun hh => ⟨c, N, rfl, hh⟩⟩
  rintro ⟨c', N', hh, rr⟩
  simp only [List.cons.injEq, DV.dat.injEq, PyData.tuple.injEq, PyData.int.injEq, PyData.list.injEq, fr_eq, natc_eq, and_true, true_and] at hh
  try simp only [hh]
  first | exact rr | (subst hh; exact rr)
theorem e_ends_of (c q : Rat) (n : Nat) (R : DV → Nat → Prop) : s_ends_of [FV c, FV q] n R = (Prt c ∧ Mean q ∧ R (TV [.tuple [.int ((c.den : Int) * hiA c q - lnA c q.den), .int ((c.den : Int) * apN c q.den)], .tuple [.int (hiA c q), .int (apN c q.den)]]) n) := by
  refine propext ⟨?_, fun hh => ⟨c, q, rfl, hh⟩⟩
  rintro ⟨c', q', hh, rr⟩
  simp only [List.cons.injEq, DV.dat.injEq, PyData.tuple.injEq, PyData.int.injEq, PyData.list.injEq, fr_eq, natc_eq, and_true, true_and] at hh
  try simp only [hh]
  first | exact rr | (subst hh; exact rr)
theorem e_low_end (c q : Rat) (n : Nat) (R : DV → Nat → Prop) : s_low_end [FV c, FV q] n R = (Prt c ∧ Mean q ∧ R (FV (loE c q)) n) := by
  refine propext ⟨?_, fun hh => ⟨c, q, rfl, hh⟩⟩
  rintro ⟨c', q', hh, rr⟩
  simp only [List.cons.injEq, DV.dat.injEq, PyData.tuple.injEq, PyData.int.injEq, PyData.list.injEq, fr_eq, natc_eq, and_true, true_and] at hh
  try simp only [hh]
  first | exact rr | (subst hh; exact rr)
theorem e_high_end (c q : Rat) (n : Nat) (R : DV → Nat → Prop) : s_high_end [FV c, FV q] n R = (Prt c ∧ Mean q ∧ R (FV (hiE c q)) n) := by
  refine propext ⟨?_, fun hh => ⟨c, q, rfl, hh⟩⟩
  rintro ⟨c', q', hh, rr⟩
  simp only [List.cons.injEq, DV.dat.injEq, PyData.tuple.injEq, PyData.int.injEq, PyData.list.injEq, fr_eq, natc_eq, and_true, true_and] at hh
  try simp only [hh]
  first | exact rr | (subst hh; exact rr)
theorem e_stretch_of (c q : Rat) (n : Nat) (R : DV → Nat → Prop) : s_stretch_of [FV c, FV q] n R = (Prt c ∧ Mean q ∧ R (TV [fr (loE c q), fr (hiE c q)]) n) := by
  refine propext ⟨?_, fun hh => ⟨c, q, rfl, hh⟩⟩
  rintro ⟨c', q', hh, rr⟩
  simp only [List.cons.injEq, DV.dat.injEq, PyData.tuple.injEq, PyData.int.injEq, PyData.list.injEq, fr_eq, natc_eq, and_true, true_and] at hh
  try simp only [hh]
  first | exact rr | (subst hh; exact rr)
theorem e_stretch_length (c q : Rat) (n : Nat) (R : DV → Nat → Prop) : s_stretch_length [FV c, FV q] n R = (Prt c ∧ Mean q ∧ R (FV (lenE c q.den)) n) := by
  refine propext ⟨?_, fun hh => ⟨c, q, rfl, hh⟩⟩
  rintro ⟨c', q', hh, rr⟩
  simp only [List.cons.injEq, DV.dat.injEq, PyData.tuple.injEq, PyData.int.injEq, PyData.list.injEq, fr_eq, natc_eq, and_true, true_and] at hh
  try simp only [hh]
  first | exact rr | (subst hh; exact rr)
theorem Prt.zc {c : Rat} (C : Prt c) : Sz 10 c := (⟨C.b, C.c0, C.c1, C.cd, C.b, Rat.le_refl⟩ : Ht c c).zc
theorem Prt.n {c : Rat} (C : Prt c) : 0 < c.num ∧ c.num < (c.den : Int) := by
  refine ⟨(num_pos_iff c).2 C.c0, ?_⟩
  have h1 := q_den c
  have h2 := Rat.mul_lt_mul_of_pos_right C.c1 (den_q c)
  rw [h1, Rat.one_mul] at h2
  exact Rat.intCast_lt_intCast.1 h2
theorem apN_pos {c : Rat} (C : Prt c) {N : Nat} (h : 1 ≤ N) : 0 < apN c N := by
  obtain ⟨n0, n1⟩ := C.n
  have ex : ∃ m, N = m + 1 := ⟨N - 1, by omega⟩
  obtain ⟨m, rfl⟩ := ex
  have := pow_lt_pow n0 n1 m
  unfold apN
  omega
theorem apN_q {c : Rat} (N : Nat) : ((apN c N : Int) : Rat) = (1 - pwQ c N) * ((((c.den : Int) ^ N : Int)) : Rat) := by
  unfold apN
  rw [Rat.intCast_sub, pow_split c N]
  generalize (((c.den : Int) ^ N : Int) : Rat) = x
  grind
theorem pw1 {c : Rat} (C : Prt c) {N : Nat} (h : 1 ≤ N) : pwQ c N < 1 := by
  have ex : ∃ m, N = m + 1 := ⟨N - 1, by omega⟩
  obtain ⟨m, rfl⟩ := ex
  exact pwQ_lt C.c0 C.c1 m
theorem hi_q {c q : Rat} (C : Prt c) : ((hiA c q : Int) : Rat) / ((apN c q.den : Int) : Rat) = hiE c q := by
  have h := fsP_eq (q := q) C
  have q0 := q.den_pos
  have dp := den_q c
  have ap := Rat.intCast_pos.2 (apN_pos C (show 1 ≤ q.den by omega))
  unfold fsP at h
  unfold hiE TT hiA
  rw [← h]
  have cn := q_den c
  have c1 := C.c1
  show _ = (1 - c) * (1 - c) * ((((c.den : Int) * (c.den : Int) * rsS c q q.den : Int) : Rat) / ((((c.den : Int) - c.num) * (apN c q.den) : Int) : Rat))
  rw [Rat.intCast_mul, Rat.intCast_mul, Rat.intCast_mul, Rat.intCast_mul, Rat.intCast_sub, ← cn]
  generalize ((c.den : Int) : Rat) = w at *
  generalize ((apN c q.den : Int) : Rat) = z at *
  generalize (rsS c q q.den : Rat) = v at *
  have a1 : 1 - c ≠ 0 := by grind
  have a2 : z ≠ 0 := by grind
  have a3 : w ≠ 0 := by grind
  have e : w - c * w = (1 - c) * w := by grind
  rw [e, Rat.div_def, Rat.div_def, Rat.inv_mul_rev, Rat.inv_mul_rev]
  have i1 := Rat.mul_inv_cancel _ a1
  have i2 := Rat.mul_inv_cancel _ a3
  generalize (1 - c)⁻¹ = x1 at *
  generalize w⁻¹ = x2 at *
  generalize z⁻¹ = x3 at *
  generalize 1 - c = y at *
  grind
theorem len_q {c : Rat} (C : Prt c) {N : Nat} (h : 1 ≤ N) : ((lnA c N : Int) : Rat) / (((c.den : Int) * apN c N : Int) : Rat) = lenE c N := by
  have dp := den_q c
  have p1 := pw1 C h
  have cn := q_den c
  have c1 := C.c1
  have ex : ∃ m, N = m + 1 := ⟨N - 1, by omega⟩
  obtain ⟨m, rfl⟩ := ex
  have ps := pow_split c m
  have es : (((c.den : Int) ^ (m + 1) : Int) : Rat) = (((c.den : Int) ^ m : Int) : Rat) * ((c.den : Int) : Rat) := by rw [Int.pow_succ, Rat.intCast_mul]
  have pm : (0 : Rat) < (((c.den : Int) ^ m : Int) : Rat) := Rat.intCast_pos.2 (Int.pow_pos (by have := c.den_pos; omega))
  unfold lenE lnA
  rw [Nat.add_sub_cancel]
  rw [Rat.intCast_mul, Rat.intCast_mul, Rat.intCast_mul, Rat.intCast_sub, apN_q, ps, es, ← cn]
  generalize ((c.den : Int) : Rat) = w at *
  generalize (((c.den : Int) ^ m : Int) : Rat) = z at *
  generalize pwQ c (m + 1) = v at *
  generalize pwQ c m = u at *
  have a1 : 1 - v ≠ 0 := by grind
  have a2 : z ≠ 0 := by grind
  have a3 : w ≠ 0 := by grind
  rw [Rat.div_def, Rat.div_def, Rat.inv_mul_rev, Rat.inv_mul_rev, Rat.inv_mul_rev]
  have i1 := Rat.mul_inv_cancel _ a1
  have i2 := Rat.mul_inv_cancel _ a3
  have i3 := Rat.mul_inv_cancel _ a2
  generalize (1 - v)⁻¹ = x1 at *
  generalize w⁻¹ = x2 at *
  generalize z⁻¹ = x3 at *
  grind
theorem lo_q {c q : Rat} (C : Prt c) : ((((c.den : Int) * hiA c q - lnA c q.den : Int)) : Rat) / (((c.den : Int) * apN c q.den : Int) : Rat) = loE c q := by
  have q0 := q.den_pos
  have dp := den_q c
  have ap := Rat.intCast_pos.2 (apN_pos C (show 1 ≤ q.den by omega))
  unfold loE
  rw [← hi_q C, ← len_q C (by omega)]
  rw [Rat.intCast_sub, Rat.intCast_mul, Rat.intCast_mul]
  generalize ((c.den : Int) : Rat) = w at *
  generalize ((apN c q.den : Int) : Rat) = z at *
  generalize ((hiA c q : Int) : Rat) = x
  generalize ((lnA c q.den : Int) : Rat) = y
  have a2 : z ≠ 0 := by grind
  have a3 : w ≠ 0 := by grind
  rw [Rat.div_def, Rat.div_def, Rat.div_def, Rat.inv_mul_rev]
  have i2 := Rat.mul_inv_cancel _ a3
  generalize w⁻¹ = x2 at *
  generalize z⁻¹ = x3 at *
  grind
theorem hiA_B {c q : Rat} (C : Prt c) (M : Mean q) : B 3520 (hiA c q).natAbs := by
  have zc := C.zc
  have b2 := (rsS_B M.1.sz zc q.den (by have := M.2.2; omega)).mono (show _ ≤ 3500 by have := M.2.2; omega)
  exact (natAbs_mul_B (natAbs_sub_B2 (den_B zc) zc.n) b2).mono (by decide)
theorem apN_B {c : Rat} (C : Prt c) {N : Nat} (h : N ≤ 300) : B 3510 (apN c N).natAbs := by
  have zc := C.zc
  exact (natAbs_sub_B2 ((powZ_B (den_B zc) N).mono (show _ ≤ 3500 by omega)) ((powZ_B zc.n N).mono (show _ ≤ 3500 by omega))).mono (by decide)
theorem lnA_B {c : Rat} (C : Prt c) {N : Nat} (h : N ≤ 300) : B 3530 (lnA c N).natAbs := by
  have zc := C.zc
  have b3 := natAbs_sub_B2 (den_B zc) zc.n
  exact (natAbs_mul_B (natAbs_mul_B b3 b3) ((powZ_B zc.n (N - 1)).mono (show _ ≤ 3500 by omega))).mono (by decide)
theorem p_high_of (ds : List DV) (n : Nat) (R : DV → Nat → Prop) (hh : s_high_of ds n R) : Goal t_high_of 3 ds n R := by
  obtain ⟨c, q, rfl, C, M, k⟩ := hh
  have zq := M.1.sz
  have zc := C.zc
  have hq := M.2.2
  have b2 := (rsS_B zq zc q.den (by omega)).mono (show _ ≤ 3500 by omega)
  unfold Goal t_high_of
  simp only [↓oOdd_ap, ↓oHalf_ap, ↓dAsg2_ap, ↓dTruL_ap, ↓dCatOwn_ap, ↓oRepT_ap, ↓dParDX_ap, ↓dVar_ap, ↓dC_ap, ↓dOp_ap, ↓dUn_ap, ↓dCB_ap, ↓dCall_ap, ↓dCallId_ap, ↓dNil_ap, ↓dCons_ap, ↓dTup_ap, ↓dLst_ap, ↓dTest_ap, ↓dNot_ap, ↓dAnd_ap, ↓dOr_ap, ↓dIf_ap, ↓dAndV_ap, ↓dOrV_ap, ↓dNotV_ap, ↓dChain_ap, ↓dChain3_ap, ↓dTy_ap, ↓dIsi_ap, ↓dNoPart_ap, ↓dPart_ap, ↓dSliceL_ap, ↓dSliceA_ap, ↓dPeekT_ap, ↓dPeekI_ap, ↓dYes_ap, ↓dNext_ap, ↓dSeq_ap, ↓dRet_ap, ↓dRetN_ap, ↓dIfS_ap, ↓dDrop_ap, ↓dAsg_ap, ↓dAsgOwn_ap, ↓dFreeze_ap, ↓dAppend_ap, ↓dUnp_ap, ↓unpF_ap, ↓unpT_ap, ↓dPar_ap, ↓dPar3_ap, ↓dParO2_ap, ↓dParO3_ap, ↓dParOD_ap, ↓dParDO_ap, ↓dBreak_ap, ↓dCont_ap, ↓oI_ap, ↓oI0_ap, ↓oNeg_ap, ↓oEq_ap, ↓oNe_ap, ↓oIxT_ap, ↓oIxL_ap, ↓oIx0_ap, ↓oIx1_ap, ↓oIsN_ap, ↓oNotN_ap, ↓oIsB_ap, ↓oNotB_ap, ↓oEqS_ap, ↓oCat_ap, ↓oCatA_ap, ↓oRepL_ap, ↓oLenT_ap, ↓oLenL_ap, ↓oAbs_ap, ↓oInt_ap, ↓oGcd_ap, ↓oListT_ap, ↓oListL_ap, ↓oTupT_ap, ↓oTupL_ap, ↓oMin_ap, ↓oSum_ap, ↓oMax_ap, ↓oMinL_ap, ↓oLcm4_ap, ↓allD_ap, ↓allD_nil, ↓setAll_ap, ↓setAll_nil, TV, LV, IV, BV, FV, atI_0, atI_1, atI_2, atI_3, List.map_cons, List.map_nil, List.length_cons, List.length_nil, List.set_cons_zero, List.set_cons_succ, List.getElem?_cons_zero, List.getElem?_cons_succ, List.cons_append, List.nil_append, Nat.reduceAdd, Nat.reduceSub, Nat.reduceLeDiff, List.replicate, Bool.false_eq_true, if_false, if_true, ite_true, ite_false, true_and, and_true, Bool.not_true, Bool.not_false, decide_true, decide_false, entry, isNone_fr, isNone_non, isNone_tup, isNone_list, isNone_int, isNone_bool, pId, pRev, pR3, pR4, pR5, ↓dCallK_ap, ↓ixF0, ↓ixF1, ↓e_rhythm_sum, ↓e_powers_apart]
  exact ⟨zc, zq, hq, mulB (natAbs_sub_B2 (den_B zc) zc.n) b2 (by decide), zc, by omega, k⟩
theorem p_length_of (ds : List DV) (n : Nat) (R : DV → Nat → Prop) (hh : s_length_of ds n R) : Goal t_length_of 3 ds n R := by
  obtain ⟨c, N, rfl, C, N1, N3, k⟩ := hh
  have zc := C.zc
  have b3 := natAbs_sub_B2 (den_B zc) zc.n
  have eN : (N : Int) - 1 = ((N - 1 : Nat) : Int) := by omega
  unfold Goal t_length_of
  simp only [↓oOdd_ap, ↓oHalf_ap, ↓dAsg2_ap, ↓dTruL_ap, ↓dCatOwn_ap, ↓oRepT_ap, ↓dParDX_ap, ↓dVar_ap, ↓dC_ap, ↓dOp_ap, ↓dUn_ap, ↓dCB_ap, ↓dCall_ap, ↓dCallId_ap, ↓dNil_ap, ↓dCons_ap, ↓dTup_ap, ↓dLst_ap, ↓dTest_ap, ↓dNot_ap, ↓dAnd_ap, ↓dOr_ap, ↓dIf_ap, ↓dAndV_ap, ↓dOrV_ap, ↓dNotV_ap, ↓dChain_ap, ↓dChain3_ap, ↓dTy_ap, ↓dIsi_ap, ↓dNoPart_ap, ↓dPart_ap, ↓dSliceL_ap, ↓dSliceA_ap, ↓dPeekT_ap, ↓dPeekI_ap, ↓dYes_ap, ↓dNext_ap, ↓dSeq_ap, ↓dRet_ap, ↓dRetN_ap, ↓dIfS_ap, ↓dDrop_ap, ↓dAsg_ap, ↓dAsgOwn_ap, ↓dFreeze_ap, ↓dAppend_ap, ↓dUnp_ap, ↓unpF_ap, ↓unpT_ap, ↓dPar_ap, ↓dPar3_ap, ↓dParO2_ap, ↓dParO3_ap, ↓dParOD_ap, ↓dParDO_ap, ↓dBreak_ap, ↓dCont_ap, ↓oI_ap, ↓oI0_ap, ↓oNeg_ap, ↓oEq_ap, ↓oNe_ap, ↓oIxT_ap, ↓oIxL_ap, ↓oIx0_ap, ↓oIx1_ap, ↓oIsN_ap, ↓oNotN_ap, ↓oIsB_ap, ↓oNotB_ap, ↓oEqS_ap, ↓oCat_ap, ↓oCatA_ap, ↓oRepL_ap, ↓oLenT_ap, ↓oLenL_ap, ↓oAbs_ap, ↓oInt_ap, ↓oGcd_ap, ↓oListT_ap, ↓oListL_ap, ↓oTupT_ap, ↓oTupL_ap, ↓oMin_ap, ↓oSum_ap, ↓oMax_ap, ↓oMinL_ap, ↓oLcm4_ap, ↓allD_ap, ↓allD_nil, ↓setAll_ap, ↓setAll_nil, TV, LV, IV, BV, FV, atI_0, atI_1, atI_2, atI_3, List.map_cons, List.map_nil, List.length_cons, List.length_nil, List.set_cons_zero, List.set_cons_succ, List.getElem?_cons_zero, List.getElem?_cons_succ, List.cons_append, List.nil_append, Nat.reduceAdd, Nat.reduceSub, Nat.reduceLeDiff, List.replicate, Bool.false_eq_true, if_false, if_true, ite_true, ite_false, true_and, and_true, Bool.not_true, Bool.not_false, decide_true, decide_false, entry, isNone_fr, isNone_non, isNone_tup, isNone_list, isNone_int, isNone_bool, pId, pRev, pR3, pR4, pR5, ↓dCallK_ap, ↓ixF0, ↓ixF1, eN, ↓e_power, ↓e_powers_apart]
  exact ⟨mulB b3 b3 (by decide), zc.n, by omega, mulB (natAbs_mul_B b3 b3) ((powZ_B zc.n (N - 1)).mono (show _ ≤ 3500 by omega)) (by decide), zc, by omega, mulB (den_B zc) (apN_B C N3) (by decide), k⟩
theorem p_ends_of (ds : List DV) (n : Nat) (R : DV → Nat → Prop) (hh : s_ends_of ds n R) : Goal t_ends_of 4 ds n R := by
  obtain ⟨c, q, rfl, C, M, k⟩ := hh
  have zc := C.zc
  have hq := M.2.2
  have q0 := q.den_pos
  unfold Goal t_ends_of
  simp only [↓oOdd_ap, ↓oHalf_ap, ↓dAsg2_ap, ↓dTruL_ap, ↓dCatOwn_ap, ↓oRepT_ap, ↓dParDX_ap, ↓dVar_ap, ↓dC_ap, ↓dOp_ap, ↓dUn_ap, ↓dCB_ap, ↓dCall_ap, ↓dCallId_ap, ↓dNil_ap, ↓dCons_ap, ↓dTup_ap, ↓dLst_ap, ↓dTest_ap, ↓dNot_ap, ↓dAnd_ap, ↓dOr_ap, ↓dIf_ap, ↓dAndV_ap, ↓dOrV_ap, ↓dNotV_ap, ↓dChain_ap, ↓dChain3_ap, ↓dTy_ap, ↓dIsi_ap, ↓dNoPart_ap, ↓dPart_ap, ↓dSliceL_ap, ↓dSliceA_ap, ↓dPeekT_ap, ↓dPeekI_ap, ↓dYes_ap, ↓dNext_ap, ↓dSeq_ap, ↓dRet_ap, ↓dRetN_ap, ↓dIfS_ap, ↓dDrop_ap, ↓dAsg_ap, ↓dAsgOwn_ap, ↓dFreeze_ap, ↓dAppend_ap, ↓dUnp_ap, ↓unpF_ap, ↓unpT_ap, ↓dPar_ap, ↓dPar3_ap, ↓dParO2_ap, ↓dParO3_ap, ↓dParOD_ap, ↓dParDO_ap, ↓dBreak_ap, ↓dCont_ap, ↓oI_ap, ↓oI0_ap, ↓oNeg_ap, ↓oEq_ap, ↓oNe_ap, ↓oIxT_ap, ↓oIxL_ap, ↓oIx0_ap, ↓oIx1_ap, ↓oIsN_ap, ↓oNotN_ap, ↓oIsB_ap, ↓oNotB_ap, ↓oEqS_ap, ↓oCat_ap, ↓oCatA_ap, ↓oRepL_ap, ↓oLenT_ap, ↓oLenL_ap, ↓oAbs_ap, ↓oInt_ap, ↓oGcd_ap, ↓oListT_ap, ↓oListL_ap, ↓oTupT_ap, ↓oTupL_ap, ↓oMin_ap, ↓oSum_ap, ↓oMax_ap, ↓oMinL_ap, ↓oLcm4_ap, ↓allD_ap, ↓allD_nil, ↓setAll_ap, ↓setAll_nil, TV, LV, IV, BV, FV, atI_0, atI_1, atI_2, atI_3, List.map_cons, List.map_nil, List.length_cons, List.length_nil, List.set_cons_zero, List.set_cons_succ, List.getElem?_cons_zero, List.getElem?_cons_succ, List.cons_append, List.nil_append, Nat.reduceAdd, Nat.reduceSub, Nat.reduceLeDiff, List.replicate, Bool.false_eq_true, if_false, if_true, ite_true, ite_false, true_and, and_true, Bool.not_true, Bool.not_false, decide_true, decide_false, entry, isNone_fr, isNone_non, isNone_tup, isNone_list, isNone_int, isNone_bool, pId, pRev, pR3, pR4, pR5, ↓dCallK_ap, ↓ixF0, ↓ixF1, ↓e_high_of, ↓e_length_of]
  exact ⟨C, M, C, by omega, hq, mulB (den_B zc) (hiA_B C M) (by decide), k⟩
theorem p_low_end (ds : List DV) (n : Nat) (R : DV → Nat → Prop) (hh : s_low_end ds n R) : Goal t_low_end 4 ds n R := by
  obtain ⟨c, q, rfl, C, M, k⟩ := hh
  have zc := C.zc
  have hq := M.2.2
  have q0 := q.den_pos
  have dp := c.den_pos
  have ap := apN_pos C (show 1 ≤ q.den by omega)
  unfold Goal t_low_end
  simp only [↓oOdd_ap, ↓oHalf_ap, ↓dAsg2_ap, ↓dTruL_ap, ↓dCatOwn_ap, ↓oRepT_ap, ↓dParDX_ap, ↓dVar_ap, ↓dC_ap, ↓dOp_ap, ↓dUn_ap, ↓dCB_ap, ↓dCall_ap, ↓dCallId_ap, ↓dNil_ap, ↓dCons_ap, ↓dTup_ap, ↓dLst_ap, ↓dTest_ap, ↓dNot_ap, ↓dAnd_ap, ↓dOr_ap, ↓dIf_ap, ↓dAndV_ap, ↓dOrV_ap, ↓dNotV_ap, ↓dChain_ap, ↓dChain3_ap, ↓dTy_ap, ↓dIsi_ap, ↓dNoPart_ap, ↓dPart_ap, ↓dSliceL_ap, ↓dSliceA_ap, ↓dPeekT_ap, ↓dPeekI_ap, ↓dYes_ap, ↓dNext_ap, ↓dSeq_ap, ↓dRet_ap, ↓dRetN_ap, ↓dIfS_ap, ↓dDrop_ap, ↓dAsg_ap, ↓dAsgOwn_ap, ↓dFreeze_ap, ↓dAppend_ap, ↓dUnp_ap, ↓unpF_ap, ↓unpT_ap, ↓dPar_ap, ↓dPar3_ap, ↓dParO2_ap, ↓dParO3_ap, ↓dParOD_ap, ↓dParDO_ap, ↓dBreak_ap, ↓dCont_ap, ↓oI_ap, ↓oI0_ap, ↓oNeg_ap, ↓oEq_ap, ↓oNe_ap, ↓oIxT_ap, ↓oIxL_ap, ↓oIx0_ap, ↓oIx1_ap, ↓oIsN_ap, ↓oNotN_ap, ↓oIsB_ap, ↓oNotB_ap, ↓oEqS_ap, ↓oCat_ap, ↓oCatA_ap, ↓oRepL_ap, ↓oLenT_ap, ↓oLenL_ap, ↓oAbs_ap, ↓oInt_ap, ↓oGcd_ap, ↓oListT_ap, ↓oListL_ap, ↓oTupT_ap, ↓oTupL_ap, ↓oMin_ap, ↓oSum_ap, ↓oMax_ap, ↓oMinL_ap, ↓oLcm4_ap, ↓allD_ap, ↓allD_nil, ↓setAll_ap, ↓setAll_nil, TV, LV, IV, BV, FV, atI_0, atI_1, atI_2, atI_3, List.map_cons, List.map_nil, List.length_cons, List.length_nil, List.set_cons_zero, List.set_cons_succ, List.getElem?_cons_zero, List.getElem?_cons_succ, List.cons_append, List.nil_append, Nat.reduceAdd, Nat.reduceSub, Nat.reduceLeDiff, List.replicate, Bool.false_eq_true, if_false, if_true, ite_true, ite_false, true_and, and_true, Bool.not_true, Bool.not_false, decide_true, decide_false, entry, isNone_fr, isNone_non, isNone_tup, isNone_list, isNone_int, isNone_bool, pId, pRev, pR3, pR4, pR5, ↓dCallK_ap, ↓e_need_part_and_mean, ↓e_ends_of, ↓e_reduced]
  refine ⟨C, M, C, M, Int.mul_pos (by omega) ap, (natAbs_sub_B2 ((natAbs_mul_B (den_B zc) (hiA_B C M)).mono (show _ ≤ 3600 by decide)) ((lnA_B C hq).mono (by decide))).mono (by decide), (natAbs_mul_B (den_B zc) (apN_B C hq)).mono (by decide), ?_⟩
  rw [lo_q C]
  exact k
theorem p_high_end (ds : List DV) (n : Nat) (R : DV → Nat → Prop) (hh : s_high_end ds n R) : Goal t_high_end 3 ds n R := by
  obtain ⟨c, q, rfl, C, M, k⟩ := hh
  have hq := M.2.2
  have q0 := q.den_pos
  have ap := apN_pos C (show 1 ≤ q.den by omega)
  unfold Goal t_high_end
  simp only [↓oOdd_ap, ↓oHalf_ap, ↓dAsg2_ap, ↓dTruL_ap, ↓dCatOwn_ap, ↓oRepT_ap, ↓dParDX_ap, ↓dVar_ap, ↓dC_ap, ↓dOp_ap, ↓dUn_ap, ↓dCB_ap, ↓dCall_ap, ↓dCallId_ap, ↓dNil_ap, ↓dCons_ap, ↓dTup_ap, ↓dLst_ap, ↓dTest_ap, ↓dNot_ap, ↓dAnd_ap, ↓dOr_ap, ↓dIf_ap, ↓dAndV_ap, ↓dOrV_ap, ↓dNotV_ap, ↓dChain_ap, ↓dChain3_ap, ↓dTy_ap, ↓dIsi_ap, ↓dNoPart_ap, ↓dPart_ap, ↓dSliceL_ap, ↓dSliceA_ap, ↓dPeekT_ap, ↓dPeekI_ap, ↓dYes_ap, ↓dNext_ap, ↓dSeq_ap, ↓dRet_ap, ↓dRetN_ap, ↓dIfS_ap, ↓dDrop_ap, ↓dAsg_ap, ↓dAsgOwn_ap, ↓dFreeze_ap, ↓dAppend_ap, ↓dUnp_ap, ↓unpF_ap, ↓unpT_ap, ↓dPar_ap, ↓dPar3_ap, ↓dParO2_ap, ↓dParO3_ap, ↓dParOD_ap, ↓dParDO_ap, ↓dBreak_ap, ↓dCont_ap, ↓oI_ap, ↓oI0_ap, ↓oNeg_ap, ↓oEq_ap, ↓oNe_ap, ↓oIxT_ap, ↓oIxL_ap, ↓oIx0_ap, ↓oIx1_ap, ↓oIsN_ap, ↓oNotN_ap, ↓oIsB_ap, ↓oNotB_ap, ↓oEqS_ap, ↓oCat_ap, ↓oCatA_ap, ↓oRepL_ap, ↓oLenT_ap, ↓oLenL_ap, ↓oAbs_ap, ↓oInt_ap, ↓oGcd_ap, ↓oListT_ap, ↓oListL_ap, ↓oTupT_ap, ↓oTupL_ap, ↓oMin_ap, ↓oSum_ap, ↓oMax_ap, ↓oMinL_ap, ↓oLcm4_ap, ↓allD_ap, ↓allD_nil, ↓setAll_ap, ↓setAll_nil, TV, LV, IV, BV, FV, atI_0, atI_1, atI_2, atI_3, List.map_cons, List.map_nil, List.length_cons, List.length_nil, List.set_cons_zero, List.set_cons_succ, List.getElem?_cons_zero, List.getElem?_cons_succ, List.cons_append, List.nil_append, Nat.reduceAdd, Nat.reduceSub, Nat.reduceLeDiff, List.replicate, Bool.false_eq_true, if_false, if_true, ite_true, ite_false, true_and, and_true, Bool.not_true, Bool.not_false, decide_true, decide_false, entry, isNone_fr, isNone_non, isNone_tup, isNone_list, isNone_int, isNone_bool, pId, pRev, pR3, pR4, pR5, ↓dCallK_ap, ↓e_need_part_and_mean, ↓e_high_of, ↓e_reduced]
  refine ⟨C, M, C, M, ap, (hiA_B C M).mono (by decide), (apN_B C hq).mono (by decide), ?_⟩
  rw [hi_q C]
  exact k
theorem p_stretch_of (ds : List DV) (n : Nat) (R : DV → Nat → Prop) (hh : s_stretch_of ds n R) : Goal t_stretch_of 2 ds n R := by
  obtain ⟨c, q, rfl, C, M, k⟩ := hh
  unfold Goal t_stretch_of
  simp only [↓oOdd_ap, ↓oHalf_ap, ↓dAsg2_ap, ↓dTruL_ap, ↓dCatOwn_ap, ↓oRepT_ap, ↓dParDX_ap, ↓dVar_ap, ↓dC_ap, ↓dOp_ap, ↓dUn_ap, ↓dCB_ap, ↓dCall_ap, ↓dCallId_ap, ↓dNil_ap, ↓dCons_ap, ↓dTup_ap, ↓dLst_ap, ↓dTest_ap, ↓dNot_ap, ↓dAnd_ap, ↓dOr_ap, ↓dIf_ap, ↓dAndV_ap, ↓dOrV_ap, ↓dNotV_ap, ↓dChain_ap, ↓dChain3_ap, ↓dTy_ap, ↓dIsi_ap, ↓dNoPart_ap, ↓dPart_ap, ↓dSliceL_ap, ↓dSliceA_ap, ↓dPeekT_ap, ↓dPeekI_ap, ↓dYes_ap, ↓dNext_ap, ↓dSeq_ap, ↓dRet_ap, ↓dRetN_ap, ↓dIfS_ap, ↓dDrop_ap, ↓dAsg_ap, ↓dAsgOwn_ap, ↓dFreeze_ap, ↓dAppend_ap, ↓dUnp_ap, ↓unpF_ap, ↓unpT_ap, ↓dPar_ap, ↓dPar3_ap, ↓dParO2_ap, ↓dParO3_ap, ↓dParOD_ap, ↓dParDO_ap, ↓dBreak_ap, ↓dCont_ap, ↓oI_ap, ↓oI0_ap, ↓oNeg_ap, ↓oEq_ap, ↓oNe_ap, ↓oIxT_ap, ↓oIxL_ap, ↓oIx0_ap, ↓oIx1_ap, ↓oIsN_ap, ↓oNotN_ap, ↓oIsB_ap, ↓oNotB_ap, ↓oEqS_ap, ↓oCat_ap, ↓oCatA_ap, ↓oRepL_ap, ↓oLenT_ap, ↓oLenL_ap, ↓oAbs_ap, ↓oInt_ap, ↓oGcd_ap, ↓oListT_ap, ↓oListL_ap, ↓oTupT_ap, ↓oTupL_ap, ↓oMin_ap, ↓oSum_ap, ↓oMax_ap, ↓oMinL_ap, ↓oLcm4_ap, ↓allD_ap, ↓allD_nil, ↓setAll_ap, ↓setAll_nil, TV, LV, IV, BV, FV, atI_0, atI_1, atI_2, atI_3, List.map_cons, List.map_nil, List.length_cons, List.length_nil, List.set_cons_zero, List.set_cons_succ, List.getElem?_cons_zero, List.getElem?_cons_succ, List.cons_append, List.nil_append, Nat.reduceAdd, Nat.reduceSub, Nat.reduceLeDiff, List.replicate, Bool.false_eq_true, if_false, if_true, ite_true, ite_false, true_and, and_true, Bool.not_true, Bool.not_false, decide_true, decide_false, entry, isNone_fr, isNone_non, isNone_tup, isNone_list, isNone_int, isNone_bool, pId, pRev, pR3, pR4, pR5, ↓dCallK_ap, ↓e_low_end, ↓e_high_end]
  exact ⟨C, M, C, M, k⟩
theorem p_stretch_length (ds : List DV) (n : Nat) (R : DV → Nat → Prop) (hh : s_stretch_length ds n R) : Goal t_stretch_length 3 ds n R := by
  obtain ⟨c, q, rfl, C, M, k⟩ := hh
  have zc := C.zc
  have hq := M.2.2
  have q0 := q.den_pos
  have dp := c.den_pos
  have ap := apN_pos C (show 1 ≤ q.den by omega)
  unfold Goal t_stretch_length
  simp only [↓oOdd_ap, ↓oHalf_ap, ↓dAsg2_ap, ↓dTruL_ap, ↓dCatOwn_ap, ↓oRepT_ap, ↓dParDX_ap, ↓dVar_ap, ↓dC_ap, ↓dOp_ap, ↓dUn_ap, ↓dCB_ap, ↓dCall_ap, ↓dCallId_ap, ↓dNil_ap, ↓dCons_ap, ↓dTup_ap, ↓dLst_ap, ↓dTest_ap, ↓dNot_ap, ↓dAnd_ap, ↓dOr_ap, ↓dIf_ap, ↓dAndV_ap, ↓dOrV_ap, ↓dNotV_ap, ↓dChain_ap, ↓dChain3_ap, ↓dTy_ap, ↓dIsi_ap, ↓dNoPart_ap, ↓dPart_ap, ↓dSliceL_ap, ↓dSliceA_ap, ↓dPeekT_ap, ↓dPeekI_ap, ↓dYes_ap, ↓dNext_ap, ↓dSeq_ap, ↓dRet_ap, ↓dRetN_ap, ↓dIfS_ap, ↓dDrop_ap, ↓dAsg_ap, ↓dAsgOwn_ap, ↓dFreeze_ap, ↓dAppend_ap, ↓dUnp_ap, ↓unpF_ap, ↓unpT_ap, ↓dPar_ap, ↓dPar3_ap, ↓dParO2_ap, ↓dParO3_ap, ↓dParOD_ap, ↓dParDO_ap, ↓dBreak_ap, ↓dCont_ap, ↓oI_ap, ↓oI0_ap, ↓oNeg_ap, ↓oEq_ap, ↓oNe_ap, ↓oIxT_ap, ↓oIxL_ap, ↓oIx0_ap, ↓oIx1_ap, ↓oIsN_ap, ↓oNotN_ap, ↓oIsB_ap, ↓oNotB_ap, ↓oEqS_ap, ↓oCat_ap, ↓oCatA_ap, ↓oRepL_ap, ↓oLenT_ap, ↓oLenL_ap, ↓oAbs_ap, ↓oInt_ap, ↓oGcd_ap, ↓oListT_ap, ↓oListL_ap, ↓oTupT_ap, ↓oTupL_ap, ↓oMin_ap, ↓oSum_ap, ↓oMax_ap, ↓oMinL_ap, ↓oLcm4_ap, ↓allD_ap, ↓allD_nil, ↓setAll_ap, ↓setAll_nil, TV, LV, IV, BV, FV, atI_0, atI_1, atI_2, atI_3, List.map_cons, List.map_nil, List.length_cons, List.length_nil, List.set_cons_zero, List.set_cons_succ, List.getElem?_cons_zero, List.getElem?_cons_succ, List.cons_append, List.nil_append, Nat.reduceAdd, Nat.reduceSub, Nat.reduceLeDiff, List.replicate, Bool.false_eq_true, if_false, if_true, ite_true, ite_false, true_and, and_true, Bool.not_true, Bool.not_false, decide_true, decide_false, entry, isNone_fr, isNone_non, isNone_tup, isNone_list, isNone_int, isNone_bool, pId, pRev, pR3, pR4, pR5, ↓dCallK_ap, ↓ixF1, ↓e_need_part_and_mean, ↓e_length_of, ↓e_reduced]
  refine ⟨C, M, C, by omega, hq, Int.mul_pos (by omega) ap, (lnA_B C hq).mono (by decide), (natAbs_mul_B (den_B zc) (apN_B C hq)).mono (by decide), ?_⟩
  rw [len_q C (by omega)]
  exact k
end Sx

set_option Elab.async false
set_option linter.all false
set_option maxRecDepth 100000
set_option maxHeartbeats 4000000
/-! Em: ends of stretches as sums without end -/
namespace Sx
theorem up_dvd {a d : Int} (hd : 0 < d) (h : d ∣ a) : -(-a / d) = a / d := by
  obtain ⟨m, rfl⟩ := h
  rw [← Int.mul_neg, Int.mul_ediv_cancel_left _ (by omega), Int.mul_ediv_cancel_left _ (by omega)]
  omega
theorem up_ndvd {a d : Int} (hd : 0 < d) (h : ¬ d ∣ a) : -(-a / d) = a / d + 1 := by
  have e := Int.mul_ediv_add_emod a d
  have r0 := Int.emod_nonneg a (show d ≠ 0 by omega)
  have r1 := Int.emod_lt_of_pos a hd
  have rn : a % d ≠ 0 := fun z => h (Int.dvd_of_emod_eq_zero z)
  have ef : ∃ f, f = a / d := ⟨_, rfl⟩
  obtain ⟨f, hf⟩ := ef
  rw [← hf] at e ⊢
  have : -a / d = -f - 1 := by
    apply Int.le_antisymm
    · have h2 : -a < (-f) * d := by
        rw [Int.neg_mul, Int.mul_comm f d]
        omega
      have := Int.ediv_lt_of_lt_mul hd h2
      omega
    · apply Int.le_ediv_of_mul_le hd
      rw [Int.sub_mul, Int.neg_mul, Int.one_mul, Int.mul_comm f d]
      omega
  omega
theorem den_ndvd (q : Rat) {M : Nat} (h0 : 0 < M) (h : M < q.den) : ¬ (q.den : Int) ∣ (M : Int) * q.num := by
  intro z
  have z2 : q.den ∣ M * q.num.natAbs := by
    have := Int.natAbs_dvd_natAbs.2 z
    rw [Int.natAbs_mul] at this
    simpa using this
  have co : Nat.Coprime q.den q.num.natAbs := Nat.Coprime.symm q.reduced
  have := Nat.le_of_dvd h0 (co.dvd_of_dvd_mul_right z2)
  omega
/-- ceil less 1 -/
def ceF (q : Rat) (M : Nat) : Rat := ((upT q (M : Int) - 1 : Int) : Rat)
theorem ceF_lt (q : Rat) {M : Nat} (h0 : 0 < M) (h : M < q.den) : ceF q M = flF q M := by
  have d := q.den_pos
  have e := up_ndvd (show (0 : Int) < (q.den : Int) by omega) (den_ndvd q h0 h)
  unfold ceF flF upT flQ
  rw [Int.neg_mul, e]
  congr 1
  omega
theorem ceF_den (q : Rat) : ceF q q.den = flF q q.den - 1 := by
  have d := q.den_pos
  have e := up_dvd (show (0 : Int) < (q.den : Int) by omega) (a := (q.den : Int) * q.num) ⟨q.num, rfl⟩
  unfold ceF flF upT flQ
  rw [Int.neg_mul, e, Rat.intCast_sub]
  rfl
theorem ceF_grow (q : Rat) : Grow (ceF q) q.den (q.num : Rat) := fun k => by
  have d := q.den_pos
  unfold ceF upT
  rw [← Rat.intCast_add]
  congr 1
  have e : -((k + q.den : Nat) : Int) * q.num = -(k : Int) * q.num + (-q.num) * (q.den : Int) := by
    rw [Int.natCast_add, Int.neg_add, Int.add_mul, Int.neg_mul, Int.neg_mul, Int.neg_mul, Int.mul_comm q.num]
  rw [e, Int.add_mul_ediv_right _ _ (by omega)]
  omega
theorem sgm_ce (c q : Rat) : ∀ n, n < q.den → sgm c (ceF q) 0 n = sgm c (flF q) 0 n
  | 0, _ => rfl
  | n + 1, h => by
    show sgm c (ceF q) 0 n + pwQ c n * ceF q (0 + n + 1) = sgm c (flF q) 0 n + pwQ c n * flF q (0 + n + 1)
    rw [sgm_ce c q n (by omega), ceF_lt q (by omega) (by omega)]
theorem loE_eq {c q : Rat} (c1 : c < 1) (q1 : pwQ c q.den < 1) : loE c q = (1 - c) * (1 - c) * tailS c (ceF q) q.den (q.num : Rat) 0 := by
  have d := q.den_pos
  have e : sgm c (ceF q) 0 q.den = sgm c (flF q) 0 q.den - pwQ c (q.den - 1) := by
    have ex : ∃ m, q.den = m + 1 := ⟨q.den - 1, by omega⟩
    obtain ⟨m, hm⟩ := ex
    have a := sgm_ce c q m (by omega)
    have b := ceF_den q
    rw [hm] at b ⊢
    show sgm c (ceF q) 0 m + pwQ c m * ceF q (0 + m + 1) = sgm c (flF q) 0 m + pwQ c m * flF q (0 + m + 1) - pwQ c (m + 1 - 1)
    rw [a, Nat.zero_add, b, Nat.add_sub_cancel]
    grind
  unfold loE hiE TT lenE tailS
  rw [e]
  generalize sgm c (flF q) 0 q.den = x
  generalize (q.num : Rat) = y
  generalize pwQ c q.den = z at *
  generalize pwQ c (q.den - 1) = u at *
  have h1 : 1 - z ≠ 0 := by grind
  have h2 : 1 - c ≠ 0 := by grind
  rw [Rat.div_def, Rat.div_def, Rat.div_def, Rat.div_def]
  generalize (1 - z)⁻¹ = i
  grind
theorem sgm_sub (c : Rat) (f h : Nat → Rat) (k : Nat) : ∀ n, sgm c (fun M => f M - h M) k n = sgm c f k n - sgm c h k n
  | 0 => by show (0 : Rat) = 0 - 0; grind
  | n + 1 => by
    show sgm c (fun M => f M - h M) k n + pwQ c n * (f (k + n + 1) - h (k + n + 1)) = (sgm c f k n + pwQ c n * f (k + n + 1)) - (sgm c h k n + pwQ c n * h (k + n + 1))
    rw [sgm_sub c f h k n]
    grind
theorem tailS_sub (c P P' : Rat) (f h : Nat → Rat) (Q k : Nat) : tailS c (fun M => f M - h M) Q (P - P') k = tailS c f Q P k - tailS c h Q P' k := by
  unfold tailS
  rw [sgm_sub]
  generalize sgm c f k Q = x
  generalize sgm c h k Q = y
  generalize pwQ c Q = z
  rw [Rat.div_def, Rat.div_def, Rat.div_def, Rat.div_def, Rat.div_def, Rat.div_def]
  generalize (1 - z)⁻¹ = i
  generalize ((1 - c) * (1 - z))⁻¹ = j
  grind
theorem grow_sub {f h : Nat → Rat} {Q : Nat} {P P' : Rat} (a : Grow f Q P) (b : Grow h Q P') : Grow (fun M => f M - h M) Q (P - P') := fun k => by
  show f (k + Q) - h (k + Q) = _
  rw [a k, b k]
  grind
/-- M - 1 -/
def preF (M : Nat) : Rat := (((M : Int) - 1 : Int) : Rat)
theorem preF_grow (Q : Nat) : Grow preF Q (((Q : Int) : Rat)) := fun k => by
  unfold preF
  rw [← Rat.intCast_add]
  congr 1
  omega
theorem sgm_pre (c : Rat) : ∀ n, sgm c preF 1 n = sgm c (linF 1) 0 n
  | 0 => rfl
  | n + 1 => by
    show sgm c preF 1 n + pwQ c n * preF (1 + n + 1) = sgm c (linF 1) 0 n + pwQ c n * linF 1 (0 + n + 1)
    have e : preF (1 + n + 1) = linF 1 (0 + n + 1) := by
      unfold preF linF
      rw [Rat.mul_one]
      congr 1
      omega
    rw [sgm_pre c n, e]
theorem tail_pre {c : Rat} (c0 : 0 < c) (c1 : c < 1) {Q : Nat} (q1 : pwQ c Q < 1) : (1 - c) * (1 - c) * tailS c preF Q ((Q : Int) : Rat) 0 = c := by
  have st := tailS_step c1 q1 (preF_grow Q) 0
  have li := tailS_lin (r := 1) (Q := Q) c0 c1 q1 0
  rw [Rat.mul_one] at li
  have e : tailS c preF Q ((Q : Int) : Rat) (0 + 1) = tailS c (linF 1) Q ((Q : Int) : Rat) 0 := by
    unfold tailS
    rw [Nat.zero_add, sgm_pre]
  have e0 : preF (0 + 1) = 0 := rfl
  have one : (((0 + 1 : Nat) : Int) : Rat) = 1 := rfl
  rw [e0, e, li, one] at st
  rw [st]
  have : 1 - c ≠ 0 := by grind
  grind
theorem ceF_ge {q : Rat} (h : 1 ≤ q) (M : Nat) : preF M ≤ ceF q M := by
  have d := q.den_pos
  have n1 : (q.den : Int) ≤ q.num := by
    have e := q_den q
    have dq := den_q q
    have := Rat.mul_le_mul_of_nonneg_right h (Rat.le_of_lt dq)
    rw [Rat.one_mul, e] at this
    exact Rat.intCast_le_intCast.1 this
  unfold preF ceF upT
  refine Rat.intCast_le_intCast.2 ?_
  have h2 : -(M : Int) * q.num / (q.den : Int) ≤ -(M : Int) := by
    have h3 : -(M : Int) * q.num ≤ -(M : Int) * (q.den : Int) := by
      rw [Int.neg_mul, Int.neg_mul]
      have := Int.mul_le_mul_of_nonneg_left n1 (show (0 : Int) ≤ (M : Int) by omega)
      omega
    have := Int.ediv_le_ediv (show (0 : Int) < (q.den : Int) by omega) h3
    rw [Int.mul_ediv_cancel _ (by omega)] at this
    exact this
  omega
theorem tail_mono {c P P' : Rat} {f h : Nat → Rat} {Q : Nat} (c0 : 0 < c) (c1 : c < 1) (q1 : pwQ c Q < 1) (a : Grow f Q P) (b : Grow h Q P') (le : ∀ k, h k ≤ f k) (P0 : P' ≤ P) (k : Nat) : tailS c h Q P' k ≤ tailS c f Q P k := by
  have t := tailS_pos c0 c1 q1 (grow_sub a b) (fun k => by have := le k; show 0 ≤ f k - h k; grind) (show 0 ≤ P - P' by grind) k
  rw [tailS_sub] at t
  grind
theorem loE_ge {c q : Rat} (c0 : 0 < c) (c1 : c < 1) (q1 : pwQ c q.den < 1) (h : 1 ≤ q) : c ≤ loE c q := by
  have e := q_den q
  have dq := den_q q
  have p := Rat.mul_le_mul_of_nonneg_right h (Rat.le_of_lt dq)
  rw [Rat.one_mul, e] at p
  have t := tail_mono c0 c1 q1 (ceF_grow q) (preF_grow q.den) (ceF_ge h) p 0
  have u := Rat.mul_le_mul_of_nonneg_left t (Rat.le_of_lt (Rat.mul_pos (show 0 < 1 - c by grind) (show 0 < 1 - c by grind)))
  rw [tail_pre c0 c1 q1, ← loE_eq c1 q1] at u
  exact u
theorem lenE_pos {c : Rat} (c0 : 0 < c) (c1 : c < 1) {N : Nat} (q1 : pwQ c N < 1) : 0 < lenE c N := by
  have a := pwQ_pos c0 (N - 1)
  have l : 0 < 1 - c := by grind
  have r : 0 < 1 - pwQ c N := by grind
  unfold lenE
  rw [Rat.div_def]
  exact Rat.mul_pos (Rat.mul_pos (Rat.mul_pos l l) a) (Rat.inv_pos.2 r)
theorem lenE_diff (c q : Rat) : hiE c q - loE c q = lenE c q.den := by unfold loE; grind
theorem plus_nat (q : Rat) (k : Nat) : (q + ((k : Int) : Rat)).den = q.den ∧ (q + ((k : Int) : Rat)).num = q.num + (q.den : Int) * (k : Int) := by
  have q0 : (0 : Int) < (q.den : Int) := by have := q.den_pos; omega
  have e : q + ((k : Int) : Rat) = ((q.num + (q.den : Int) * (k : Int) : Int) : Rat) / ((q.den : Int) : Rat) := by
    have h := q_den q
    have d := den_q q
    rw [Rat.intCast_add, Rat.intCast_mul, ← h]
    generalize ((q.den : Int) : Rat) = x at *
    have : x ≠ 0 := by grind
    grind
  obtain ⟨e1, e2⟩ := red (a := q.num + (q.den : Int) * (k : Int)) q0
  have gg : Nat.gcd (q.num + (q.den : Int) * (k : Int)).natAbs ((q.den : Int)).natAbs = 1 := by
    have h := q.reduced
    have h2 : Int.gcd (q.num + (q.den : Int) * (k : Int)) (q.den : Int) = 1 := by
      rw [Int.gcd_add_mul_left_left]
      exact h
    exact h2
  rw [gg] at e1 e2
  rw [← e] at e1 e2
  have h1 : ∀ x : Int, x / ((1 : Nat) : Int) = x := fun x => Int.ediv_one x
  rw [h1] at e1 e2
  exact ⟨by omega, e1⟩
/-- whole means -/
theorem flF_whole (k : Nat) (M : Nat) : flF ((k : Int) : Rat) M = linF ((k : Int) : Rat) M := by
  have e1 : (((k : Int)) : Rat).num = (k : Int) := rfl
  have e2 : (((k : Int)) : Rat).den = 1 := rfl
  unfold flF flQ linF
  rw [e1, e2, ← Rat.intCast_mul]
  congr 1
  exact Int.ediv_one _
theorem hiE_whole {c : Rat} (c0 : 0 < c) (c1 : c < 1) (k : Nat) : hiE c ((k : Int) : Rat) = ((k : Int) : Rat) := by
  have q1 : pwQ c 1 < 1 := pwQ_lt c0 c1 0
  have li := tailS_lin (r := ((k : Int) : Rat)) (Q := 1) c0 c1 q1 0
  have e0 : (((1 : Nat) : Int) : Rat) * ((k : Int) : Rat) = ((k : Int) : Rat) := by
    have : (((1 : Nat) : Int) : Rat) = 1 := rfl
    rw [this, Rat.one_mul]
  rw [e0] at li
  have e3 : TT c ((k : Int) : Rat) = tailS c (linF ((k : Int) : Rat)) 1 ((k : Int) : Rat) 0 := by
    have ff : flF ((k : Int) : Rat) = linF ((k : Int) : Rat) := funext (flF_whole k)
    have e2 : (((k : Int)) : Rat).den = 1 := rfl
    have e1 : (((k : Int)) : Rat).num = (k : Int) := rfl
    unfold TT
    rw [ff, e2, e1]
  have one : (((0 + 1 : Nat) : Int) : Rat) = 1 := rfl
  unfold hiE
  rw [e3, li]
  generalize ((k : Int) : Rat) = x
  have : 1 - c ≠ 0 := by grind
  grind
theorem loE_whole {c : Rat} (c0 : 0 < c) (c1 : c < 1) (k : Nat) : loE c ((k : Int) : Rat) = ((k : Int) : Rat) - 1 + c := by
  have e2 : (((k : Int)) : Rat).den = 1 := rfl
  unfold loE
  rw [hiE_whole c0 c1, e2]
  have : lenE c 1 = 1 - c := by
    unfold lenE
    have a : pwQ c (1 - 1) = 1 := rfl
    have b : pwQ c 1 = 1 * c := rfl
    rw [a, b]
    have : 1 - c ≠ 0 := by grind
    have : 1 - 1 * c ≠ 0 := by grind
    grind
  rw [this]
  grind
end Sx

set_option Elab.async false
set_option linter.all false
set_option maxRecDepth 100000
set_option maxHeartbeats 4000000
namespace Sx
open PySem PySem.Spec L2
def s__law_power : DSp := fun ds n R => ∃ c : Rat, ∃ N : Nat, ds = [FV c, IV (N : Int)] ∧ N ≤ 20 ∧ Sz 4 c ∧ R (FV (pwQ c N)) n
def s__law_ends : DSp := fun ds n R => ∃ c q : Rat, ds = [FV c, FV q] ∧ 0 < c ∧ c < 1 ∧ Sz 4 c ∧ Pr q ∧ (Sz 1700 (loE c q) → Sz 1520 (hiE c q) → R (TV [fr (loE c q), fr (hiE c q)]) n)
def t__law_power_b1 : DTS :=
  (dAsg 2 (dCall s__law_times (dCons (dVar 2) (dCons (dVar 0) dNil))))
/-- _law_power. Slots: one, times_so, found, step -/
def t__law_power : DTS :=
  (dSeq (dAsg 2 (dTup (dCons (dC (.int 1)) (dCons (dC (.int 1)) dNil))))
  (dSeq (dForR 3 (dVar 1) t__law_power_b1)
  (dRet (dVar 2))))
/-- _law_ends. Slots: cut_so, pair_so, left, far, power_v, rest -/
def t__law_ends : DTS :=
  (dSeq (dAsg 2 (dCall s__law_minus (dCons (dTup (dCons (dC (.int 1)) (dCons (dC (.int 1)) dNil))) (dCons (dVar 0) dNil))))
  (dSeq (dAsg 3 (dCall s__law_times (dCons (dCall s__law_times (dCons (dVar 2) (dCons (dVar 2) dNil))) (dCons (dCall s__law_floors (dCons (dVar 0) (dCons (dVar 1) dNil))) dNil))))
  (dSeq (dAsg 4 (dCall s__law_power (dCons (dVar 0) (dCons (dOp oSub (dOp oIxT (dVar 1) (dC (.int 1))) (dC (.int 1))) dNil))))
  (dSeq (dAsg 5 (dCall s__law_minus (dCons (dTup (dCons (dC (.int 1)) (dCons (dC (.int 1)) dNil))) (dCons (dCall s__law_times (dCons (dVar 4) (dCons (dVar 0) dNil))) dNil))))
  (dRet (dTup (dCons (dCall s__law_minus (dCons (dVar 3) (dCons (dCall s__law_over (dCons (dCall s__law_times (dCons (dCall s__law_times (dCons (dVar 2) (dCons (dVar 2) dNil))) (dCons (dVar 4) dNil))) (dCons (dVar 5) dNil))) dNil))) (dCons (dVar 3) dNil))))))))
theorem e__law_power (c : Rat) (N : Nat) (n : Nat) (R : DV → Nat → Prop) : s__law_power [FV c, IV (N : Int)] n R = (N ≤ 20 ∧ Sz 4 c ∧ R (FV (pwQ c N)) n) := by
  refine propext ⟨?_, fun hh => ⟨c, N, rfl, hh⟩⟩
  rintro ⟨c', N', hh, rr⟩
  simp only [List.cons.injEq, DV.dat.injEq, PyData.tuple.injEq, PyData.int.injEq, PyData.list.injEq, fr_eq, natc_eq, and_true, true_and] at hh
  try simp only [hh]
  first | exact rr | (subst hh; exact rr)
theorem e__law_ends (c q : Rat) (n : Nat) (R : DV → Nat → Prop) : s__law_ends [FV c, FV q] n R = (0 < c ∧ c < 1 ∧ Sz 4 c ∧ Pr q ∧ (Sz 1700 (loE c q) → Sz 1520 (hiE c q) → R (TV [fr (loE c q), fr (hiE c q)]) n)) := by
  refine propext ⟨?_, fun hh => ⟨c, q, rfl, hh⟩⟩
  rintro ⟨c', q', hh, rr⟩
  simp only [List.cons.injEq, DV.dat.injEq, PyData.tuple.injEq, PyData.int.injEq, PyData.list.injEq, fr_eq, natc_eq, and_true, true_and] at hh
  try simp only [hh]
  first | exact rr | (subst hh; exact rr)
theorem p__law_power (ds : List DV) (n : Nat) (R : DV → Nat → Prop) (hh : s__law_power ds n R) : Goal t__law_power 4 ds n R := by
  obtain ⟨c, N, rfl, hN, zc, k⟩ := hh
  have f11 : PyData.tuple [.int 1, .int 1] = fr 1 := fr_of (by decide +kernel) (by decide +kernel)
  unfold Goal t__law_power
  simp only [↓oOdd_ap, ↓oHalf_ap, ↓dAsg2_ap, ↓dTruL_ap, ↓dCatOwn_ap, ↓oRepT_ap, ↓dParDX_ap, ↓dVar_ap, ↓dC_ap, ↓dOp_ap, ↓dUn_ap, ↓dCB_ap, ↓dCall_ap, ↓dCallId_ap, ↓dNil_ap, ↓dCons_ap, ↓dTup_ap, ↓dLst_ap, ↓dTest_ap, ↓dNot_ap, ↓dAnd_ap, ↓dOr_ap, ↓dIf_ap, ↓dAndV_ap, ↓dOrV_ap, ↓dNotV_ap, ↓dChain_ap, ↓dChain3_ap, ↓dTy_ap, ↓dIsi_ap, ↓dNoPart_ap, ↓dPart_ap, ↓dSliceL_ap, ↓dSliceA_ap, ↓dPeekT_ap, ↓dPeekI_ap, ↓dYes_ap, ↓dNext_ap, ↓dSeq_ap, ↓dRet_ap, ↓dRetN_ap, ↓dIfS_ap, ↓dDrop_ap, ↓dAsg_ap, ↓dAsgOwn_ap, ↓dFreeze_ap, ↓dAppend_ap, ↓dUnp_ap, ↓unpF_ap, ↓unpT_ap, ↓dPar_ap, ↓dPar3_ap, ↓dParO2_ap, ↓dParO3_ap, ↓dParOD_ap, ↓dParDO_ap, ↓dBreak_ap, ↓dCont_ap, ↓oI_ap, ↓oI0_ap, ↓oNeg_ap, ↓oEq_ap, ↓oNe_ap, ↓oIxT_ap, ↓oIxL_ap, ↓oIx0_ap, ↓oIx1_ap, ↓oIsN_ap, ↓oNotN_ap, ↓oIsB_ap, ↓oNotB_ap, ↓oEqS_ap, ↓oCat_ap, ↓oCatA_ap, ↓oRepL_ap, ↓oLenT_ap, ↓oLenL_ap, ↓oAbs_ap, ↓oInt_ap, ↓oGcd_ap, ↓oListT_ap, ↓oListL_ap, ↓oTupT_ap, ↓oTupL_ap, ↓oMin_ap, ↓oSum_ap, ↓oMax_ap, ↓oMinL_ap, ↓oLcm4_ap, ↓allD_ap, ↓allD_nil, ↓setAll_ap, ↓setAll_nil, TV, LV, IV, BV, FV, atI_0, atI_1, atI_2, atI_3, List.map_cons, List.map_nil, List.length_cons, List.length_nil, List.set_cons_zero, List.set_cons_succ, List.getElem?_cons_zero, List.getElem?_cons_succ, List.cons_append, List.nil_append, Nat.reduceAdd, Nat.reduceSub, Nat.reduceLeDiff, List.replicate, Bool.false_eq_true, if_false, if_true, ite_true, ite_false, true_and, and_true, Bool.not_true, Bool.not_false, decide_true, decide_false, entry, isNone_fr, isNone_non, isNone_tup, isNone_list, isNone_int, isNone_bool, pId, pRev, pR3, pR4, pR5, ↓dCallK_ap, f11]
  refine forRg_go N n (fun j env m => m = n ∧ ∃ o3, env = [some (FV c), some (IV (N : Int)), some (FV (pwQ c j)), o3]) (by omega) (fun R' k' => ?_) ⟨rfl, none, rfl⟩ ?_ ?_
  · simp only [↓oOdd_ap, ↓oHalf_ap, ↓dAsg2_ap, ↓dTruL_ap, ↓dCatOwn_ap, ↓oRepT_ap, ↓dParDX_ap, ↓dVar_ap, ↓dC_ap, ↓dOp_ap, ↓dUn_ap, ↓dCB_ap, ↓dCall_ap, ↓dCallId_ap, ↓dNil_ap, ↓dCons_ap, ↓dTup_ap, ↓dLst_ap, ↓dTest_ap, ↓dNot_ap, ↓dAnd_ap, ↓dOr_ap, ↓dIf_ap, ↓dAndV_ap, ↓dOrV_ap, ↓dNotV_ap, ↓dChain_ap, ↓dChain3_ap, ↓dTy_ap, ↓dIsi_ap, ↓dNoPart_ap, ↓dPart_ap, ↓dSliceL_ap, ↓dSliceA_ap, ↓dPeekT_ap, ↓dPeekI_ap, ↓dYes_ap, ↓dNext_ap, ↓dSeq_ap, ↓dRet_ap, ↓dRetN_ap, ↓dIfS_ap, ↓dDrop_ap, ↓dAsg_ap, ↓dAsgOwn_ap, ↓dFreeze_ap, ↓dAppend_ap, ↓dUnp_ap, ↓unpF_ap, ↓unpT_ap, ↓dPar_ap, ↓dPar3_ap, ↓dParO2_ap, ↓dParO3_ap, ↓dParOD_ap, ↓dParDO_ap, ↓dBreak_ap, ↓dCont_ap, ↓oI_ap, ↓oI0_ap, ↓oNeg_ap, ↓oEq_ap, ↓oNe_ap, ↓oIxT_ap, ↓oIxL_ap, ↓oIx0_ap, ↓oIx1_ap, ↓oIsN_ap, ↓oNotN_ap, ↓oIsB_ap, ↓oNotB_ap, ↓oEqS_ap, ↓oCat_ap, ↓oCatA_ap, ↓oRepL_ap, ↓oLenT_ap, ↓oLenL_ap, ↓oAbs_ap, ↓oInt_ap, ↓oGcd_ap, ↓oListT_ap, ↓oListL_ap, ↓oTupT_ap, ↓oTupL_ap, ↓oMin_ap, ↓oSum_ap, ↓oMax_ap, ↓oMinL_ap, ↓oLcm4_ap, ↓allD_ap, ↓allD_nil, ↓setAll_ap, ↓setAll_nil, TV, LV, IV, BV, FV, atI_0, atI_1, atI_2, atI_3, List.map_cons, List.map_nil, List.length_cons, List.length_nil, List.set_cons_zero, List.set_cons_succ, List.getElem?_cons_zero, List.getElem?_cons_succ, List.cons_append, List.nil_append, Nat.reduceAdd, Nat.reduceSub, Nat.reduceLeDiff, List.replicate, Bool.false_eq_true, if_false, if_true, ite_true, ite_false, true_and, and_true, Bool.not_true, Bool.not_false, decide_true, decide_false, entry, isNone_fr, isNone_non, isNone_tup, isNone_list, isNone_int, isNone_bool, pId, pRev, pR3, pR4, pR5, ↓dCallK_ap]
    exact k'
  · rintro j env m hj ⟨rfl, o3, rfl⟩
    have z := pwQ_sz zc j
    unfold t__law_power_b1
    simp only [↓oOdd_ap, ↓oHalf_ap, ↓dAsg2_ap, ↓dTruL_ap, ↓dCatOwn_ap, ↓oRepT_ap, ↓dParDX_ap, ↓dVar_ap, ↓dC_ap, ↓dOp_ap, ↓dUn_ap, ↓dCB_ap, ↓dCall_ap, ↓dCallId_ap, ↓dNil_ap, ↓dCons_ap, ↓dTup_ap, ↓dLst_ap, ↓dTest_ap, ↓dNot_ap, ↓dAnd_ap, ↓dOr_ap, ↓dIf_ap, ↓dAndV_ap, ↓dOrV_ap, ↓dNotV_ap, ↓dChain_ap, ↓dChain3_ap, ↓dTy_ap, ↓dIsi_ap, ↓dNoPart_ap, ↓dPart_ap, ↓dSliceL_ap, ↓dSliceA_ap, ↓dPeekT_ap, ↓dPeekI_ap, ↓dYes_ap, ↓dNext_ap, ↓dSeq_ap, ↓dRet_ap, ↓dRetN_ap, ↓dIfS_ap, ↓dDrop_ap, ↓dAsg_ap, ↓dAsgOwn_ap, ↓dFreeze_ap, ↓dAppend_ap, ↓dUnp_ap, ↓unpF_ap, ↓unpT_ap, ↓dPar_ap, ↓dPar3_ap, ↓dParO2_ap, ↓dParO3_ap, ↓dParOD_ap, ↓dParDO_ap, ↓dBreak_ap, ↓dCont_ap, ↓oI_ap, ↓oI0_ap, ↓oNeg_ap, ↓oEq_ap, ↓oNe_ap, ↓oIxT_ap, ↓oIxL_ap, ↓oIx0_ap, ↓oIx1_ap, ↓oIsN_ap, ↓oNotN_ap, ↓oIsB_ap, ↓oNotB_ap, ↓oEqS_ap, ↓oCat_ap, ↓oCatA_ap, ↓oRepL_ap, ↓oLenT_ap, ↓oLenL_ap, ↓oAbs_ap, ↓oInt_ap, ↓oGcd_ap, ↓oListT_ap, ↓oListL_ap, ↓oTupT_ap, ↓oTupL_ap, ↓oMin_ap, ↓oSum_ap, ↓oMax_ap, ↓oMinL_ap, ↓oLcm4_ap, ↓allD_ap, ↓allD_nil, ↓setAll_ap, ↓setAll_nil, TV, LV, IV, BV, FV, atI_0, atI_1, atI_2, atI_3, List.map_cons, List.map_nil, List.length_cons, List.length_nil, List.set_cons_zero, List.set_cons_succ, List.getElem?_cons_zero, List.getElem?_cons_succ, List.cons_append, List.nil_append, Nat.reduceAdd, Nat.reduceSub, Nat.reduceLeDiff, List.replicate, Bool.false_eq_true, if_false, if_true, ite_true, ite_false, true_and, and_true, Bool.not_true, Bool.not_false, decide_true, decide_false, entry, isNone_fr, isNone_non, isNone_tup, isNone_list, isNone_int, isNone_bool, pId, pRev, pR3, pR4, pR5, ↓dCallK_ap, ↓e__law_times]
    exact ⟨z.mono (by omega), zc.mono (by decide), some (IV (j : Int)), rfl⟩
  · rintro env m ⟨rfl, o3, rfl⟩
    simp only [↓oOdd_ap, ↓oHalf_ap, ↓dAsg2_ap, ↓dTruL_ap, ↓dCatOwn_ap, ↓oRepT_ap, ↓dParDX_ap, ↓dVar_ap, ↓dC_ap, ↓dOp_ap, ↓dUn_ap, ↓dCB_ap, ↓dCall_ap, ↓dCallId_ap, ↓dNil_ap, ↓dCons_ap, ↓dTup_ap, ↓dLst_ap, ↓dTest_ap, ↓dNot_ap, ↓dAnd_ap, ↓dOr_ap, ↓dIf_ap, ↓dAndV_ap, ↓dOrV_ap, ↓dNotV_ap, ↓dChain_ap, ↓dChain3_ap, ↓dTy_ap, ↓dIsi_ap, ↓dNoPart_ap, ↓dPart_ap, ↓dSliceL_ap, ↓dSliceA_ap, ↓dPeekT_ap, ↓dPeekI_ap, ↓dYes_ap, ↓dNext_ap, ↓dSeq_ap, ↓dRet_ap, ↓dRetN_ap, ↓dIfS_ap, ↓dDrop_ap, ↓dAsg_ap, ↓dAsgOwn_ap, ↓dFreeze_ap, ↓dAppend_ap, ↓dUnp_ap, ↓unpF_ap, ↓unpT_ap, ↓dPar_ap, ↓dPar3_ap, ↓dParO2_ap, ↓dParO3_ap, ↓dParOD_ap, ↓dParDO_ap, ↓dBreak_ap, ↓dCont_ap, ↓oI_ap, ↓oI0_ap, ↓oNeg_ap, ↓oEq_ap, ↓oNe_ap, ↓oIxT_ap, ↓oIxL_ap, ↓oIx0_ap, ↓oIx1_ap, ↓oIsN_ap, ↓oNotN_ap, ↓oIsB_ap, ↓oNotB_ap, ↓oEqS_ap, ↓oCat_ap, ↓oCatA_ap, ↓oRepL_ap, ↓oLenT_ap, ↓oLenL_ap, ↓oAbs_ap, ↓oInt_ap, ↓oGcd_ap, ↓oListT_ap, ↓oListL_ap, ↓oTupT_ap, ↓oTupL_ap, ↓oMin_ap, ↓oSum_ap, ↓oMax_ap, ↓oMinL_ap, ↓oLcm4_ap, ↓allD_ap, ↓allD_nil, ↓setAll_ap, ↓setAll_nil, TV, LV, IV, BV, FV, atI_0, atI_1, atI_2, atI_3, List.map_cons, List.map_nil, List.length_cons, List.length_nil, List.set_cons_zero, List.set_cons_succ, List.getElem?_cons_zero, List.getElem?_cons_succ, List.cons_append, List.nil_append, Nat.reduceAdd, Nat.reduceSub, Nat.reduceLeDiff, List.replicate, Bool.false_eq_true, if_false, if_true, ite_true, ite_false, true_and, and_true, Bool.not_true, Bool.not_false, decide_true, decide_false, entry, isNone_fr, isNone_non, isNone_tup, isNone_list, isNone_int, isNone_bool, pId, pRev, pR3, pR4, pR5, ↓dCallK_ap]
    exact k
theorem lenE_sz {c q : Rat} (c0 : 0 < c) (c1 : c < 1) (zc : Sz 4 c) (hd : q.den ≤ 12) : Sz 120 (lenE c q.den) := by
  have q0 := q.den_pos
  have ex : ∃ m, q.den = m + 1 := ⟨q.den - 1, by omega⟩
  obtain ⟨m, hm⟩ := ex
  have q1 : pwQ c q.den < 1 := by rw [hm]; exact pwQ_lt c0 c1 m
  have zl := one_sz.sub zc
  have z1 := (pwQ_sz zc (q.den - 1)).mono (show _ ≤ 45 by omega)
  have z2 := (pwQ_sz zc q.den).mono (show _ ≤ 49 by omega)
  exact (Sz.div ((zl.mul zl).mul z1) (one_sz.sub z2) (by grind)).mono (by decide)
theorem p__law_ends (ds : List DV) (n : Nat) (R : DV → Nat → Prop) (hh : s__law_ends ds n R) : Goal t__law_ends 6 ds n R := by
  obtain ⟨c, q, rfl, c0, c1, zc, hq, k⟩ := hh
  have f11 : PyData.tuple [.int 1, .int 1] = fr 1 := fr_of (by decide +kernel) (by decide +kernel)
  have q0 := q.den_pos
  have hd := hq.den
  have ex : ∃ m, q.den = m + 1 := ⟨q.den - 1, by omega⟩
  obtain ⟨m, hm⟩ := ex
  have q1 : pwQ c q.den < 1 := by rw [hm]; exact pwQ_lt c0 c1 m
  have r0 : 0 < 1 - pwQ c q.den := by grind
  have zl := one_sz.sub zc
  have z1 := (pwQ_sz zc (q.den - 1)).mono (show _ ≤ 45 by omega)
  have z2 := (pwQ_sz zc q.den).mono (show _ ≤ 49 by omega)
  have eN : (q.den : Int) - 1 = ((q.den - 1 : Nat) : Int) := by omega
  have eP : pwQ c (q.den - 1) * c = pwQ c q.den := by
    rw [hm]
    rfl
  have zL := lenE_sz c0 c1 zc hd
  unfold Goal t__law_ends
  simp only [↓oOdd_ap, ↓oHalf_ap, ↓dAsg2_ap, ↓dTruL_ap, ↓dCatOwn_ap, ↓oRepT_ap, ↓dParDX_ap, ↓dVar_ap, ↓dC_ap, ↓dOp_ap, ↓dUn_ap, ↓dCB_ap, ↓dCall_ap, ↓dCallId_ap, ↓dNil_ap, ↓dCons_ap, ↓dTup_ap, ↓dLst_ap, ↓dTest_ap, ↓dNot_ap, ↓dAnd_ap, ↓dOr_ap, ↓dIf_ap, ↓dAndV_ap, ↓dOrV_ap, ↓dNotV_ap, ↓dChain_ap, ↓dChain3_ap, ↓dTy_ap, ↓dIsi_ap, ↓dNoPart_ap, ↓dPart_ap, ↓dSliceL_ap, ↓dSliceA_ap, ↓dPeekT_ap, ↓dPeekI_ap, ↓dYes_ap, ↓dNext_ap, ↓dSeq_ap, ↓dRet_ap, ↓dRetN_ap, ↓dIfS_ap, ↓dDrop_ap, ↓dAsg_ap, ↓dAsgOwn_ap, ↓dFreeze_ap, ↓dAppend_ap, ↓dUnp_ap, ↓unpF_ap, ↓unpT_ap, ↓dPar_ap, ↓dPar3_ap, ↓dParO2_ap, ↓dParO3_ap, ↓dParOD_ap, ↓dParDO_ap, ↓dBreak_ap, ↓dCont_ap, ↓oI_ap, ↓oI0_ap, ↓oNeg_ap, ↓oEq_ap, ↓oNe_ap, ↓oIxT_ap, ↓oIxL_ap, ↓oIx0_ap, ↓oIx1_ap, ↓oIsN_ap, ↓oNotN_ap, ↓oIsB_ap, ↓oNotB_ap, ↓oEqS_ap, ↓oCat_ap, ↓oCatA_ap, ↓oRepL_ap, ↓oLenT_ap, ↓oLenL_ap, ↓oAbs_ap, ↓oInt_ap, ↓oGcd_ap, ↓oListT_ap, ↓oListL_ap, ↓oTupT_ap, ↓oTupL_ap, ↓oMin_ap, ↓oSum_ap, ↓oMax_ap, ↓oMinL_ap, ↓oLcm4_ap, ↓allD_ap, ↓allD_nil, ↓setAll_ap, ↓setAll_nil, TV, LV, IV, BV, FV, atI_0, atI_1, atI_2, atI_3, List.map_cons, List.map_nil, List.length_cons, List.length_nil, List.set_cons_zero, List.set_cons_succ, List.getElem?_cons_zero, List.getElem?_cons_succ, List.cons_append, List.nil_append, Nat.reduceAdd, Nat.reduceSub, Nat.reduceLeDiff, List.replicate, Bool.false_eq_true, if_false, if_true, ite_true, ite_false, true_and, and_true, Bool.not_true, Bool.not_false, decide_true, decide_false, entry, isNone_fr, isNone_non, isNone_tup, isNone_list, isNone_int, isNone_bool, pId, pRev, pR3, pR4, pR5, ↓dCallK_ap, ↓f11, ↓ixF1, eN, eP, ↓e__law_minus, ↓e__law_times, ↓e__law_floors, ↓e__law_power, ↓e__law_over]
  refine ⟨one_sz.mono (by decide), zc.mono (by decide), zl.mono (by decide), zl.mono (by decide), c0, c1, zc, hq, fun zt => ?_⟩
  have zh : Sz 1520 (hiE c q) := ((zl.mul zl).mul zt).mono (by decide)
  have zo : Sz 1700 (loE c q) := (zh.sub zL).mono (by decide)
  exact ⟨(zl.mul zl).mono (by decide), zt.mono (by decide), by omega, zc, z1.mono (by decide), zc.mono (by decide), one_sz.mono (by decide), z2.mono (by decide), zl.mono (by decide), zl.mono (by decide), (zl.mul zl).mono (by decide), z1.mono (by decide), ((zl.mul zl).mul z1).mono (by decide), (one_sz.sub z2).mono (by decide), r0, zh.mono (by decide), zL.mono (by decide), k zo zh⟩
def s__law_right : DSp := fun ds n R => ∃ c q : Rat, ds = [.draws, FV c, FV q] ∧ n + 1 < LIM ∧ Prt c ∧ Sz 4 c ∧ Pr q ∧ R (BV true) (n + 1)
def t__law_right_b1 : DTS :=
  (dIfS (dOr (dTest (dOp oEq (dCall s__law_divisor (dCons (dOp oAdd (dOp oIxT (dVar 8) (dC (.int 0))) (dVar 9)) (dCons (dOp oIxT (dVar 8) (dC (.int 1))) dNil))) (dC (.int 1)))) (dTest (dOp oEq (dOp oIxT (dVar 8) (dC (.int 1))) (dC (.int 1))))) (dRet (dCall s__law_like (dCons (dCall s_stretch_length (dCons (dVar 1) (dCons (dTup (dCons (dOp oAdd (dOp oIxT (dVar 8) (dC (.int 0))) (dVar 9)) (dCons (dOp oIxT (dVar 8) (dC (.int 1))) dNil))) dNil))) (dCons (dVar 4) dNil)))) dNext)
/-- _law_right. Slots: draws_so, cut_so, pair_so, due, wide, got, left, greater, fresh, step -/
def t__law_right : DTS :=
  (dSeq (dAsg 3 (dCall s__law_ends (dCons (dVar 1) (dCons (dVar 2) dNil))))
  (dSeq (dAsg 4 (dCall s__law_minus (dCons (dOp oIxT (dVar 3) (dC (.int 1))) (dCons (dOp oIxT (dVar 3) (dC (.int 0))) dNil))))
  (dSeq (dAsg 5 (dLst (dCons (dCall s_stretch_of (dCons (dVar 1) (dCons (dVar 2) dNil))) (dCons (dCall s_low_end (dCons (dVar 1) (dCons (dVar 2) dNil))) (dCons (dCall s_high_end (dCons (dVar 1) (dCons (dVar 2) dNil))) dNil)))))
  (dSeq (dIfS (dNot (dTest (dCall s__law_like (dCons (dOp oCat (dVar 5) (dLst (dCons (dCall s_stretch_length (dCons (dVar 1) (dCons (dVar 2) dNil))) dNil))) (dCons (dLst (dCons (dVar 3) (dCons (dOp oIxT (dVar 3) (dC (.int 0))) (dCons (dOp oIxT (dVar 3) (dC (.int 1))) (dCons (dVar 4) dNil))))) dNil))))) (dRet (dC (.bool false))) dNext)
  (dSeq (dAsg 6 (dCall s__law_minus (dCons (dTup (dCons (dC (.int 1)) (dCons (dC (.int 1)) dNil))) (dCons (dVar 1) dNil))))
  (dSeq (dIfS (dNot (dTest (dCall s__law_like (dCons (dOp oIxT (dVar 3) (dC (.int 1))) (dCons (dCall s__law_times (dCons (dCall s__law_times (dCons (dVar 6) (dCons (dVar 6) dNil))) (dCons (dCall s_floor_sum (dCons (dVar 1) (dCons (dVar 2) dNil))) dNil))) dNil))))) (dRet (dC (.bool false))) dNext)
  (dSeq (dIfS (dOr (dNot (dTest (dCall s__law_below (dCons (dOp oIxT (dVar 3) (dC (.int 0))) (dCons (dOp oIxT (dVar 3) (dC (.int 1))) dNil))))) (dTest (dCall s__law_below (dCons (dOp oIxT (dVar 3) (dC (.int 0))) (dCons (dVar 1) dNil))))) (dRet (dC (.bool false))) dNext)
  (dSeq (dAsg 7 (dCall s__law_plus (dCons (dVar 2) (dCons (dTup (dCons (dC (.int 1)) (dCons (dC (.int 1)) dNil))) dNil))))
  (dSeq (dIfS (dNot (dTest (dCall s__law_like (dCons (dCall s_stretch_of (dCons (dVar 1) (dCons (dVar 7) dNil))) (dCons (dTup (dCons (dCall s__law_plus (dCons (dOp oIxT (dVar 3) (dC (.int 0))) (dCons (dTup (dCons (dC (.int 1)) (dCons (dC (.int 1)) dNil))) dNil))) (dCons (dCall s__law_plus (dCons (dOp oIxT (dVar 3) (dC (.int 1))) (dCons (dTup (dCons (dC (.int 1)) (dCons (dC (.int 1)) dNil))) dNil))) dNil))) dNil))))) (dRet (dC (.bool false))) dNext)
  (dSeq (dAsg 8 (dTup (dCons (dOp oAdd (dOp oIxT (dVar 2) (dC (.int 0))) (dOp oMul (dOp oIxT (dVar 2) (dC (.int 1))) (dCall s__law_draw (dCons (dVar 0) (dCons (dC (.int 3)) dNil))))) (dCons (dOp oIxT (dVar 2) (dC (.int 1))) dNil))))
  (dSeq (dForR 9 (dOp oIxT (dVar 2) (dC (.int 1))) t__law_right_b1)
  (dRet (dC (.bool false))))))))))))))
theorem one_eq : (((1 : Nat) : Int) == 1) = true := rfl
theorem tidy1 {q : Rat} {k : Nat} (h : Sz k q) (e : k ≤ 1900) : seqD (fr q) = true ∧ Tidy (fr q) := ⟨rfl, tame_fr h e, by rw [bulk_fr]; decide, by rw [depth_fr]; decide⟩
theorem tidy2 {p q : Rat} {k l : Nat} (h : Sz k p) (e : k ≤ 1900) (g : Sz l q) (f : l ≤ 1900) : seqD (.tuple [fr p, fr q]) = true ∧ Tidy (.tuple [fr p, fr q]) := by
  refine ⟨rfl, ⟨tame_fr h e, tame_fr g f, trivial⟩, ?_, ?_⟩
  · simp only [PyData.bulk, PyData.bulkAll, bulk_fr]; decide
  · simp only [PyData.depth, PyData.depthAll, depth_fr]; decide
theorem Pr.mean {q : Rat} (h : Pr q) : Mean q := ⟨(h.sz.mono (by decide)).bd, h.one, by have := h.den; omega⟩
theorem p__law_right (ds : List DV) (n : Nat) (R : DV → Nat → Prop) (hh : s__law_right ds n R) : Goal t__law_right 10 ds n R := by
  obtain ⟨c, q, rfl, hn, C, zc, hq, k⟩ := hh
  have f11 : PyData.tuple [.int 1, .int 1] = fr 1 := fr_of (by decide +kernel) (by decide +kernel)
  have c0 := C.c0
  have c1 := C.c1
  have q0 := q.den_pos
  have hd := hq.den
  have M := hq.mean
  have q1 : pwQ c q.den < 1 := pw1 C (by omega)
  have M1 : Mean (q + 1) := ⟨((hq.sz.add one_sz).mono (by decide)).bd, by have := hq.one; grind, by
    rw [den_one]
    omega⟩
  have zl := one_sz.sub zc
  have zL := lenE_sz (q := q) c0 c1 zc hd
  have dL := lenE_diff c q
  have pL := lenE_pos c0 c1 q1
  have ge := loE_ge c0 c1 q1 hq.one
  have lt1 : loE c q < hiE c q := by grind
  have lt2 : ¬ loE c q < c := Rat.not_lt.2 ge
  have wide := fs_one (q := q) C
  have ef := fsP_eq (q := q) C
  have ef1 := fsP_eq (q := q + 1) C
  have l0 : 0 < 1 - c := by grind
  have h1 : hiE c (q + 1) = hiE c q + 1 := by
    unfold hiE TT
    rw [← ef, ← ef1, wide]
    have : 1 - c ≠ 0 := by grind
    generalize fsP c q = x
    grind
  have h2 : loE c (q + 1) = loE c q + 1 := by
    unfold loE
    rw [h1, den_one]
    grind
  have h3 : (1 - c) * (1 - c) * fsP c q = hiE c q := by
    unfold hiE TT
    rw [ef]
  unfold Goal t__law_right
  simp only [↓oOdd_ap, ↓oHalf_ap, ↓dAsg2_ap, ↓dTruL_ap, ↓dCatOwn_ap, ↓oRepT_ap, ↓dParDX_ap, ↓dVar_ap, ↓dC_ap, ↓dOp_ap, ↓dUn_ap, ↓dCB_ap, ↓dCall_ap, ↓dCallId_ap, ↓dNil_ap, ↓dCons_ap, ↓dTup_ap, ↓dLst_ap, ↓dTest_ap, ↓dNot_ap, ↓dAnd_ap, ↓dOr_ap, ↓dIf_ap, ↓dAndV_ap, ↓dOrV_ap, ↓dNotV_ap, ↓dChain_ap, ↓dChain3_ap, ↓dTy_ap, ↓dIsi_ap, ↓dNoPart_ap, ↓dPart_ap, ↓dSliceL_ap, ↓dSliceA_ap, ↓dPeekT_ap, ↓dPeekI_ap, ↓dYes_ap, ↓dNext_ap, ↓dSeq_ap, ↓dRet_ap, ↓dRetN_ap, ↓dIfS_ap, ↓dDrop_ap, ↓dAsg_ap, ↓dAsgOwn_ap, ↓dFreeze_ap, ↓dAppend_ap, ↓dUnp_ap, ↓unpF_ap, ↓unpT_ap, ↓dPar_ap, ↓dPar3_ap, ↓dParO2_ap, ↓dParO3_ap, ↓dParOD_ap, ↓dParDO_ap, ↓dBreak_ap, ↓dCont_ap, ↓oI_ap, ↓oI0_ap, ↓oNeg_ap, ↓oEq_ap, ↓oNe_ap, ↓oIxT_ap, ↓oIxL_ap, ↓oIx0_ap, ↓oIx1_ap, ↓oIsN_ap, ↓oNotN_ap, ↓oIsB_ap, ↓oNotB_ap, ↓oEqS_ap, ↓oCat_ap, ↓oCatA_ap, ↓oRepL_ap, ↓oLenT_ap, ↓oLenL_ap, ↓oAbs_ap, ↓oInt_ap, ↓oGcd_ap, ↓oListT_ap, ↓oListL_ap, ↓oTupT_ap, ↓oTupL_ap, ↓oMin_ap, ↓oSum_ap, ↓oMax_ap, ↓oMinL_ap, ↓oLcm4_ap, ↓allD_ap, ↓allD_nil, ↓setAll_ap, ↓setAll_nil, TV, LV, IV, BV, FV, atI_0, atI_1, atI_2, atI_3, List.map_cons, List.map_nil, List.length_cons, List.length_nil, List.set_cons_zero, List.set_cons_succ, List.getElem?_cons_zero, List.getElem?_cons_succ, List.cons_append, List.nil_append, Nat.reduceAdd, Nat.reduceSub, Nat.reduceLeDiff, List.replicate, Bool.false_eq_true, if_false, if_true, ite_true, ite_false, true_and, and_true, Bool.not_true, Bool.not_false, decide_true, decide_false, entry, isNone_fr, isNone_non, isNone_tup, isNone_list, isNone_int, isNone_bool, pId, pRev, pR3, pR4, pR5, ↓dCallK_ap, ↓e__law_ends]
  refine ⟨c0, c1, zc, hq, fun zo zh => ?_⟩
  have ty1 : seqD (.list [.tuple [fr (loE c q), fr (hiE c q)], fr (loE c q), fr (hiE c q), fr (lenE c q.den)]) = true ∧ Tidy (.list [.tuple [fr (loE c q), fr (hiE c q)], fr (loE c q), fr (hiE c q), fr (lenE c q.den)]) := by
    refine ⟨rfl, ⟨⟨tame_fr zo (by decide), tame_fr zh (by decide), trivial⟩, tame_fr zo (by decide), tame_fr zh (by decide), tame_fr zL (by decide), trivial⟩, ?_, ?_⟩
    · simp only [PyData.bulk, PyData.bulkAll, bulk_fr]; decide
    · simp only [PyData.depth, PyData.depthAll, depth_fr]; decide
  have ty2 := tidy1 zh (by decide)
  have ty3 := tidy2 (zo.add one_sz) (by decide) (zh.add one_sz) (by decide)
  have zf : Sz 1600 (fsP c q) := by
    have e : fsP c q = hiE c q / ((1 - c) * (1 - c)) := by
      rw [← h3]
      have : 1 - c ≠ 0 := by grind
      grind
    rw [e]
    exact (Sz.div zh (zl.mul zl) (Rat.mul_pos l0 l0)).mono (by decide)
  simp only [↓oOdd_ap, ↓oHalf_ap, ↓dAsg2_ap, ↓dTruL_ap, ↓dCatOwn_ap, ↓oRepT_ap, ↓dParDX_ap, ↓dVar_ap, ↓dC_ap, ↓dOp_ap, ↓dUn_ap, ↓dCB_ap, ↓dCall_ap, ↓dCallId_ap, ↓dNil_ap, ↓dCons_ap, ↓dTup_ap, ↓dLst_ap, ↓dTest_ap, ↓dNot_ap, ↓dAnd_ap, ↓dOr_ap, ↓dIf_ap, ↓dAndV_ap, ↓dOrV_ap, ↓dNotV_ap, ↓dChain_ap, ↓dChain3_ap, ↓dTy_ap, ↓dIsi_ap, ↓dNoPart_ap, ↓dPart_ap, ↓dSliceL_ap, ↓dSliceA_ap, ↓dPeekT_ap, ↓dPeekI_ap, ↓dYes_ap, ↓dNext_ap, ↓dSeq_ap, ↓dRet_ap, ↓dRetN_ap, ↓dIfS_ap, ↓dDrop_ap, ↓dAsg_ap, ↓dAsgOwn_ap, ↓dFreeze_ap, ↓dAppend_ap, ↓dUnp_ap, ↓unpF_ap, ↓unpT_ap, ↓dPar_ap, ↓dPar3_ap, ↓dParO2_ap, ↓dParO3_ap, ↓dParOD_ap, ↓dParDO_ap, ↓dBreak_ap, ↓dCont_ap, ↓oI_ap, ↓oI0_ap, ↓oNeg_ap, ↓oEq_ap, ↓oNe_ap, ↓oIxT_ap, ↓oIxL_ap, ↓oIx0_ap, ↓oIx1_ap, ↓oIsN_ap, ↓oNotN_ap, ↓oIsB_ap, ↓oNotB_ap, ↓oEqS_ap, ↓oCat_ap, ↓oCatA_ap, ↓oRepL_ap, ↓oLenT_ap, ↓oLenL_ap, ↓oAbs_ap, ↓oInt_ap, ↓oGcd_ap, ↓oListT_ap, ↓oListL_ap, ↓oTupT_ap, ↓oTupL_ap, ↓oMin_ap, ↓oSum_ap, ↓oMax_ap, ↓oMinL_ap, ↓oLcm4_ap, ↓allD_ap, ↓allD_nil, ↓setAll_ap, ↓setAll_nil, TV, LV, IV, BV, FV, atI_0, atI_1, atI_2, atI_3, List.map_cons, List.map_nil, List.length_cons, List.length_nil, List.set_cons_zero, List.set_cons_succ, List.getElem?_cons_zero, List.getElem?_cons_succ, List.cons_append, List.nil_append, Nat.reduceAdd, Nat.reduceSub, Nat.reduceLeDiff, List.replicate, Bool.false_eq_true, if_false, if_true, ite_true, ite_false, true_and, and_true, Bool.not_true, Bool.not_false, decide_true, decide_false, entry, isNone_fr, isNone_non, isNone_tup, isNone_list, isNone_int, isNone_bool, pId, pRev, pR3, pR4, pR5, ↓dCallK_ap, ↓f11, ↓ixF0, ↓ixF1, dL, ↓e__law_minus, ↓e_stretch_of, ↓e_low_end, ↓e_high_end, ↓e_stretch_length, ↓e_like, ↓e_floor_sum, ↓e__law_times, ↓e__law_below, ↓e__law_plus, h3, decide_eq_true lt1, decide_eq_false lt2, h1, h2]
  refine ⟨zh.mono (by decide), zo.mono (by decide), C, M, C, M, C, M, C, M, ty1, one_sz.mono (by decide), zc.mono (by decide), zl.mono (by decide), zl.mono (by decide), C, M, (zl.mul zl).mono (by decide), zf.mono (by decide), ty2, zo.mono (by decide), zh.mono (by decide), zo.mono (by decide), zc.mono (by decide), hq.sz.mono (by decide), one_sz.mono (by decide), C, M1, zo.mono (by decide), one_sz.mono (by decide), zh.mono (by decide), one_sz.mono (by decide), ty3, ?_⟩
  refine draw_go (lim := 3) rfl (by decide) (by decide) (by omega) fun x hx => ?_
  obtain ⟨pd, pn⟩ := plus_nat q x
  have n0 := hq.num0
  have n1 := hq.num
  have fx : PyData.tuple [.int (q.num + (q.den : Int) * (x : Int)), .int (q.den : Int)] = fr (q + ((x : Int) : Rat)) := by
    unfold fr
    rw [pd, pn]
  have mx : (q.den : Int) * (x : Int) ≤ 24 := by
    have a : (x : Int) ≤ 2 := by omega
    have b := Int.mul_le_mul_of_nonneg_left a (show (0 : Int) ≤ (q.den : Int) by omega)
    omega
  have m0 : 0 ≤ (q.den : Int) * (x : Int) := Int.mul_nonneg (by omega) (by omega)
  have bn : B 8 (q.num + (q.den : Int) * (x : Int)).natAbs := B.of (by omega)
  have bq : B 4 ((q.den : Nat) : Int).natAbs := B.of (by omega)
  have MX : Mean (q + ((x : Int) : Rat)) := by
    refine ⟨(⟨by rw [pn]; exact bn.mono (by decide), by rw [pd]; exact B.of (by omega)⟩ : Sz 99 _).bd, ?_, by rw [pd]; omega⟩
    have a : (0 : Rat) ≤ ((x : Int) : Rat) := Rat.intCast_nonneg.2 (by omega)
    have b := hq.one
    grind
  have gg : Nat.gcd (q.num + (q.den : Int) * (x : Int)).natAbs ((q.den : Int)).natAbs = 1 := by
    have h := (q + ((x : Int) : Rat)).reduced
    rw [pn, pd] at h
    simpa using h
  have ty4 := tidy1 zL (by decide)
  simp only [↓oOdd_ap, ↓oHalf_ap, ↓dAsg2_ap, ↓dTruL_ap, ↓dCatOwn_ap, ↓oRepT_ap, ↓dParDX_ap, ↓dVar_ap, ↓dC_ap, ↓dOp_ap, ↓dUn_ap, ↓dCB_ap, ↓dCall_ap, ↓dCallId_ap, ↓dNil_ap, ↓dCons_ap, ↓dTup_ap, ↓dLst_ap, ↓dTest_ap, ↓dNot_ap, ↓dAnd_ap, ↓dOr_ap, ↓dIf_ap, ↓dAndV_ap, ↓dOrV_ap, ↓dNotV_ap, ↓dChain_ap, ↓dChain3_ap, ↓dTy_ap, ↓dIsi_ap, ↓dNoPart_ap, ↓dPart_ap, ↓dSliceL_ap, ↓dSliceA_ap, ↓dPeekT_ap, ↓dPeekI_ap, ↓dYes_ap, ↓dNext_ap, ↓dSeq_ap, ↓dRet_ap, ↓dRetN_ap, ↓dIfS_ap, ↓dDrop_ap, ↓dAsg_ap, ↓dAsgOwn_ap, ↓dFreeze_ap, ↓dAppend_ap, ↓dUnp_ap, ↓unpF_ap, ↓unpT_ap, ↓dPar_ap, ↓dPar3_ap, ↓dParO2_ap, ↓dParO3_ap, ↓dParOD_ap, ↓dParDO_ap, ↓dBreak_ap, ↓dCont_ap, ↓oI_ap, ↓oI0_ap, ↓oNeg_ap, ↓oEq_ap, ↓oNe_ap, ↓oIxT_ap, ↓oIxL_ap, ↓oIx0_ap, ↓oIx1_ap, ↓oIsN_ap, ↓oNotN_ap, ↓oIsB_ap, ↓oNotB_ap, ↓oEqS_ap, ↓oCat_ap, ↓oCatA_ap, ↓oRepL_ap, ↓oLenT_ap, ↓oLenL_ap, ↓oAbs_ap, ↓oInt_ap, ↓oGcd_ap, ↓oListT_ap, ↓oListL_ap, ↓oTupT_ap, ↓oTupL_ap, ↓oMin_ap, ↓oSum_ap, ↓oMax_ap, ↓oMinL_ap, ↓oLcm4_ap, ↓allD_ap, ↓allD_nil, ↓setAll_ap, ↓setAll_nil, TV, LV, IV, BV, FV, atI_0, atI_1, atI_2, atI_3, List.map_cons, List.map_nil, List.length_cons, List.length_nil, List.set_cons_zero, List.set_cons_succ, List.getElem?_cons_zero, List.getElem?_cons_succ, List.cons_append, List.nil_append, Nat.reduceAdd, Nat.reduceSub, Nat.reduceLeDiff, List.replicate, Bool.false_eq_true, if_false, if_true, ite_true, ite_false, true_and, and_true, Bool.not_true, Bool.not_false, decide_true, decide_false, entry, isNone_fr, isNone_non, isNone_tup, isNone_list, isNone_int, isNone_bool, pId, pRev, pR3, pR4, pR5, ↓dCallK_ap, fx]
  refine ⟨mulB bq (B.of (show (x : Int).natAbs < 2 ^ 2 by omega)) (by decide), ?_⟩
  refine forRg_go q.den (n + 1) (fun j env m => j = 0 ∧ m = n + 1 ∧ env = [some .draws, some (FV c), some (FV q), some (TV [fr (loE c q), fr (hiE c q)]), some (FV (lenE c q.den)), some (LV [.tuple [fr (loE c q), fr (hiE c q)], fr (loE c q), fr (hiE c q)]), some (FV (1 - c)), some (FV (q + 1)), some (FV (q + ((x : Int) : Rat))), none]) (by omega) (fun R' k' => ?_) ⟨rfl, rfl, rfl⟩ ?_ ?_
  · simp only [↓oOdd_ap, ↓oHalf_ap, ↓dAsg2_ap, ↓dTruL_ap, ↓dCatOwn_ap, ↓oRepT_ap, ↓dParDX_ap, ↓dVar_ap, ↓dC_ap, ↓dOp_ap, ↓dUn_ap, ↓dCB_ap, ↓dCall_ap, ↓dCallId_ap, ↓dNil_ap, ↓dCons_ap, ↓dTup_ap, ↓dLst_ap, ↓dTest_ap, ↓dNot_ap, ↓dAnd_ap, ↓dOr_ap, ↓dIf_ap, ↓dAndV_ap, ↓dOrV_ap, ↓dNotV_ap, ↓dChain_ap, ↓dChain3_ap, ↓dTy_ap, ↓dIsi_ap, ↓dNoPart_ap, ↓dPart_ap, ↓dSliceL_ap, ↓dSliceA_ap, ↓dPeekT_ap, ↓dPeekI_ap, ↓dYes_ap, ↓dNext_ap, ↓dSeq_ap, ↓dRet_ap, ↓dRetN_ap, ↓dIfS_ap, ↓dDrop_ap, ↓dAsg_ap, ↓dAsgOwn_ap, ↓dFreeze_ap, ↓dAppend_ap, ↓dUnp_ap, ↓unpF_ap, ↓unpT_ap, ↓dPar_ap, ↓dPar3_ap, ↓dParO2_ap, ↓dParO3_ap, ↓dParOD_ap, ↓dParDO_ap, ↓dBreak_ap, ↓dCont_ap, ↓oI_ap, ↓oI0_ap, ↓oNeg_ap, ↓oEq_ap, ↓oNe_ap, ↓oIxT_ap, ↓oIxL_ap, ↓oIx0_ap, ↓oIx1_ap, ↓oIsN_ap, ↓oNotN_ap, ↓oIsB_ap, ↓oNotB_ap, ↓oEqS_ap, ↓oCat_ap, ↓oCatA_ap, ↓oRepL_ap, ↓oLenT_ap, ↓oLenL_ap, ↓oAbs_ap, ↓oInt_ap, ↓oGcd_ap, ↓oListT_ap, ↓oListL_ap, ↓oTupT_ap, ↓oTupL_ap, ↓oMin_ap, ↓oSum_ap, ↓oMax_ap, ↓oMinL_ap, ↓oLcm4_ap, ↓allD_ap, ↓allD_nil, ↓setAll_ap, ↓setAll_nil, TV, LV, IV, BV, FV, atI_0, atI_1, atI_2, atI_3, List.map_cons, List.map_nil, List.length_cons, List.length_nil, List.set_cons_zero, List.set_cons_succ, List.getElem?_cons_zero, List.getElem?_cons_succ, List.cons_append, List.nil_append, Nat.reduceAdd, Nat.reduceSub, Nat.reduceLeDiff, List.replicate, Bool.false_eq_true, if_false, if_true, ite_true, ite_false, true_and, and_true, Bool.not_true, Bool.not_false, decide_true, decide_false, entry, isNone_fr, isNone_non, isNone_tup, isNone_list, isNone_int, isNone_bool, pId, pRev, pR3, pR4, pR5, ↓dCallK_ap, ↓ixF1]
    exact k'
  · rintro j env m hj ⟨rfl, rfl, rfl⟩
    unfold t__law_right_b1
    simp only [↓oOdd_ap, ↓oHalf_ap, ↓dAsg2_ap, ↓dTruL_ap, ↓dCatOwn_ap, ↓oRepT_ap, ↓dParDX_ap, ↓dVar_ap, ↓dC_ap, ↓dOp_ap, ↓dUn_ap, ↓dCB_ap, ↓dCall_ap, ↓dCallId_ap, ↓dNil_ap, ↓dCons_ap, ↓dTup_ap, ↓dLst_ap, ↓dTest_ap, ↓dNot_ap, ↓dAnd_ap, ↓dOr_ap, ↓dIf_ap, ↓dAndV_ap, ↓dOrV_ap, ↓dNotV_ap, ↓dChain_ap, ↓dChain3_ap, ↓dTy_ap, ↓dIsi_ap, ↓dNoPart_ap, ↓dPart_ap, ↓dSliceL_ap, ↓dSliceA_ap, ↓dPeekT_ap, ↓dPeekI_ap, ↓dYes_ap, ↓dNext_ap, ↓dSeq_ap, ↓dRet_ap, ↓dRetN_ap, ↓dIfS_ap, ↓dDrop_ap, ↓dAsg_ap, ↓dAsgOwn_ap, ↓dFreeze_ap, ↓dAppend_ap, ↓dUnp_ap, ↓unpF_ap, ↓unpT_ap, ↓dPar_ap, ↓dPar3_ap, ↓dParO2_ap, ↓dParO3_ap, ↓dParOD_ap, ↓dParDO_ap, ↓dBreak_ap, ↓dCont_ap, ↓oI_ap, ↓oI0_ap, ↓oNeg_ap, ↓oEq_ap, ↓oNe_ap, ↓oIxT_ap, ↓oIxL_ap, ↓oIx0_ap, ↓oIx1_ap, ↓oIsN_ap, ↓oNotN_ap, ↓oIsB_ap, ↓oNotB_ap, ↓oEqS_ap, ↓oCat_ap, ↓oCatA_ap, ↓oRepL_ap, ↓oLenT_ap, ↓oLenL_ap, ↓oAbs_ap, ↓oInt_ap, ↓oGcd_ap, ↓oListT_ap, ↓oListL_ap, ↓oTupT_ap, ↓oTupL_ap, ↓oMin_ap, ↓oSum_ap, ↓oMax_ap, ↓oMinL_ap, ↓oLcm4_ap, ↓allD_ap, ↓allD_nil, ↓setAll_ap, ↓setAll_nil, TV, LV, IV, BV, FV, atI_0, atI_1, atI_2, atI_3, List.map_cons, List.map_nil, List.length_cons, List.length_nil, List.set_cons_zero, List.set_cons_succ, List.getElem?_cons_zero, List.getElem?_cons_succ, List.cons_append, List.nil_append, Nat.reduceAdd, Nat.reduceSub, Nat.reduceLeDiff, List.replicate, Bool.false_eq_true, if_false, if_true, ite_true, ite_false, true_and, and_true, Bool.not_true, Bool.not_false, decide_true, decide_false, entry, isNone_fr, isNone_non, isNone_tup, isNone_list, isNone_int, isNone_bool, pId, pRev, pR3, pR4, pR5, ↓dCallK_ap, ↓ixF0, ↓ixF1, pn, pd]
    have ez : q.num + (q.den : Int) * (x : Int) + ((0 : Nat) : Int) = q.num + (q.den : Int) * (x : Int) := by omega
    rw [ez]
    refine ⟨_, _, rfl, by omega, bn.mono (by decide), bq.mono (by decide), ?_⟩
    rw [gg]
    simp only [↓oOdd_ap, ↓oHalf_ap, ↓dAsg2_ap, ↓dTruL_ap, ↓dCatOwn_ap, ↓oRepT_ap, ↓dParDX_ap, ↓dVar_ap, ↓dC_ap, ↓dOp_ap, ↓dUn_ap, ↓dCB_ap, ↓dCall_ap, ↓dCallId_ap, ↓dNil_ap, ↓dCons_ap, ↓dTup_ap, ↓dLst_ap, ↓dTest_ap, ↓dNot_ap, ↓dAnd_ap, ↓dOr_ap, ↓dIf_ap, ↓dAndV_ap, ↓dOrV_ap, ↓dNotV_ap, ↓dChain_ap, ↓dChain3_ap, ↓dTy_ap, ↓dIsi_ap, ↓dNoPart_ap, ↓dPart_ap, ↓dSliceL_ap, ↓dSliceA_ap, ↓dPeekT_ap, ↓dPeekI_ap, ↓dYes_ap, ↓dNext_ap, ↓dSeq_ap, ↓dRet_ap, ↓dRetN_ap, ↓dIfS_ap, ↓dDrop_ap, ↓dAsg_ap, ↓dAsgOwn_ap, ↓dFreeze_ap, ↓dAppend_ap, ↓dUnp_ap, ↓unpF_ap, ↓unpT_ap, ↓dPar_ap, ↓dPar3_ap, ↓dParO2_ap, ↓dParO3_ap, ↓dParOD_ap, ↓dParDO_ap, ↓dBreak_ap, ↓dCont_ap, ↓oI_ap, ↓oI0_ap, ↓oNeg_ap, ↓oEq_ap, ↓oNe_ap, ↓oIxT_ap, ↓oIxL_ap, ↓oIx0_ap, ↓oIx1_ap, ↓oIsN_ap, ↓oNotN_ap, ↓oIsB_ap, ↓oNotB_ap, ↓oEqS_ap, ↓oCat_ap, ↓oCatA_ap, ↓oRepL_ap, ↓oLenT_ap, ↓oLenL_ap, ↓oAbs_ap, ↓oInt_ap, ↓oGcd_ap, ↓oListT_ap, ↓oListL_ap, ↓oTupT_ap, ↓oTupL_ap, ↓oMin_ap, ↓oSum_ap, ↓oMax_ap, ↓oMinL_ap, ↓oLcm4_ap, ↓allD_ap, ↓allD_nil, ↓setAll_ap, ↓setAll_nil, TV, LV, IV, BV, FV, atI_0, atI_1, atI_2, atI_3, List.map_cons, List.map_nil, List.length_cons, List.length_nil, List.set_cons_zero, List.set_cons_succ, List.getElem?_cons_zero, List.getElem?_cons_succ, List.cons_append, List.nil_append, Nat.reduceAdd, Nat.reduceSub, Nat.reduceLeDiff, List.replicate, Bool.false_eq_true, if_false, if_true, ite_true, ite_false, true_and, and_true, Bool.not_true, Bool.not_false, decide_true, decide_false, entry, isNone_fr, isNone_non, isNone_tup, isNone_list, isNone_int, isNone_bool, pId, pRev, pR3, pR4, pR5, ↓dCallK_ap, shaped_int, eqv_int, fx, ↓e_stretch_length, pd, ↓e_like, one_eq]
    exact ⟨C, MX, ty4, k⟩
  · rintro env m ⟨z, _, _⟩
    omega
def t_law_b1 : DTS :=
  (dSeq (dPar 3 4 (dCons (dCall s__law_cut (dCons (dVar 1) dNil)) (dCons (dOp oAdd (dC (.int 1)) (dCall s__law_draw (dCons (dVar 1) (dCons (dC (.int 6)) dNil)))) dNil)))
  (dSeq (dIfS (dNot (dTest (dCall s__law_right (dCons (dVar 1) (dCons (dVar 3) (dCons (dCall s__law_pair (dCons (dVar 1) (dCons (dC (.int 12)) dNil))) dNil)))))) (dRet (dC (.bool false))) dNext)
  (dSeq (dAsg 5 (dTup (dCons (dCall s__law_plus (dCons (dTup (dCons (dOp oSub (dVar 4) (dC (.int 1))) (dCons (dC (.int 1)) dNil))) (dCons (dVar 3) dNil))) (dCons (dTup (dCons (dVar 4) (dCons (dC (.int 1)) dNil))) dNil))))
  (dIfS (dNot (dTest (dCall s__law_like (dCons (dCallK s_stretch_of @pRev (dCons (dTup (dCons (dVar 4) (dCons (dC (.int 1)) dNil))) (dCons (dVar 3) dNil))) (dCons (dVar 5) dNil))))) (dRet (dC (.bool false))) dNext))))
/-- law. Slots: script, draws_so, step, cut_so, count, ends_so, got -/
def t_law : DTS :=
  (dSeq (dForR 2 (dC (.int 5)) t_law_b1)
  (dSeq (dAsg 6 (dLst (dCons (dCall s_stretch_of (dCons (dTup (dCons (dC (.int 1)) (dCons (dC (.int 2)) dNil))) (dCons (dTup (dCons (dC (.int 7)) (dCons (dC (.int 2)) dNil))) dNil))) (dCons (dCall s_stretch_of (dCons (dTup (dCons (dC (.int 1)) (dCons (dC (.int 2)) dNil))) (dCons (dTup (dCons (dC (.int 10)) (dCons (dC (.int 3)) dNil))) dNil))) (dCons (dCallK s_high_end @pRev (dCons (dTup (dCons (dC (.int 7)) (dCons (dC (.int 2)) dNil))) (dCons (dTup (dCons (dC (.int 1)) (dCons (dC (.int 2)) dNil))) dNil))) dNil)))))
  (dSeq (dAsg 6 (dOp oCat (dVar 6) (dLst (dCons (dCallK s_low_end @pRev (dCons (dTup (dCons (dC (.int 7)) (dCons (dC (.int 2)) dNil))) (dCons (dTup (dCons (dC (.int 1)) (dCons (dC (.int 2)) dNil))) dNil))) (dCons (dCallK s_stretch_length @pRev (dCons (dTup (dCons (dC (.int 7)) (dCons (dC (.int 2)) dNil))) (dCons (dTup (dCons (dC (.int 1)) (dCons (dC (.int 2)) dNil))) dNil))) dNil)))))
  (dRet (dCall s__law_like (dCons (dVar 6) (dCons (dLst (dCons (dTup (dCons (dTup (dCons (dC (.int 19)) (dCons (dC (.int 6)) dNil))) (dCons (dTup (dCons (dC (.int 10)) (dCons (dC (.int 3)) dNil))) dNil))) (dCons (dTup (dCons (dTup (dCons (dC (.int 43)) (dCons (dC (.int 14)) dNil))) (dCons (dTup (dCons (dC (.int 22)) (dCons (dC (.int 7)) dNil))) dNil))) (dCons (dTup (dCons (dC (.int 10)) (dCons (dC (.int 3)) dNil))) (dCons (dTup (dCons (dC (.int 19)) (dCons (dC (.int 6)) dNil))) (dCons (dTup (dCons (dC (.int 1)) (dCons (dC (.int 6)) dNil))) dNil)))))) dNil)))))))
theorem e__law_right (c q : Rat) (n : Nat) (R : DV → Nat → Prop) : s__law_right [.draws, FV c, FV q] n R = (n + 1 < LIM ∧ Prt c ∧ Sz 4 c ∧ Pr q ∧ R (BV true) (n + 1)) := by
  refine propext ⟨?_, fun hh => ⟨c, q, rfl, hh⟩⟩
  rintro ⟨c', q', hh, rr⟩
  simp only [List.cons.injEq, DV.dat.injEq, PyData.tuple.injEq, PyData.int.injEq, PyData.list.injEq, fr_eq, natc_eq, and_true, true_and] at hh
  try simp only [hh]
  first | exact rr | (subst hh; exact rr)
theorem p_law : t_law { nx := fun _ _ => False, rt := fun d _ => d = BV true } (none :: some .draws :: List.replicate (7 - 2) none) 0 := by
  unfold t_law
  refine forR_go (N := 5) rfl (by decide) (fun j env m => m ≤ 20 * j ∧ ∃ o2 o3 o4 o5, env = [none, some .draws, o2, o3, o4, o5, none]) ⟨by omega, none, none, none, none, rfl⟩ ?_ ?_
  · rintro j env m hj ⟨m0, o2, o3, o4, o5, rfl⟩
    have L : LIM = 1073741824 := rfl
    have f11 : PyData.tuple [.int 1, .int 1] = fr 1 := fr_of (by decide +kernel) (by decide +kernel)
    unfold t_law_b1
    simp only [↓oOdd_ap, ↓oHalf_ap, ↓dAsg2_ap, ↓dTruL_ap, ↓dCatOwn_ap, ↓oRepT_ap, ↓dParDX_ap, ↓dVar_ap, ↓dC_ap, ↓dOp_ap, ↓dUn_ap, ↓dCB_ap, ↓dCall_ap, ↓dCallId_ap, ↓dNil_ap, ↓dCons_ap, ↓dTup_ap, ↓dLst_ap, ↓dTest_ap, ↓dNot_ap, ↓dAnd_ap, ↓dOr_ap, ↓dIf_ap, ↓dAndV_ap, ↓dOrV_ap, ↓dNotV_ap, ↓dChain_ap, ↓dChain3_ap, ↓dTy_ap, ↓dIsi_ap, ↓dNoPart_ap, ↓dPart_ap, ↓dSliceL_ap, ↓dSliceA_ap, ↓dPeekT_ap, ↓dPeekI_ap, ↓dYes_ap, ↓dNext_ap, ↓dSeq_ap, ↓dRet_ap, ↓dRetN_ap, ↓dIfS_ap, ↓dDrop_ap, ↓dAsg_ap, ↓dAsgOwn_ap, ↓dFreeze_ap, ↓dAppend_ap, ↓dUnp_ap, ↓unpF_ap, ↓unpT_ap, ↓dPar_ap, ↓dPar3_ap, ↓dParO2_ap, ↓dParO3_ap, ↓dParOD_ap, ↓dParDO_ap, ↓dBreak_ap, ↓dCont_ap, ↓oI_ap, ↓oI0_ap, ↓oNeg_ap, ↓oEq_ap, ↓oNe_ap, ↓oIxT_ap, ↓oIxL_ap, ↓oIx0_ap, ↓oIx1_ap, ↓oIsN_ap, ↓oNotN_ap, ↓oIsB_ap, ↓oNotB_ap, ↓oEqS_ap, ↓oCat_ap, ↓oCatA_ap, ↓oRepL_ap, ↓oLenT_ap, ↓oLenL_ap, ↓oAbs_ap, ↓oInt_ap, ↓oGcd_ap, ↓oListT_ap, ↓oListL_ap, ↓oTupT_ap, ↓oTupL_ap, ↓oMin_ap, ↓oSum_ap, ↓oMax_ap, ↓oMinL_ap, ↓oLcm4_ap, ↓allD_ap, ↓allD_nil, ↓setAll_ap, ↓setAll_nil, TV, LV, IV, BV, FV, atI_0, atI_1, atI_2, atI_3, List.map_cons, List.map_nil, List.length_cons, List.length_nil, List.set_cons_zero, List.set_cons_succ, List.getElem?_cons_zero, List.getElem?_cons_succ, List.cons_append, List.nil_append, Nat.reduceAdd, Nat.reduceSub, Nat.reduceLeDiff, List.replicate, Bool.false_eq_true, if_false, if_true, ite_true, ite_false, true_and, and_true, Bool.not_true, Bool.not_false, decide_true, decide_false, entry, isNone_fr, isNone_non, isNone_tup, isNone_list, isNone_int, isNone_bool, pId, pRev, pR3, pR4, pR5, ↓dCallK_ap, ↓e__law_cut]
    refine ⟨by omega, fun c c0 c1 cd zc _ => ?_⟩
    have C : Prt c := ⟨(zc.mono (by decide)).bd, c0, c1, Int.le_trans cd (by decide)⟩
    refine draw_go (lim := 6) rfl (by decide) (by decide) (by omega) fun y hy => ?_
    have e1 : 1 + (y : Int) = ((1 + y : Nat) : Int) := by omega
    have e2 : ((1 + y : Nat) : Int) - 1 = ((y : Nat) : Int) := by omega
    have bi : B 3 ((1 + y : Nat) : Int).natAbs := B.of (by omega)
    have by' : B 3 ((y : Nat) : Int).natAbs := B.of (by omega)
    have zi := sz_int bi (by decide)
    have zy := sz_int by' (by decide)
    have M : Mean (((1 + y : Nat) : Int) : Rat) := by
      refine ⟨(zi.mono (by decide)).bd, ?_, by show 1 ≤ 300; decide⟩
      have : ((1 : Int) : Rat) ≤ (((1 + y : Nat) : Int) : Rat) := Rat.intCast_le_intCast.2 (by omega)
      simpa using this
    have vh := hiE_whole c0 c1 (1 + y)
    have vl := loE_whole c0 c1 (1 + y)
    have el : (((1 + y : Nat) : Int) : Rat) - 1 + c = ((y : Nat) : Int) + c := by
      have : (((1 + y : Nat) : Int) : Rat) = 1 + (((y : Nat) : Int) : Rat) := by
        rw [Int.natCast_add, Rat.intCast_add]
        rfl
      rw [this]
      grind
    rw [el] at vl
    have ty := tidy2 (zy.add zc) (by decide) zi (by decide)
    simp only [↓oOdd_ap, ↓oHalf_ap, ↓dAsg2_ap, ↓dTruL_ap, ↓dCatOwn_ap, ↓oRepT_ap, ↓dParDX_ap, ↓dVar_ap, ↓dC_ap, ↓dOp_ap, ↓dUn_ap, ↓dCB_ap, ↓dCall_ap, ↓dCallId_ap, ↓dNil_ap, ↓dCons_ap, ↓dTup_ap, ↓dLst_ap, ↓dTest_ap, ↓dNot_ap, ↓dAnd_ap, ↓dOr_ap, ↓dIf_ap, ↓dAndV_ap, ↓dOrV_ap, ↓dNotV_ap, ↓dChain_ap, ↓dChain3_ap, ↓dTy_ap, ↓dIsi_ap, ↓dNoPart_ap, ↓dPart_ap, ↓dSliceL_ap, ↓dSliceA_ap, ↓dPeekT_ap, ↓dPeekI_ap, ↓dYes_ap, ↓dNext_ap, ↓dSeq_ap, ↓dRet_ap, ↓dRetN_ap, ↓dIfS_ap, ↓dDrop_ap, ↓dAsg_ap, ↓dAsgOwn_ap, ↓dFreeze_ap, ↓dAppend_ap, ↓dUnp_ap, ↓unpF_ap, ↓unpT_ap, ↓dPar_ap, ↓dPar3_ap, ↓dParO2_ap, ↓dParO3_ap, ↓dParOD_ap, ↓dParDO_ap, ↓dBreak_ap, ↓dCont_ap, ↓oI_ap, ↓oI0_ap, ↓oNeg_ap, ↓oEq_ap, ↓oNe_ap, ↓oIxT_ap, ↓oIxL_ap, ↓oIx0_ap, ↓oIx1_ap, ↓oIsN_ap, ↓oNotN_ap, ↓oIsB_ap, ↓oNotB_ap, ↓oEqS_ap, ↓oCat_ap, ↓oCatA_ap, ↓oRepL_ap, ↓oLenT_ap, ↓oLenL_ap, ↓oAbs_ap, ↓oInt_ap, ↓oGcd_ap, ↓oListT_ap, ↓oListL_ap, ↓oTupT_ap, ↓oTupL_ap, ↓oMin_ap, ↓oSum_ap, ↓oMax_ap, ↓oMinL_ap, ↓oLcm4_ap, ↓allD_ap, ↓allD_nil, ↓setAll_ap, ↓setAll_nil, TV, LV, IV, BV, FV, atI_0, atI_1, atI_2, atI_3, List.map_cons, List.map_nil, List.length_cons, List.length_nil, List.set_cons_zero, List.set_cons_succ, List.getElem?_cons_zero, List.getElem?_cons_succ, List.cons_append, List.nil_append, Nat.reduceAdd, Nat.reduceSub, Nat.reduceLeDiff, List.replicate, Bool.false_eq_true, if_false, if_true, ite_true, ite_false, true_and, and_true, Bool.not_true, Bool.not_false, decide_true, decide_false, entry, isNone_fr, isNone_non, isNone_tup, isNone_list, isNone_int, isNone_bool, pId, pRev, pR3, pR4, pR5, ↓dCallK_ap, ↓e__law_right, ↓e__law_pair]
    refine ⟨by omega, fun q hq => ⟨by omega, C, zc, hq, ?_⟩⟩
    simp only [↓oOdd_ap, ↓oHalf_ap, ↓dAsg2_ap, ↓dTruL_ap, ↓dCatOwn_ap, ↓oRepT_ap, ↓dParDX_ap, ↓dVar_ap, ↓dC_ap, ↓dOp_ap, ↓dUn_ap, ↓dCB_ap, ↓dCall_ap, ↓dCallId_ap, ↓dNil_ap, ↓dCons_ap, ↓dTup_ap, ↓dLst_ap, ↓dTest_ap, ↓dNot_ap, ↓dAnd_ap, ↓dOr_ap, ↓dIf_ap, ↓dAndV_ap, ↓dOrV_ap, ↓dNotV_ap, ↓dChain_ap, ↓dChain3_ap, ↓dTy_ap, ↓dIsi_ap, ↓dNoPart_ap, ↓dPart_ap, ↓dSliceL_ap, ↓dSliceA_ap, ↓dPeekT_ap, ↓dPeekI_ap, ↓dYes_ap, ↓dNext_ap, ↓dSeq_ap, ↓dRet_ap, ↓dRetN_ap, ↓dIfS_ap, ↓dDrop_ap, ↓dAsg_ap, ↓dAsgOwn_ap, ↓dFreeze_ap, ↓dAppend_ap, ↓dUnp_ap, ↓unpF_ap, ↓unpT_ap, ↓dPar_ap, ↓dPar3_ap, ↓dParO2_ap, ↓dParO3_ap, ↓dParOD_ap, ↓dParDO_ap, ↓dBreak_ap, ↓dCont_ap, ↓oI_ap, ↓oI0_ap, ↓oNeg_ap, ↓oEq_ap, ↓oNe_ap, ↓oIxT_ap, ↓oIxL_ap, ↓oIx0_ap, ↓oIx1_ap, ↓oIsN_ap, ↓oNotN_ap, ↓oIsB_ap, ↓oNotB_ap, ↓oEqS_ap, ↓oCat_ap, ↓oCatA_ap, ↓oRepL_ap, ↓oLenT_ap, ↓oLenL_ap, ↓oAbs_ap, ↓oInt_ap, ↓oGcd_ap, ↓oListT_ap, ↓oListL_ap, ↓oTupT_ap, ↓oTupL_ap, ↓oMin_ap, ↓oSum_ap, ↓oMax_ap, ↓oMinL_ap, ↓oLcm4_ap, ↓allD_ap, ↓allD_nil, ↓setAll_ap, ↓setAll_nil, TV, LV, IV, BV, FV, atI_0, atI_1, atI_2, atI_3, List.map_cons, List.map_nil, List.length_cons, List.length_nil, List.set_cons_zero, List.set_cons_succ, List.getElem?_cons_zero, List.getElem?_cons_succ, List.cons_append, List.nil_append, Nat.reduceAdd, Nat.reduceSub, Nat.reduceLeDiff, List.replicate, Bool.false_eq_true, if_false, if_true, ite_true, ite_false, true_and, and_true, Bool.not_true, Bool.not_false, decide_true, decide_false, entry, isNone_fr, isNone_non, isNone_tup, isNone_list, isNone_int, isNone_bool, pId, pRev, pR3, pR4, pR5, ↓dCallK_ap, e2, ↓fr_int_ap, ↓e__law_plus, e1, ↓e_stretch_of, vh, vl, ↓e_like]
    exact ⟨zy.mono (by decide), zc.mono (by decide), C, M, ty, by omega, _, _, _, _, rfl⟩
  · rintro env m ⟨m0, o2, o3, o4, o5, rfl⟩
    have f12 : PyData.tuple [.int 1, .int 2] = fr (1 / 2) := fr_of (by decide +kernel) (by decide +kernel)
    have f72 : PyData.tuple [.int 7, .int 2] = fr (7 / 2) := fr_of (by decide +kernel) (by decide +kernel)
    have f103 : PyData.tuple [.int 10, .int 3] = fr (10 / 3) := fr_of (by decide +kernel) (by decide +kernel)
    have f196 : PyData.tuple [.int 19, .int 6] = fr (19 / 6) := fr_of (by decide +kernel) (by decide +kernel)
    have f4314 : PyData.tuple [.int 43, .int 14] = fr (43 / 14) := fr_of (by decide +kernel) (by decide +kernel)
    have f227 : PyData.tuple [.int 22, .int 7] = fr (22 / 7) := fr_of (by decide +kernel) (by decide +kernel)
    have f16 : PyData.tuple [.int 1, .int 6] = fr (1 / 6) := fr_of (by decide +kernel) (by decide +kernel)
    have v1 : loE (1 / 2) (7 / 2) = 19 / 6 := by decide +kernel
    have v2 : hiE (1 / 2) (7 / 2) = 10 / 3 := by decide +kernel
    have v3 : loE (1 / 2) (10 / 3) = 43 / 14 := by decide +kernel
    have v4 : hiE (1 / 2) (10 / 3) = 22 / 7 := by decide +kernel
    have v5 : lenE (1 / 2) (7 / 2 : Rat).den = 1 / 6 := by decide +kernel
    have C2 : Prt (1 / 2) := ⟨by constructor <;> decide +kernel, by decide +kernel, by decide +kernel, by decide +kernel⟩
    have M1 : Mean (7 / 2) := ⟨by constructor <;> decide +kernel, by decide +kernel, by decide +kernel⟩
    have M2 : Mean (10 / 3) := ⟨by constructor <;> decide +kernel, by decide +kernel, by decide +kernel⟩
    have tf : ∀ q : Rat, (q.num.natAbs < 2 ^ 10 ∧ q.den < 2 ^ 10) → tame (fr q) := fun q ⟨h1, h2⟩ => tame_fr (k := 10) ⟨h1, h2⟩ (by decide)
    have ty : seqD (.list [.tuple [fr (19 / 6), fr (10 / 3)], .tuple [fr (43 / 14), fr (22 / 7)], fr (10 / 3), fr (19 / 6), fr (1 / 6)]) = true ∧ Tidy (.list [.tuple [fr (19 / 6), fr (10 / 3)], .tuple [fr (43 / 14), fr (22 / 7)], fr (10 / 3), fr (19 / 6), fr (1 / 6)]) := by
      refine ⟨rfl, ⟨⟨tf _ (by decide +kernel), tf _ (by decide +kernel), trivial⟩, ⟨tf _ (by decide +kernel), tf _ (by decide +kernel), trivial⟩, tf _ (by decide +kernel), tf _ (by decide +kernel), tf _ (by decide +kernel), trivial⟩, ?_, ?_⟩
      · simp only [PyData.bulk, PyData.bulkAll, bulk_fr]; decide
      · simp only [PyData.depth, PyData.depthAll, depth_fr]; decide
    simp only [↓oOdd_ap, ↓oHalf_ap, ↓dAsg2_ap, ↓dTruL_ap, ↓dCatOwn_ap, ↓oRepT_ap, ↓dParDX_ap, ↓dVar_ap, ↓dC_ap, ↓dOp_ap, ↓dUn_ap, ↓dCB_ap, ↓dCall_ap, ↓dCallId_ap, ↓dNil_ap, ↓dCons_ap, ↓dTup_ap, ↓dLst_ap, ↓dTest_ap, ↓dNot_ap, ↓dAnd_ap, ↓dOr_ap, ↓dIf_ap, ↓dAndV_ap, ↓dOrV_ap, ↓dNotV_ap, ↓dChain_ap, ↓dChain3_ap, ↓dTy_ap, ↓dIsi_ap, ↓dNoPart_ap, ↓dPart_ap, ↓dSliceL_ap, ↓dSliceA_ap, ↓dPeekT_ap, ↓dPeekI_ap, ↓dYes_ap, ↓dNext_ap, ↓dSeq_ap, ↓dRet_ap, ↓dRetN_ap, ↓dIfS_ap, ↓dDrop_ap, ↓dAsg_ap, ↓dAsgOwn_ap, ↓dFreeze_ap, ↓dAppend_ap, ↓dUnp_ap, ↓unpF_ap, ↓unpT_ap, ↓dPar_ap, ↓dPar3_ap, ↓dParO2_ap, ↓dParO3_ap, ↓dParOD_ap, ↓dParDO_ap, ↓dBreak_ap, ↓dCont_ap, ↓oI_ap, ↓oI0_ap, ↓oNeg_ap, ↓oEq_ap, ↓oNe_ap, ↓oIxT_ap, ↓oIxL_ap, ↓oIx0_ap, ↓oIx1_ap, ↓oIsN_ap, ↓oNotN_ap, ↓oIsB_ap, ↓oNotB_ap, ↓oEqS_ap, ↓oCat_ap, ↓oCatA_ap, ↓oRepL_ap, ↓oLenT_ap, ↓oLenL_ap, ↓oAbs_ap, ↓oInt_ap, ↓oGcd_ap, ↓oListT_ap, ↓oListL_ap, ↓oTupT_ap, ↓oTupL_ap, ↓oMin_ap, ↓oSum_ap, ↓oMax_ap, ↓oMinL_ap, ↓oLcm4_ap, ↓allD_ap, ↓allD_nil, ↓setAll_ap, ↓setAll_nil, TV, LV, IV, BV, FV, atI_0, atI_1, atI_2, atI_3, List.map_cons, List.map_nil, List.length_cons, List.length_nil, List.set_cons_zero, List.set_cons_succ, List.getElem?_cons_zero, List.getElem?_cons_succ, List.cons_append, List.nil_append, Nat.reduceAdd, Nat.reduceSub, Nat.reduceLeDiff, List.replicate, Bool.false_eq_true, if_false, if_true, ite_true, ite_false, true_and, and_true, Bool.not_true, Bool.not_false, decide_true, decide_false, entry, isNone_fr, isNone_non, isNone_tup, isNone_list, isNone_int, isNone_bool, pId, pRev, pR3, pR4, pR5, ↓dCallK_ap, ↓f12, ↓f72, ↓f103, ↓f196, ↓f4314, ↓f227, ↓f16, List.reverse_cons, List.reverse_nil, ↓e_stretch_of, ↓e_high_end, ↓e_low_end, ↓e_stretch_length, v1, v2, v3, v4, v5, ↓e_like]
    exact ⟨C2, M1, C2, M2, C2, M1, C2, M1, C2, M1, ty⟩
end Sx

set_option Elab.async false
set_option linter.all false
set_option maxRecDepth 100000
set_option maxHeartbeats 4000000
namespace Lw
open PySem PySem.Spec L2 Sx
open PyProof.Rows hiding St
def top (i : Nat) : Stmt := PySem.Challenge.pw_sawrounds_k20_whole_both_ends.main.body.getD i (.Pass ⟨0, 0, 0, 0⟩)
/-- what the top has left -/
structure Tx (K : PySem.W.Frag) (mg : Str → Option Value) (a : Nat → Addr) (fd : Nat → FuncData) : Prop where
  n_abs : mg "abs" = none
  n_int : mg "int" = none
  n_len : mg "len" = none
  n_list : mg "list" = none
  n_range : mg "range" = none
  n_repr : mg "repr" = none
  n_tuple : mg "tuple" = none
  n_type : mg "type" = none
  m_gcd : mg "gcd" = some (.builtin "math.gcd")
  c_MOST : ∃ t, mg "MOST" = some (.int 1000000000000000000000000000000 t)
  c_MOST_BELOW_OF_MEAN : ∃ t, mg "MOST_BELOW_OF_MEAN" = some (.int 300 t)
  c_MOST_BELOW_OF_PART : ∃ t, mg "MOST_BELOW_OF_PART" = some (.int 1000 t)
  F__law_begin : Fun K "_law_begin" "_law_begin" (top 36) (a 36) (fd 36)
  g__law_begin : mg "_law_begin" = some (.ref (a 36))
  b__law_begin : Binds K (fd 36) ["script"] []
  F__law_like : Fun K "_law_like" "_law_like" (top 50) (a 50) (fd 50)
  g__law_like : mg "_law_like" = some (.ref (a 50))
  b__law_like : Binds K (fd 50) ["got", "due"] []
  F_is_integer : Fun K "is_integer" "is_integer" (top 9) (a 9) (fd 9)
  g_is_integer : mg "is_integer" = some (.ref (a 9))
  b_is_integer : Binds K (fd 9) ["value"] []
  F_is_fraction : Fun K "is_fraction" "is_fraction" (top 10) (a 10) (fd 10)
  g_is_fraction : mg "is_fraction" = some (.ref (a 10))
  b_is_fraction : Binds K (fd 10) ["value"] []
  F_is_part : Fun K "is_part" "is_part" (top 19) (a 19) (fd 19)
  g_is_part : mg "is_part" = some (.ref (a 19))
  b_is_part : Binds K (fd 19) ["value"] []
  F_need_part : Fun K "need_part" "need_part" (top 20) (a 20) (fd 20)
  g_need_part : mg "need_part" = some (.ref (a 20))
  b_need_part : Binds K (fd 20) ["part"] []
  F_is_any_mean : Fun K "is_any_mean" "is_any_mean" (top 13) (a 13) (fd 13)
  g_is_any_mean : mg "is_any_mean" = some (.ref (a 13))
  b_is_any_mean : Binds K (fd 13) ["value"] []
  F_need_mean : Fun K "need_mean" "need_mean" (top 14) (a 14) (fd 14)
  g_need_mean : mg "need_mean" = some (.ref (a 14))
  b_need_mean : Binds K (fd 14) ["mean"] []
  F_need_part_and_mean : Fun K "need_part_and_mean" "need_part_and_mean" (top 28) (a 28) (fd 28)
  g_need_part_and_mean : mg "need_part_and_mean" = some (.ref (a 28))
  b_need_part_and_mean : Binds K (fd 28) ["part", "mean"] []
  F_power : Fun K "power" "power" (top 3) (a 3) (fd 3)
  g_power : mg "power" = some (.ref (a 3))
  b_power : Binds K (fd 3) ["base", "number"] []
  F_powers_apart : Fun K "powers_apart" "powers_apart" (top 24) (a 24) (fd 24)
  g_powers_apart : mg "powers_apart" = some (.ref (a 24))
  b_powers_apart : Binds K (fd 24) ["part", "number"] []
  F_weighed_sum : Fun K "weighed_sum" "weighed_sum" (top 22) (a 22) (fd 22)
  g_weighed_sum : mg "weighed_sum" = some (.ref (a 22))
  b_weighed_sum : Binds K (fd 22) ["above", "below", "things"] []
  F_ticks_up_to : Fun K "ticks_up_to" "ticks_up_to" (top 15) (a 15) (fd 15)
  g_ticks_up_to : mg "ticks_up_to" = some (.ref (a 15))
  b_ticks_up_to : Binds K (fd 15) ["mean", "number"] []
  F_things_of : Fun K "things_of" "things_of" (top 16) (a 16) (fd 16)
  g_things_of : mg "things_of" = some (.ref (a 16))
  b_things_of : Binds K (fd 16) ["mean"] []
  F_rhythm_sum : Fun K "rhythm_sum" "rhythm_sum" (top 23) (a 23) (fd 23)
  g_rhythm_sum : mg "rhythm_sum" = some (.ref (a 23))
  b_rhythm_sum : Binds K (fd 23) ["part", "mean"] []
  F_high_of : Fun K "high_of" "high_of" (top 25) (a 25) (fd 25)
  g_high_of : mg "high_of" = some (.ref (a 25))
  b_high_of : Binds K (fd 25) ["part", "mean"] []
  F_length_of : Fun K "length_of" "length_of" (top 26) (a 26) (fd 26)
  g_length_of : mg "length_of" = some (.ref (a 26))
  b_length_of : Binds K (fd 26) ["part", "below"] []
  F_ends_of : Fun K "ends_of" "ends_of" (top 27) (a 27) (fd 27)
  g_ends_of : mg "ends_of" = some (.ref (a 27))
  b_ends_of : Binds K (fd 27) ["part", "mean"] []
  F_reduced : Fun K "reduced" "reduced" (top 2) (a 2) (fd 2)
  g_reduced : mg "reduced" = some (.ref (a 2))
  b_reduced : Binds K (fd 2) ["above", "below"] []
  F_low_end : Fun K "low_end" "low_end" (top 31) (a 31) (fd 31)
  g_low_end : mg "low_end" = some (.ref (a 31))
  b_low_end : Binds K (fd 31) ["part", "mean"] []
  F_high_end : Fun K "high_end" "high_end" (top 32) (a 32) (fd 32)
  g_high_end : mg "high_end" = some (.ref (a 32))
  b_high_end : Binds K (fd 32) ["part", "mean"] []
  F_stretch_of : Fun K "stretch_of" "stretch_of" (top 30) (a 30) (fd 30)
  g_stretch_of : mg "stretch_of" = some (.ref (a 30))
  b_stretch_of : Binds K (fd 30) ["part", "mean"] []
  F__law_divisor : Fun K "_law_divisor" "_law_divisor" (top 40) (a 40) (fd 40)
  g__law_divisor : mg "_law_divisor" = some (.ref (a 40))
  b__law_divisor : Binds K (fd 40) ["one", "two"] []
  F__law_share : Fun K "_law_share" "_law_share" (top 41) (a 41) (fd 41)
  g__law_share : mg "_law_share" = some (.ref (a 41))
  b__law_share : Binds K (fd 41) ["above", "below"] []
  F__law_mixed : Fun K "_law_mixed" "_law_mixed" (top 35) (a 35) (fd 35)
  g__law_mixed : mg "_law_mixed" = some (.ref (a 35))
  b__law_mixed : Binds K (fd 35) ["cell", "k"] []
  F__law_draw : Fun K "_law_draw" "_law_draw" (top 37) (a 37) (fd 37)
  g__law_draw : mg "_law_draw" = some (.ref (a 37))
  b__law_draw : Binds K (fd 37) ["draws_so", "limit"] []
  F__law_cut : Fun K "_law_cut" "_law_cut" (top 38) (a 38) (fd 38)
  g__law_cut : mg "_law_cut" = some (.ref (a 38))
  b__law_cut : Binds K (fd 38) ["draws_so"] []
  F__law_minus : Fun K "_law_minus" "_law_minus" (top 43) (a 43) (fd 43)
  g__law_minus : mg "_law_minus" = some (.ref (a 43))
  b__law_minus : Binds K (fd 43) ["one", "two"] []
  F__law_times : Fun K "_law_times" "_law_times" (top 44) (a 44) (fd 44)
  g__law_times : mg "_law_times" = some (.ref (a 44))
  b__law_times : Binds K (fd 44) ["one", "two"] []
  F__law_power : Fun K "_law_power" "_law_power" (top 47) (a 47) (fd 47)
  g__law_power : mg "_law_power" = some (.ref (a 47))
  b__law_power : Binds K (fd 47) ["one", "times_so"] []
  F__law_over : Fun K "_law_over" "_law_over" (top 45) (a 45) (fd 45)
  g__law_over : mg "_law_over" = some (.ref (a 45))
  b__law_over : Binds K (fd 45) ["one", "two"] []
  F__law_plus : Fun K "_law_plus" "_law_plus" (top 42) (a 42) (fd 42)
  g__law_plus : mg "_law_plus" = some (.ref (a 42))
  b__law_plus : Binds K (fd 42) ["one", "two"] []
  F__law_floors : Fun K "_law_floors" "_law_floors" (top 48) (a 48) (fd 48)
  g__law_floors : mg "_law_floors" = some (.ref (a 48))
  b__law_floors : Binds K (fd 48) ["cut_so", "pair_so"] []
  F__law_ends : Fun K "_law_ends" "_law_ends" (top 49) (a 49) (fd 49)
  g__law_ends : mg "_law_ends" = some (.ref (a 49))
  b__law_ends : Binds K (fd 49) ["cut_so", "pair_so"] []
  F__law_below : Fun K "_law_below" "_law_below" (top 46) (a 46) (fd 46)
  g__law_below : mg "_law_below" = some (.ref (a 46))
  b__law_below : Binds K (fd 46) ["one", "two"] []
  F_floor_sum : Fun K "floor_sum" "floor_sum" (top 29) (a 29) (fd 29)
  g_floor_sum : mg "floor_sum" = some (.ref (a 29))
  b_floor_sum : Binds K (fd 29) ["part", "mean"] []
  F_stretch_length : Fun K "stretch_length" "stretch_length" (top 33) (a 33) (fd 33)
  g_stretch_length : mg "stretch_length" = some (.ref (a 33))
  b_stretch_length : Binds K (fd 33) ["part", "mean"] []
  F__law_right : Fun K "_law_right" "_law_right" (top 51) (a 51) (fd 51)
  g__law_right : mg "_law_right" = some (.ref (a 51))
  b__law_right : Binds K (fd 51) ["draws_so", "cut_so", "pair_so"] []
  F__law_pair : Fun K "_law_pair" "_law_pair" (top 39) (a 39) (fd 39)
  g__law_pair : mg "_law_pair" = some (.ref (a 39))
  b__law_pair : Binds K (fd 39) ["draws_so", "most_so"] []
  F_law : Fun K "law" "law" (top 52) (a 52) (fd 52)
  g_law : mg "law" = some (.ref (a 52))
  b_law : Binds K (fd 52) ["script"] []
  kb_high_end_pRev : ∀ (s : Shared) (ws : List Value), (pRev ws).length = (["part", "mean"] : List Str).length → BindsTo s (fd 32) ⟨[], (["mean", "part"] : List Str).zip ws⟩ ((["part", "mean"] : List Str).zip (pRev ws))
  kb_low_end_pRev : ∀ (s : Shared) (ws : List Value), (pRev ws).length = (["part", "mean"] : List Str).length → BindsTo s (fd 31) ⟨[], (["mean", "part"] : List Str).zip ws⟩ ((["part", "mean"] : List Str).zip (pRev ws))
  kb_stretch_length_pRev : ∀ (s : Shared) (ws : List Value), (pRev ws).length = (["part", "mean"] : List Str).length → BindsTo s (fd 33) ⟨[], (["mean", "part"] : List Str).zip ws⟩ ((["part", "mean"] : List Str).zip (pRev ws))
  kb_stretch_of_pRev : ∀ (s : Shared) (ws : List Value), (pRev ws).length = (["part", "mean"] : List Str).length → BindsTo s (fd 30) ⟨[], (["mean", "part"] : List Str).zip ws⟩ ((["part", "mean"] : List Str).zip (pRev ws))
section
variable {P : Program} {w : World} {K : PySem.W.Frag} {mg : Str → Option Value} {base : Heap} {a : Nat → Addr} {fd : Nat → FuncData}
theorem sc__law_begin : FnScope ["script", "cells_so", "cell"] ["script"] (defScope (top 36)) := ⟨rfl, rfl, rfl, by decide +kernel, rfl, by decide +kernel, by decide +kernel⟩
theorem ok__law_begin (T : Tx K mg a fd) : FnG P w K mg base CX0 1 (a 36) (fd 36) ["script"] (spBegin K) := by
  refine fnG_of T.F__law_begin sc__law_begin (fun vs H Q E h => by obtain ⟨_, _, rfl, _⟩ := h; rfl) fun cdv A out s H vs Q E hr h => ⟨tBegin K, PSs.nox ?_, pure_begin vs H Q E h⟩
  exact pss_cons (ps_set (i := 1) sc__law_begin.nd rfl (by first | exact Or.inl rfl | exact Or.inr rfl) (pe_ifExp (pt_cmpR (op_neD hr.rm.units) (pv 0) (pe_lst pa_nil) (nomark _)) (pe_callTy call_list_of (by rfl) T.n_list PyProof.Rows.boot_list (pa_cons (pv 0) pa_nil)) (pe_lst (pa_cons pe_int pa_nil))))
    (pss_one (ps_ret (pe_disp (pps_cons pe_str (pv 1) (pps_cons pe_str (pe_lc (own := [("cell", 2)]) (g := gName 2) (tt := tYes) rfl sc__law_begin.nd (pi_list (pv 1)) (blkOk_by (N := ["script", "cells_so", "cell"]) (sc := defScope (top 36)) (by decide +kernel))
      (fun _ _ _ _ _ => pg_name (i := 2) sc__law_begin.nd rfl (by first | exact Or.inl rfl | exact Or.inr rfl)) (fun _ _ _ _ _ => pts_nil) (fun _ _ _ _ _ => pe_ifExp (pt_cmpR op_ge (pv 2) (pe_op op_pow pe_int pe_int) (nomark _)) (pv 2) pe_int)) (pps_cons pe_str pe_int pps_nil))) (by rfl) (by rfl) (fun z => by cases z) (by decide))))
theorem sc__law_like : FnScope ["got", "due"] ["got", "due"] (defScope (top 50)) := ⟨rfl, rfl, rfl, by decide +kernel, rfl, by decide +kernel, by decide +kernel⟩
theorem ok__law_like (T : Tx K mg a fd) : FnG P w K mg base CX0 1 (a 50) (fd 50) ["got", "due"] (cSp s__law_like) := by
  refine fnD_of (t := t__law_like) T.F__law_like sc__law_like (fun ds n R h => ?_) (fun cdv A out s H E hr => ?_) p__law_like
  · first | (obtain ⟨rfl, _⟩ := h; rfl) | (obtain ⟨_, rfl, _⟩ := h; rfl) | (obtain ⟨_, _, rfl, _⟩ := h; rfl) | (obtain ⟨_, _, _, rfl, _⟩ := h; rfl) | (obtain ⟨_, _, _, _, rfl, _⟩ := h; rfl) | (obtain ⟨_, _, _, _, _, rfl, _⟩ := h; rfl) | (obtain ⟨_, _, _, _, _, _, rfl, _⟩ := h; rfl) | (obtain ⟨_, _, _, _, _, _, _, rfl, _⟩ := h; rfl) | (obtain ⟨_, _, _, _, _, _, _, _, rfl, _⟩ := h; rfl) | (obtain ⟨_, _, _, _, _, _, _, _, _, rfl, _⟩ := h; rfl) | (obtain ⟨_, _, _, _, _, _, _, _, _, _, rfl, _⟩ := h; rfl) | (obtain ⟨_, _, _, _, _, _, _, _, _, _, _, rfl, _⟩ := h; rfl) | (obtain ⟨_, _, _, _, _, _, _, _, _, _, _, _, rfl, _⟩ := h; rfl) | (obtain ⟨_, _, _, _, _, _, _, _, _, _, _, _, _, rfl, _⟩ := h; rfl) | (obtain ⟨_, _, _, _, _, _, _, _, _, _, _, _, _, _, rfl, _⟩ := h; rfl) | (obtain ⟨_, _, _, _, _, _, _, _, _, _, _, _, _, _, _, rfl, _⟩ := h; rfl) | (obtain ⟨_, _, _, _, _, _, _, _, _, _, _, _, _, _, _, _, rfl, _⟩ := h; rfl) | (obtain ⟨_, _, _, _, _, _, _, _, _, _, _, _, _, _, _, _, _, rfl, _⟩ := h; rfl)
  · exact (fss_one (fs_ret (fe_cmp op_eq ok_eqS (fe_cb (pe_callB (cr_repr hr) (by rfl) T.n_repr PyProof.Rows.boot_repr (fa_cons (fe_var (pv 0)) fa_nil)) ok_repr) (fe_cb (pe_callB (cr_repr hr) (by rfl) T.n_repr PyProof.Rows.boot_repr (fa_cons (fe_var (pv 1)) fa_nil)) ok_repr) (nomark _))))
theorem sc_is_integer : FnScope ["value"] ["value"] (defScope (top 9)) := ⟨rfl, rfl, rfl, by decide +kernel, rfl, by decide +kernel, by decide +kernel⟩
theorem ok_is_integer (T : Tx K mg a fd) : FnG P w K mg base CX0 1 (a 9) (fd 9) ["value"] (cSp s_is_integer) := by
  refine fnD_of (t := t_is_integer) T.F_is_integer sc_is_integer (fun ds n R h => ?_) (fun cdv A out s H E hr => ?_) p_is_integer
  · first | (obtain ⟨rfl, _⟩ := h; rfl) | (obtain ⟨_, rfl, _⟩ := h; rfl) | (obtain ⟨_, _, rfl, _⟩ := h; rfl) | (obtain ⟨_, _, _, rfl, _⟩ := h; rfl) | (obtain ⟨_, _, _, _, rfl, _⟩ := h; rfl) | (obtain ⟨_, _, _, _, _, rfl, _⟩ := h; rfl) | (obtain ⟨_, _, _, _, _, _, rfl, _⟩ := h; rfl) | (obtain ⟨_, _, _, _, _, _, _, rfl, _⟩ := h; rfl) | (obtain ⟨_, _, _, _, _, _, _, _, rfl, _⟩ := h; rfl) | (obtain ⟨_, _, _, _, _, _, _, _, _, rfl, _⟩ := h; rfl) | (obtain ⟨_, _, _, _, _, _, _, _, _, _, rfl, _⟩ := h; rfl) | (obtain ⟨_, _, _, _, _, _, _, _, _, _, _, rfl, _⟩ := h; rfl) | (obtain ⟨_, _, _, _, _, _, _, _, _, _, _, _, rfl, _⟩ := h; rfl) | (obtain ⟨_, _, _, _, _, _, _, _, _, _, _, _, _, rfl, _⟩ := h; rfl) | (obtain ⟨_, _, _, _, _, _, _, _, _, _, _, _, _, _, rfl, _⟩ := h; rfl) | (obtain ⟨_, _, _, _, _, _, _, _, _, _, _, _, _, _, _, rfl, _⟩ := h; rfl) | (obtain ⟨_, _, _, _, _, _, _, _, _, _, _, _, _, _, _, _, rfl, _⟩ := h; rfl) | (obtain ⟨_, _, _, _, _, _, _, _, _, _, _, _, _, _, _, _, _, rfl, _⟩ := h; rfl)
  · exact (fss_one (fs_ret (fe_tyEq mInt (pe_typeOf (by rfl) T.n_type (fe_var (pv 0))) (pe_bltn (by rfl) T.n_int PyProof.Rows.boot_int rfl) (nomark _))))
theorem sc_is_fraction : FnScope ["value", "above", "below"] ["value"] (defScope (top 10)) := ⟨rfl, rfl, rfl, by decide +kernel, rfl, by decide +kernel, by decide +kernel⟩
theorem ok_is_fraction (T : Tx K mg a fd) : FnG P w K mg base CX0 2 (a 10) (fd 10) ["value"] (cSp s_is_fraction) := by
  refine fnD_of (t := t_is_fraction) T.F_is_fraction sc_is_fraction (fun ds n R h => ?_) (fun cdv A out s H E hr => ?_) p_is_fraction
  · first | (obtain ⟨rfl, _⟩ := h; rfl) | (obtain ⟨_, rfl, _⟩ := h; rfl) | (obtain ⟨_, _, rfl, _⟩ := h; rfl) | (obtain ⟨_, _, _, rfl, _⟩ := h; rfl) | (obtain ⟨_, _, _, _, rfl, _⟩ := h; rfl) | (obtain ⟨_, _, _, _, _, rfl, _⟩ := h; rfl) | (obtain ⟨_, _, _, _, _, _, rfl, _⟩ := h; rfl) | (obtain ⟨_, _, _, _, _, _, _, rfl, _⟩ := h; rfl) | (obtain ⟨_, _, _, _, _, _, _, _, rfl, _⟩ := h; rfl) | (obtain ⟨_, _, _, _, _, _, _, _, _, rfl, _⟩ := h; rfl) | (obtain ⟨_, _, _, _, _, _, _, _, _, _, rfl, _⟩ := h; rfl) | (obtain ⟨_, _, _, _, _, _, _, _, _, _, _, rfl, _⟩ := h; rfl) | (obtain ⟨_, _, _, _, _, _, _, _, _, _, _, _, rfl, _⟩ := h; rfl) | (obtain ⟨_, _, _, _, _, _, _, _, _, _, _, _, _, rfl, _⟩ := h; rfl) | (obtain ⟨_, _, _, _, _, _, _, _, _, _, _, _, _, _, rfl, _⟩ := h; rfl) | (obtain ⟨_, _, _, _, _, _, _, _, _, _, _, _, _, _, _, rfl, _⟩ := h; rfl) | (obtain ⟨_, _, _, _, _, _, _, _, _, _, _, _, _, _, _, _, rfl, _⟩ := h; rfl) | (obtain ⟨_, _, _, _, _, _, _, _, _, _, _, _, _, _, _, _, _, rfl, _⟩ := h; rfl)
  · exact (fss_cons (fs_if (PW.pt (fw_or (ft_tyNe hr mTuple (pe_typeOf (by rfl) T.n_type (fe_var (pv 0))) (pe_bltn (by rfl) T.n_tuple PyProof.Rows.boot_tuple rfl) (nomark _)) (fw_or1 (ft_cmp (op_neD hr.rm.units) (ok_ne _) (fe_cb (pe_callB call_len_seq (by rfl) T.n_len PySem.boot_len (fa_cons (fe_var (pv 0)) fa_nil)) (ok_len _)) fe_int (nomark _))))) (fss_one (fs_ret fe_bl)) fss_nil)
      (fss_cons (fs_unp (is := [1, 2]) (k := 2) rfl (ps_asg (fe_var (pv 0)) (pg_tup rfl (pgs_cons (pg_name (i := 1) sc_is_fraction.nd rfl (by first | exact Or.inl rfl | exact Or.inr rfl)) (pgs_cons (pg_name (i := 2) sc_is_fraction.nd rfl (by first | exact Or.inl rfl | exact Or.inr rfl)) pgs_nil)))))
      (fss_cons (fs_if (PW.pt (fw_or (ft_not (ft_val (fe_call (ok_is_integer T) (hr.mono (by decide)) (by rfl) T.g_is_integer T.F_is_integer.kp T.b_is_integer (fa_cons (fe_var (pv 1)) fa_nil)))) (fw_or1 (ft_not (ft_val (fe_call (ok_is_integer T) (hr.mono (by decide)) (by rfl) T.g_is_integer T.F_is_integer.kp T.b_is_integer (fa_cons (fe_var (pv 2)) fa_nil))))))) (fss_one (fs_ret fe_bl)) fss_nil)
      (fss_one (fs_ret (fe_and (fe_chain op_le op_le ok_le ok_le (fe_neg (fe_cint (by rfl) T.c_MOST)) (fe_var (pv 1)) (fe_cint (by rfl) T.c_MOST)) (fe_and (fe_chain op_le op_le ok_le ok_le fe_int (fe_var (pv 2)) (fe_cint (by rfl) T.c_MOST)) (fe_one (fe_cmp (op_eqD hr.rm.units) (ok_eq _) (fe_cb (pe_callBfun cr_gcd (by rfl) T.m_gcd (fa_cons (fe_var (pv 1)) (fa_cons (fe_var (pv 2)) fa_nil))) ok_gcd) fe_int (nomark _))))))))))
theorem sc_is_part : FnScope ["value"] ["value"] (defScope (top 19)) := ⟨rfl, rfl, rfl, by decide +kernel, rfl, by decide +kernel, by decide +kernel⟩
theorem ok_is_part (T : Tx K mg a fd) : FnG P w K mg base CX0 3 (a 19) (fd 19) ["value"] (cSp s_is_part) := by
  refine fnD_of (t := t_is_part) T.F_is_part sc_is_part (fun ds n R h => ?_) (fun cdv A out s H E hr => ?_) p_is_part
  · first | (obtain ⟨rfl, _⟩ := h; rfl) | (obtain ⟨_, rfl, _⟩ := h; rfl) | (obtain ⟨_, _, rfl, _⟩ := h; rfl) | (obtain ⟨_, _, _, rfl, _⟩ := h; rfl) | (obtain ⟨_, _, _, _, rfl, _⟩ := h; rfl) | (obtain ⟨_, _, _, _, _, rfl, _⟩ := h; rfl) | (obtain ⟨_, _, _, _, _, _, rfl, _⟩ := h; rfl) | (obtain ⟨_, _, _, _, _, _, _, rfl, _⟩ := h; rfl) | (obtain ⟨_, _, _, _, _, _, _, _, rfl, _⟩ := h; rfl) | (obtain ⟨_, _, _, _, _, _, _, _, _, rfl, _⟩ := h; rfl) | (obtain ⟨_, _, _, _, _, _, _, _, _, _, rfl, _⟩ := h; rfl) | (obtain ⟨_, _, _, _, _, _, _, _, _, _, _, rfl, _⟩ := h; rfl) | (obtain ⟨_, _, _, _, _, _, _, _, _, _, _, _, rfl, _⟩ := h; rfl) | (obtain ⟨_, _, _, _, _, _, _, _, _, _, _, _, _, rfl, _⟩ := h; rfl) | (obtain ⟨_, _, _, _, _, _, _, _, _, _, _, _, _, _, rfl, _⟩ := h; rfl) | (obtain ⟨_, _, _, _, _, _, _, _, _, _, _, _, _, _, _, rfl, _⟩ := h; rfl) | (obtain ⟨_, _, _, _, _, _, _, _, _, _, _, _, _, _, _, _, rfl, _⟩ := h; rfl) | (obtain ⟨_, _, _, _, _, _, _, _, _, _, _, _, _, _, _, _, _, rfl, _⟩ := h; rfl)
  · exact (fss_one (fs_ret (fe_and (fe_call (ok_is_fraction T) (hr.mono (by decide)) (by rfl) T.g_is_fraction T.F_is_fraction.kp T.b_is_fraction (fa_cons (fe_var (pv 0)) fa_nil)) (fe_one (fe_chain3 op_lt op_lt op_le ok_lt ok_lt ok_le fe_int (fe_ixT (fe_var (pv 0)) fe_int (fun _ _ => rfl)) (fe_ixT (fe_var (pv 0)) fe_int (fun _ _ => rfl)) (fe_cint (by rfl) T.c_MOST_BELOW_OF_PART))))))
theorem sc_need_part : FnScope ["part"] ["part"] (defScope (top 20)) := ⟨rfl, rfl, rfl, by decide +kernel, rfl, by decide +kernel, by decide +kernel⟩
theorem ok_need_part (T : Tx K mg a fd) : FnG P w K mg base CX0 4 (a 20) (fd 20) ["part"] (cSp s_need_part) := by
  refine fnD_of (t := t_need_part) T.F_need_part sc_need_part (fun ds n R h => ?_) (fun cdv A out s H E hr => ?_) p_need_part
  · first | (obtain ⟨rfl, _⟩ := h; rfl) | (obtain ⟨_, rfl, _⟩ := h; rfl) | (obtain ⟨_, _, rfl, _⟩ := h; rfl) | (obtain ⟨_, _, _, rfl, _⟩ := h; rfl) | (obtain ⟨_, _, _, _, rfl, _⟩ := h; rfl) | (obtain ⟨_, _, _, _, _, rfl, _⟩ := h; rfl) | (obtain ⟨_, _, _, _, _, _, rfl, _⟩ := h; rfl) | (obtain ⟨_, _, _, _, _, _, _, rfl, _⟩ := h; rfl) | (obtain ⟨_, _, _, _, _, _, _, _, rfl, _⟩ := h; rfl) | (obtain ⟨_, _, _, _, _, _, _, _, _, rfl, _⟩ := h; rfl) | (obtain ⟨_, _, _, _, _, _, _, _, _, _, rfl, _⟩ := h; rfl) | (obtain ⟨_, _, _, _, _, _, _, _, _, _, _, rfl, _⟩ := h; rfl) | (obtain ⟨_, _, _, _, _, _, _, _, _, _, _, _, rfl, _⟩ := h; rfl) | (obtain ⟨_, _, _, _, _, _, _, _, _, _, _, _, _, rfl, _⟩ := h; rfl) | (obtain ⟨_, _, _, _, _, _, _, _, _, _, _, _, _, _, rfl, _⟩ := h; rfl) | (obtain ⟨_, _, _, _, _, _, _, _, _, _, _, _, _, _, _, rfl, _⟩ := h; rfl) | (obtain ⟨_, _, _, _, _, _, _, _, _, _, _, _, _, _, _, _, rfl, _⟩ := h; rfl) | (obtain ⟨_, _, _, _, _, _, _, _, _, _, _, _, _, _, _, _, _, rfl, _⟩ := h; rfl)
  · exact (fss_cons (fs_if (ft_not (ft_val (fe_call (ok_is_part T) (hr.mono (by decide)) (by rfl) T.g_is_part T.F_is_part.kp T.b_is_part (fa_cons (fe_var (pv 0)) fa_nil)))) (fss_one fs_never) fss_nil)
      (fss_one (fs_ret (fe_var (pv 0)))))
theorem sc_is_any_mean : FnScope ["value"] ["value"] (defScope (top 13)) := ⟨rfl, rfl, rfl, by decide +kernel, rfl, by decide +kernel, by decide +kernel⟩
theorem ok_is_any_mean (T : Tx K mg a fd) : FnG P w K mg base CX0 3 (a 13) (fd 13) ["value"] (cSp s_is_any_mean) := by
  refine fnD_of (t := t_is_any_mean) T.F_is_any_mean sc_is_any_mean (fun ds n R h => ?_) (fun cdv A out s H E hr => ?_) p_is_any_mean
  · first | (obtain ⟨rfl, _⟩ := h; rfl) | (obtain ⟨_, rfl, _⟩ := h; rfl) | (obtain ⟨_, _, rfl, _⟩ := h; rfl) | (obtain ⟨_, _, _, rfl, _⟩ := h; rfl) | (obtain ⟨_, _, _, _, rfl, _⟩ := h; rfl) | (obtain ⟨_, _, _, _, _, rfl, _⟩ := h; rfl) | (obtain ⟨_, _, _, _, _, _, rfl, _⟩ := h; rfl) | (obtain ⟨_, _, _, _, _, _, _, rfl, _⟩ := h; rfl) | (obtain ⟨_, _, _, _, _, _, _, _, rfl, _⟩ := h; rfl) | (obtain ⟨_, _, _, _, _, _, _, _, _, rfl, _⟩ := h; rfl) | (obtain ⟨_, _, _, _, _, _, _, _, _, _, rfl, _⟩ := h; rfl) | (obtain ⟨_, _, _, _, _, _, _, _, _, _, _, rfl, _⟩ := h; rfl) | (obtain ⟨_, _, _, _, _, _, _, _, _, _, _, _, rfl, _⟩ := h; rfl) | (obtain ⟨_, _, _, _, _, _, _, _, _, _, _, _, _, rfl, _⟩ := h; rfl) | (obtain ⟨_, _, _, _, _, _, _, _, _, _, _, _, _, _, rfl, _⟩ := h; rfl) | (obtain ⟨_, _, _, _, _, _, _, _, _, _, _, _, _, _, _, rfl, _⟩ := h; rfl) | (obtain ⟨_, _, _, _, _, _, _, _, _, _, _, _, _, _, _, _, rfl, _⟩ := h; rfl) | (obtain ⟨_, _, _, _, _, _, _, _, _, _, _, _, _, _, _, _, _, rfl, _⟩ := h; rfl)
  · exact (fss_one (fs_ret (fe_and (fe_call (ok_is_fraction T) (hr.mono (by decide)) (by rfl) T.g_is_fraction T.F_is_fraction.kp T.b_is_fraction (fa_cons (fe_var (pv 0)) fa_nil)) (fe_and (fe_cmp op_le ok_le (fe_ixT (fe_var (pv 0)) fe_int (fun _ _ => rfl)) (fe_ixT (fe_var (pv 0)) fe_int (fun _ _ => rfl)) (nomark _)) (fe_one (fe_cmp op_le ok_le (fe_ixT (fe_var (pv 0)) fe_int (fun _ _ => rfl)) (fe_cint (by rfl) T.c_MOST_BELOW_OF_MEAN) (nomark _)))))))
theorem sc_need_mean : FnScope ["mean"] ["mean"] (defScope (top 14)) := ⟨rfl, rfl, rfl, by decide +kernel, rfl, by decide +kernel, by decide +kernel⟩
theorem ok_need_mean (T : Tx K mg a fd) : FnG P w K mg base CX0 4 (a 14) (fd 14) ["mean"] (cSp s_need_mean) := by
  refine fnD_of (t := t_need_mean) T.F_need_mean sc_need_mean (fun ds n R h => ?_) (fun cdv A out s H E hr => ?_) p_need_mean
  · first | (obtain ⟨rfl, _⟩ := h; rfl) | (obtain ⟨_, rfl, _⟩ := h; rfl) | (obtain ⟨_, _, rfl, _⟩ := h; rfl) | (obtain ⟨_, _, _, rfl, _⟩ := h; rfl) | (obtain ⟨_, _, _, _, rfl, _⟩ := h; rfl) | (obtain ⟨_, _, _, _, _, rfl, _⟩ := h; rfl) | (obtain ⟨_, _, _, _, _, _, rfl, _⟩ := h; rfl) | (obtain ⟨_, _, _, _, _, _, _, rfl, _⟩ := h; rfl) | (obtain ⟨_, _, _, _, _, _, _, _, rfl, _⟩ := h; rfl) | (obtain ⟨_, _, _, _, _, _, _, _, _, rfl, _⟩ := h; rfl) | (obtain ⟨_, _, _, _, _, _, _, _, _, _, rfl, _⟩ := h; rfl) | (obtain ⟨_, _, _, _, _, _, _, _, _, _, _, rfl, _⟩ := h; rfl) | (obtain ⟨_, _, _, _, _, _, _, _, _, _, _, _, rfl, _⟩ := h; rfl) | (obtain ⟨_, _, _, _, _, _, _, _, _, _, _, _, _, rfl, _⟩ := h; rfl) | (obtain ⟨_, _, _, _, _, _, _, _, _, _, _, _, _, _, rfl, _⟩ := h; rfl) | (obtain ⟨_, _, _, _, _, _, _, _, _, _, _, _, _, _, _, rfl, _⟩ := h; rfl) | (obtain ⟨_, _, _, _, _, _, _, _, _, _, _, _, _, _, _, _, rfl, _⟩ := h; rfl) | (obtain ⟨_, _, _, _, _, _, _, _, _, _, _, _, _, _, _, _, _, rfl, _⟩ := h; rfl)
  · exact (fss_cons (fs_if (ft_not (ft_val (fe_call (ok_is_any_mean T) (hr.mono (by decide)) (by rfl) T.g_is_any_mean T.F_is_any_mean.kp T.b_is_any_mean (fa_cons (fe_var (pv 0)) fa_nil)))) (fss_one fs_never) fss_nil)
      (fss_one (fs_ret (fe_var (pv 0)))))
theorem sc_need_part_and_mean : FnScope ["part", "mean"] ["part", "mean"] (defScope (top 28)) := ⟨rfl, rfl, rfl, by decide +kernel, rfl, by decide +kernel, by decide +kernel⟩
theorem ok_need_part_and_mean (T : Tx K mg a fd) : FnG P w K mg base CX0 5 (a 28) (fd 28) ["part", "mean"] (cSp s_need_part_and_mean) := by
  refine fnD_of (t := t_need_part_and_mean) T.F_need_part_and_mean sc_need_part_and_mean (fun ds n R h => ?_) (fun cdv A out s H E hr => ?_) p_need_part_and_mean
  · first | (obtain ⟨rfl, _⟩ := h; rfl) | (obtain ⟨_, rfl, _⟩ := h; rfl) | (obtain ⟨_, _, rfl, _⟩ := h; rfl) | (obtain ⟨_, _, _, rfl, _⟩ := h; rfl) | (obtain ⟨_, _, _, _, rfl, _⟩ := h; rfl) | (obtain ⟨_, _, _, _, _, rfl, _⟩ := h; rfl) | (obtain ⟨_, _, _, _, _, _, rfl, _⟩ := h; rfl) | (obtain ⟨_, _, _, _, _, _, _, rfl, _⟩ := h; rfl) | (obtain ⟨_, _, _, _, _, _, _, _, rfl, _⟩ := h; rfl) | (obtain ⟨_, _, _, _, _, _, _, _, _, rfl, _⟩ := h; rfl) | (obtain ⟨_, _, _, _, _, _, _, _, _, _, rfl, _⟩ := h; rfl) | (obtain ⟨_, _, _, _, _, _, _, _, _, _, _, rfl, _⟩ := h; rfl) | (obtain ⟨_, _, _, _, _, _, _, _, _, _, _, _, rfl, _⟩ := h; rfl) | (obtain ⟨_, _, _, _, _, _, _, _, _, _, _, _, _, rfl, _⟩ := h; rfl) | (obtain ⟨_, _, _, _, _, _, _, _, _, _, _, _, _, _, rfl, _⟩ := h; rfl) | (obtain ⟨_, _, _, _, _, _, _, _, _, _, _, _, _, _, _, rfl, _⟩ := h; rfl) | (obtain ⟨_, _, _, _, _, _, _, _, _, _, _, _, _, _, _, _, rfl, _⟩ := h; rfl) | (obtain ⟨_, _, _, _, _, _, _, _, _, _, _, _, _, _, _, _, _, rfl, _⟩ := h; rfl)
  · exact (fss_cons (fs_expr (fe_call (ok_need_part T) (hr.mono (by decide)) (by rfl) T.g_need_part T.F_need_part.kp T.b_need_part (fa_cons (fe_var (pv 0)) fa_nil)))
      (fss_one (fs_expr (fe_call (ok_need_mean T) (hr.mono (by decide)) (by rfl) T.g_need_mean T.F_need_mean.kp T.b_need_mean (fa_cons (fe_var (pv 1)) fa_nil)))))
theorem sc_power : FnScope ["base", "number", "result", "square"] ["base", "number"] (defScope (top 3)) := ⟨rfl, rfl, rfl, by decide +kernel, rfl, by decide +kernel, by decide +kernel⟩
theorem ok_power (T : Tx K mg a fd) : FnG P w K mg base CX0 1 (a 3) (fd 3) ["base", "number"] (cSp s_power) := by
  refine fnD_of (t := t_power) T.F_power sc_power (fun ds n R h => ?_) (fun cdv A out s H E hr => ?_) p_power
  · first | (obtain ⟨rfl, _⟩ := h; rfl) | (obtain ⟨_, rfl, _⟩ := h; rfl) | (obtain ⟨_, _, rfl, _⟩ := h; rfl) | (obtain ⟨_, _, _, rfl, _⟩ := h; rfl) | (obtain ⟨_, _, _, _, rfl, _⟩ := h; rfl) | (obtain ⟨_, _, _, _, _, rfl, _⟩ := h; rfl) | (obtain ⟨_, _, _, _, _, _, rfl, _⟩ := h; rfl) | (obtain ⟨_, _, _, _, _, _, _, rfl, _⟩ := h; rfl) | (obtain ⟨_, _, _, _, _, _, _, _, rfl, _⟩ := h; rfl) | (obtain ⟨_, _, _, _, _, _, _, _, _, rfl, _⟩ := h; rfl) | (obtain ⟨_, _, _, _, _, _, _, _, _, _, rfl, _⟩ := h; rfl) | (obtain ⟨_, _, _, _, _, _, _, _, _, _, _, rfl, _⟩ := h; rfl) | (obtain ⟨_, _, _, _, _, _, _, _, _, _, _, _, rfl, _⟩ := h; rfl) | (obtain ⟨_, _, _, _, _, _, _, _, _, _, _, _, _, rfl, _⟩ := h; rfl) | (obtain ⟨_, _, _, _, _, _, _, _, _, _, _, _, _, _, rfl, _⟩ := h; rfl) | (obtain ⟨_, _, _, _, _, _, _, _, _, _, _, _, _, _, _, rfl, _⟩ := h; rfl) | (obtain ⟨_, _, _, _, _, _, _, _, _, _, _, _, _, _, _, _, rfl, _⟩ := h; rfl) | (obtain ⟨_, _, _, _, _, _, _, _, _, _, _, _, _, _, _, _, _, rfl, _⟩ := h; rfl)
  · exact (fss_cons (fs_set (ps_set (i := 2) sc_power.nd rfl (by first | exact Or.inl rfl | exact Or.inr rfl) fe_int))
      (fss_cons (fs_set (ps_set (i := 3) sc_power.nd rfl (by first | exact Or.inl rfl | exact Or.inr rfl) (fe_var (pv 0))))
      (fss_cons (fs_while (ps_while PassesOwn.never (ft_cmp op_gt ok_gt (fe_var (pv 1)) fe_int (nomark _)) (fss_cons (fs_if (ft_cmp (op_eqD hr.rm.units) (ok_eq _) (fe_odd (fe_var (pv 1)) fe_int) fe_int (nomark _)) (fss_one (fs_set (ps_set (i := 2) sc_power.nd rfl (by first | exact Or.inl rfl | exact Or.inr rfl) (fe_mul (fe_var (pv 2)) (fe_var (pv 3)))))) fss_nil)
      (fss_cons (fs_set (ps_set (i := 1) sc_power.nd rfl (by first | exact Or.inl rfl | exact Or.inr rfl) (fe_half (fe_var (pv 1)) fe_int)))
      (fss_one (fs_if (ft_cmp op_gt ok_gt (fe_var (pv 1)) fe_int (nomark _)) (fss_one (fs_set (ps_set (i := 3) sc_power.nd rfl (by first | exact Or.inl rfl | exact Or.inr rfl) (fe_mul (fe_var (pv 3)) (fe_var (pv 3)))))) fss_nil))))))
      (fss_one (fs_ret (fe_var (pv 2)))))))
theorem sc_powers_apart : FnScope ["part", "number"] ["part", "number"] (defScope (top 24)) := ⟨rfl, rfl, rfl, by decide +kernel, rfl, by decide +kernel, by decide +kernel⟩
theorem ok_powers_apart (T : Tx K mg a fd) : FnG P w K mg base CX0 2 (a 24) (fd 24) ["part", "number"] (cSp s_powers_apart) := by
  refine fnD_of (t := t_powers_apart) T.F_powers_apart sc_powers_apart (fun ds n R h => ?_) (fun cdv A out s H E hr => ?_) p_powers_apart
  · first | (obtain ⟨rfl, _⟩ := h; rfl) | (obtain ⟨_, rfl, _⟩ := h; rfl) | (obtain ⟨_, _, rfl, _⟩ := h; rfl) | (obtain ⟨_, _, _, rfl, _⟩ := h; rfl) | (obtain ⟨_, _, _, _, rfl, _⟩ := h; rfl) | (obtain ⟨_, _, _, _, _, rfl, _⟩ := h; rfl) | (obtain ⟨_, _, _, _, _, _, rfl, _⟩ := h; rfl) | (obtain ⟨_, _, _, _, _, _, _, rfl, _⟩ := h; rfl) | (obtain ⟨_, _, _, _, _, _, _, _, rfl, _⟩ := h; rfl) | (obtain ⟨_, _, _, _, _, _, _, _, _, rfl, _⟩ := h; rfl) | (obtain ⟨_, _, _, _, _, _, _, _, _, _, rfl, _⟩ := h; rfl) | (obtain ⟨_, _, _, _, _, _, _, _, _, _, _, rfl, _⟩ := h; rfl) | (obtain ⟨_, _, _, _, _, _, _, _, _, _, _, _, rfl, _⟩ := h; rfl) | (obtain ⟨_, _, _, _, _, _, _, _, _, _, _, _, _, rfl, _⟩ := h; rfl) | (obtain ⟨_, _, _, _, _, _, _, _, _, _, _, _, _, _, rfl, _⟩ := h; rfl) | (obtain ⟨_, _, _, _, _, _, _, _, _, _, _, _, _, _, _, rfl, _⟩ := h; rfl) | (obtain ⟨_, _, _, _, _, _, _, _, _, _, _, _, _, _, _, _, rfl, _⟩ := h; rfl) | (obtain ⟨_, _, _, _, _, _, _, _, _, _, _, _, _, _, _, _, _, rfl, _⟩ := h; rfl)
  · exact (fss_one (fs_ret (fe_sub (fe_call (ok_power T) (hr.mono (by decide)) (by rfl) T.g_power T.F_power.kp T.b_power (fa_cons (fe_ixT (fe_var (pv 0)) fe_int (fun _ _ => rfl)) (fa_cons (fe_var (pv 1)) fa_nil))) (fe_call (ok_power T) (hr.mono (by decide)) (by rfl) T.g_power T.F_power.kp T.b_power (fa_cons (fe_ixT (fe_var (pv 0)) fe_int (fun _ _ => rfl)) (fa_cons (fe_var (pv 1)) fa_nil))))))
theorem sc_weighed_sum : FnScope ["above", "below", "things", "total", "weight", "ticks"] ["above", "below", "things"] (defScope (top 22)) := ⟨rfl, rfl, rfl, by decide +kernel, rfl, by decide +kernel, by decide +kernel⟩
theorem ok_weighed_sum (T : Tx K mg a fd) : FnG P w K mg base CX0 1 (a 22) (fd 22) ["above", "below", "things"] (cSp s_weighed_sum) := by
  refine fnD_of (t := t_weighed_sum) T.F_weighed_sum sc_weighed_sum (fun ds n R h => ?_) (fun cdv A out s H E hr => ?_) p_weighed_sum
  · first | (obtain ⟨rfl, _⟩ := h; rfl) | (obtain ⟨_, rfl, _⟩ := h; rfl) | (obtain ⟨_, _, rfl, _⟩ := h; rfl) | (obtain ⟨_, _, _, rfl, _⟩ := h; rfl) | (obtain ⟨_, _, _, _, rfl, _⟩ := h; rfl) | (obtain ⟨_, _, _, _, _, rfl, _⟩ := h; rfl) | (obtain ⟨_, _, _, _, _, _, rfl, _⟩ := h; rfl) | (obtain ⟨_, _, _, _, _, _, _, rfl, _⟩ := h; rfl) | (obtain ⟨_, _, _, _, _, _, _, _, rfl, _⟩ := h; rfl) | (obtain ⟨_, _, _, _, _, _, _, _, _, rfl, _⟩ := h; rfl) | (obtain ⟨_, _, _, _, _, _, _, _, _, _, rfl, _⟩ := h; rfl) | (obtain ⟨_, _, _, _, _, _, _, _, _, _, _, rfl, _⟩ := h; rfl) | (obtain ⟨_, _, _, _, _, _, _, _, _, _, _, _, rfl, _⟩ := h; rfl) | (obtain ⟨_, _, _, _, _, _, _, _, _, _, _, _, _, rfl, _⟩ := h; rfl) | (obtain ⟨_, _, _, _, _, _, _, _, _, _, _, _, _, _, rfl, _⟩ := h; rfl) | (obtain ⟨_, _, _, _, _, _, _, _, _, _, _, _, _, _, _, rfl, _⟩ := h; rfl) | (obtain ⟨_, _, _, _, _, _, _, _, _, _, _, _, _, _, _, _, rfl, _⟩ := h; rfl) | (obtain ⟨_, _, _, _, _, _, _, _, _, _, _, _, _, _, _, _, _, rfl, _⟩ := h; rfl)
  · exact (fss_cons (fs_set (ps_set (i := 3) sc_weighed_sum.nd rfl (by first | exact Or.inl rfl | exact Or.inr rfl) fe_int))
      (fss_cons (fs_set (ps_set (i := 4) sc_weighed_sum.nd rfl (by first | exact Or.inl rfl | exact Or.inr rfl) fe_int))
      (fss_cons (fs_forT (i := 5) (ps_for PassesOwn.never rfl (pi_tup (fe_var (pv 2))) (pg_name (i := 5) sc_weighed_sum.nd rfl (by first | exact Or.inl rfl | exact Or.inr rfl)) (fss_cons (fs_set (ps_set (i := 3) sc_weighed_sum.nd rfl (by first | exact Or.inl rfl | exact Or.inr rfl) (fe_add (fe_mul (fe_var (pv 3)) (fe_var (pv 0))) (fe_mul (fe_var (pv 5)) (fe_var (pv 4))))))
      (fss_one (fs_set (ps_set (i := 4) sc_weighed_sum.nd rfl (by first | exact Or.inl rfl | exact Or.inr rfl) (fe_mul (fe_var (pv 4)) (fe_var (pv 1)))))))))
      (fss_one (fs_ret (fe_var (pv 3)))))))
theorem sc_ticks_up_to : FnScope ["mean", "number"] ["mean", "number"] (defScope (top 15)) := ⟨rfl, rfl, rfl, by decide +kernel, rfl, by decide +kernel, by decide +kernel⟩
theorem ok_ticks_up_to (T : Tx K mg a fd) : FnG P w K mg base CX0 1 (a 15) (fd 15) ["mean", "number"] (cSp s_ticks_up_to) := by
  refine fnD_of (t := t_ticks_up_to) T.F_ticks_up_to sc_ticks_up_to (fun ds n R h => ?_) (fun cdv A out s H E hr => ?_) p_ticks_up_to
  · first | (obtain ⟨rfl, _⟩ := h; rfl) | (obtain ⟨_, rfl, _⟩ := h; rfl) | (obtain ⟨_, _, rfl, _⟩ := h; rfl) | (obtain ⟨_, _, _, rfl, _⟩ := h; rfl) | (obtain ⟨_, _, _, _, rfl, _⟩ := h; rfl) | (obtain ⟨_, _, _, _, _, rfl, _⟩ := h; rfl) | (obtain ⟨_, _, _, _, _, _, rfl, _⟩ := h; rfl) | (obtain ⟨_, _, _, _, _, _, _, rfl, _⟩ := h; rfl) | (obtain ⟨_, _, _, _, _, _, _, _, rfl, _⟩ := h; rfl) | (obtain ⟨_, _, _, _, _, _, _, _, _, rfl, _⟩ := h; rfl) | (obtain ⟨_, _, _, _, _, _, _, _, _, _, rfl, _⟩ := h; rfl) | (obtain ⟨_, _, _, _, _, _, _, _, _, _, _, rfl, _⟩ := h; rfl) | (obtain ⟨_, _, _, _, _, _, _, _, _, _, _, _, rfl, _⟩ := h; rfl) | (obtain ⟨_, _, _, _, _, _, _, _, _, _, _, _, _, rfl, _⟩ := h; rfl) | (obtain ⟨_, _, _, _, _, _, _, _, _, _, _, _, _, _, rfl, _⟩ := h; rfl) | (obtain ⟨_, _, _, _, _, _, _, _, _, _, _, _, _, _, _, rfl, _⟩ := h; rfl) | (obtain ⟨_, _, _, _, _, _, _, _, _, _, _, _, _, _, _, _, rfl, _⟩ := h; rfl) | (obtain ⟨_, _, _, _, _, _, _, _, _, _, _, _, _, _, _, _, _, rfl, _⟩ := h; rfl)
  · exact (fss_one (fs_ret (fe_neg (fe_fdiv (fe_mul (fe_neg (fe_var (pv 1))) (fe_ixT (fe_var (pv 0)) fe_int (fun _ _ => rfl))) (fe_ixT (fe_var (pv 0)) fe_int (fun _ _ => rfl))))))
theorem sc_things_of : FnScope ["mean", "sums", "at"] ["mean"] (defScope (top 16)) := ⟨rfl, rfl, rfl, by decide +kernel, rfl, by decide +kernel, by decide +kernel⟩
theorem ok_things_of (T : Tx K mg a fd) : FnG P w K mg base CX0 2 (a 16) (fd 16) ["mean"] (cSp s_things_of) := by
  refine fnD_of (t := t_things_of) T.F_things_of sc_things_of (fun ds n R h => ?_) (fun cdv A out s H E hr => ?_) p_things_of
  · first | (obtain ⟨rfl, _⟩ := h; rfl) | (obtain ⟨_, rfl, _⟩ := h; rfl) | (obtain ⟨_, _, rfl, _⟩ := h; rfl) | (obtain ⟨_, _, _, rfl, _⟩ := h; rfl) | (obtain ⟨_, _, _, _, rfl, _⟩ := h; rfl) | (obtain ⟨_, _, _, _, _, rfl, _⟩ := h; rfl) | (obtain ⟨_, _, _, _, _, _, rfl, _⟩ := h; rfl) | (obtain ⟨_, _, _, _, _, _, _, rfl, _⟩ := h; rfl) | (obtain ⟨_, _, _, _, _, _, _, _, rfl, _⟩ := h; rfl) | (obtain ⟨_, _, _, _, _, _, _, _, _, rfl, _⟩ := h; rfl) | (obtain ⟨_, _, _, _, _, _, _, _, _, _, rfl, _⟩ := h; rfl) | (obtain ⟨_, _, _, _, _, _, _, _, _, _, _, rfl, _⟩ := h; rfl) | (obtain ⟨_, _, _, _, _, _, _, _, _, _, _, _, rfl, _⟩ := h; rfl) | (obtain ⟨_, _, _, _, _, _, _, _, _, _, _, _, _, rfl, _⟩ := h; rfl) | (obtain ⟨_, _, _, _, _, _, _, _, _, _, _, _, _, _, rfl, _⟩ := h; rfl) | (obtain ⟨_, _, _, _, _, _, _, _, _, _, _, _, _, _, _, rfl, _⟩ := h; rfl) | (obtain ⟨_, _, _, _, _, _, _, _, _, _, _, _, _, _, _, _, rfl, _⟩ := h; rfl) | (obtain ⟨_, _, _, _, _, _, _, _, _, _, _, _, _, _, _, _, _, rfl, _⟩ := h; rfl)
  · exact (fss_cons (fs_set (ps_set (i := 1) sc_things_of.nd rfl (by first | exact Or.inl rfl | exact Or.inr rfl) (fe_lcR (i := 2) (pe_lc (own := [("at", 2)]) (g := gName 2) rfl sc_things_of.nd (pi_range1 (by rfl) T.n_range (pa_cons (fe_add (fe_ixT (fe_var (pv 0)) fe_int (fun _ _ => rfl)) fe_int) pa_nil)) (blkOk_by (N := ["mean", "sums", "at"]) (sc := defScope (top 16)) (by decide +kernel)) (fun _ _ _ _ _ => (pg_name (i := 2) sc_things_of.nd rfl (by first | exact Or.inl rfl | exact Or.inr rfl))) (fun _ _ _ _ _ => ptd_nil) (fun _ _ _ _ _ => (fe_call (ok_ticks_up_to T) (hr.mono (by decide)) (by rfl) T.g_ticks_up_to T.F_ticks_up_to.kp T.b_ticks_up_to (fa_cons (fe_var (pv 0)) (fa_cons (fe_var (pv 2)) fa_nil))))))))
      (fss_one (fs_ret (fe_cb (pe_callTy call_tuple_of (by rfl) T.n_tuple PyProof.Rows.boot_tuple (fa_cons (fe_lcR (i := 2) (pe_lc (own := [("at", 2)]) (g := gName 2) rfl sc_things_of.nd (pi_range1 (by rfl) T.n_range (pa_cons (fe_ixT (fe_var (pv 0)) fe_int (fun _ _ => rfl)) pa_nil)) (blkOk_by (N := ["mean", "sums", "at"]) (sc := defScope (top 16)) (by decide +kernel)) (fun _ _ _ _ _ => (pg_name (i := 2) sc_things_of.nd rfl (by first | exact Or.inl rfl | exact Or.inr rfl))) (fun _ _ _ _ _ => ptd_nil) (fun _ _ _ _ _ => (fe_sub (fe_ixL (fe_var (pv 1)) (fe_add (fe_var (pv 2)) fe_int) (fun _ _ => rfl)) (fe_ixL (fe_var (pv 1)) (fe_var (pv 2)) (fun _ _ => rfl)))))) fa_nil)) (ok_tupof _)))))
theorem sc_rhythm_sum : FnScope ["part", "mean"] ["part", "mean"] (defScope (top 23)) := ⟨rfl, rfl, rfl, by decide +kernel, rfl, by decide +kernel, by decide +kernel⟩
theorem ok_rhythm_sum (T : Tx K mg a fd) : FnG P w K mg base CX0 3 (a 23) (fd 23) ["part", "mean"] (cSp s_rhythm_sum) := by
  refine fnD_of (t := t_rhythm_sum) T.F_rhythm_sum sc_rhythm_sum (fun ds n R h => ?_) (fun cdv A out s H E hr => ?_) p_rhythm_sum
  · first | (obtain ⟨rfl, _⟩ := h; rfl) | (obtain ⟨_, rfl, _⟩ := h; rfl) | (obtain ⟨_, _, rfl, _⟩ := h; rfl) | (obtain ⟨_, _, _, rfl, _⟩ := h; rfl) | (obtain ⟨_, _, _, _, rfl, _⟩ := h; rfl) | (obtain ⟨_, _, _, _, _, rfl, _⟩ := h; rfl) | (obtain ⟨_, _, _, _, _, _, rfl, _⟩ := h; rfl) | (obtain ⟨_, _, _, _, _, _, _, rfl, _⟩ := h; rfl) | (obtain ⟨_, _, _, _, _, _, _, _, rfl, _⟩ := h; rfl) | (obtain ⟨_, _, _, _, _, _, _, _, _, rfl, _⟩ := h; rfl) | (obtain ⟨_, _, _, _, _, _, _, _, _, _, rfl, _⟩ := h; rfl) | (obtain ⟨_, _, _, _, _, _, _, _, _, _, _, rfl, _⟩ := h; rfl) | (obtain ⟨_, _, _, _, _, _, _, _, _, _, _, _, rfl, _⟩ := h; rfl) | (obtain ⟨_, _, _, _, _, _, _, _, _, _, _, _, _, rfl, _⟩ := h; rfl) | (obtain ⟨_, _, _, _, _, _, _, _, _, _, _, _, _, _, rfl, _⟩ := h; rfl) | (obtain ⟨_, _, _, _, _, _, _, _, _, _, _, _, _, _, _, rfl, _⟩ := h; rfl) | (obtain ⟨_, _, _, _, _, _, _, _, _, _, _, _, _, _, _, _, rfl, _⟩ := h; rfl) | (obtain ⟨_, _, _, _, _, _, _, _, _, _, _, _, _, _, _, _, _, rfl, _⟩ := h; rfl)
  · exact (fss_one (fs_ret (fe_call (ok_weighed_sum T) (hr.mono (by decide)) (by rfl) T.g_weighed_sum T.F_weighed_sum.kp T.b_weighed_sum (fa_cons (fe_ixT (fe_var (pv 0)) fe_int (fun _ _ => rfl)) (fa_cons (fe_ixT (fe_var (pv 0)) fe_int (fun _ _ => rfl)) (fa_cons (fe_call (ok_things_of T) (hr.mono (by decide)) (by rfl) T.g_things_of T.F_things_of.kp T.b_things_of (fa_cons (fe_var (pv 1)) fa_nil)) fa_nil))))))
theorem sc_high_of : FnScope ["part", "mean", "rest"] ["part", "mean"] (defScope (top 25)) := ⟨rfl, rfl, rfl, by decide +kernel, rfl, by decide +kernel, by decide +kernel⟩
theorem ok_high_of (T : Tx K mg a fd) : FnG P w K mg base CX0 4 (a 25) (fd 25) ["part", "mean"] (cSp s_high_of) := by
  refine fnD_of (t := t_high_of) T.F_high_of sc_high_of (fun ds n R h => ?_) (fun cdv A out s H E hr => ?_) p_high_of
  · first | (obtain ⟨rfl, _⟩ := h; rfl) | (obtain ⟨_, rfl, _⟩ := h; rfl) | (obtain ⟨_, _, rfl, _⟩ := h; rfl) | (obtain ⟨_, _, _, rfl, _⟩ := h; rfl) | (obtain ⟨_, _, _, _, rfl, _⟩ := h; rfl) | (obtain ⟨_, _, _, _, _, rfl, _⟩ := h; rfl) | (obtain ⟨_, _, _, _, _, _, rfl, _⟩ := h; rfl) | (obtain ⟨_, _, _, _, _, _, _, rfl, _⟩ := h; rfl) | (obtain ⟨_, _, _, _, _, _, _, _, rfl, _⟩ := h; rfl) | (obtain ⟨_, _, _, _, _, _, _, _, _, rfl, _⟩ := h; rfl) | (obtain ⟨_, _, _, _, _, _, _, _, _, _, rfl, _⟩ := h; rfl) | (obtain ⟨_, _, _, _, _, _, _, _, _, _, _, rfl, _⟩ := h; rfl) | (obtain ⟨_, _, _, _, _, _, _, _, _, _, _, _, rfl, _⟩ := h; rfl) | (obtain ⟨_, _, _, _, _, _, _, _, _, _, _, _, _, rfl, _⟩ := h; rfl) | (obtain ⟨_, _, _, _, _, _, _, _, _, _, _, _, _, _, rfl, _⟩ := h; rfl) | (obtain ⟨_, _, _, _, _, _, _, _, _, _, _, _, _, _, _, rfl, _⟩ := h; rfl) | (obtain ⟨_, _, _, _, _, _, _, _, _, _, _, _, _, _, _, _, rfl, _⟩ := h; rfl) | (obtain ⟨_, _, _, _, _, _, _, _, _, _, _, _, _, _, _, _, _, rfl, _⟩ := h; rfl)
  · exact (fss_cons (fs_set (ps_set (i := 2) sc_high_of.nd rfl (by first | exact Or.inl rfl | exact Or.inr rfl) (fe_sub (fe_ixT (fe_var (pv 0)) fe_int (fun _ _ => rfl)) (fe_ixT (fe_var (pv 0)) fe_int (fun _ _ => rfl)))))
      (fss_one (fs_ret (fe_tup (fa_cons (fe_mul (fe_var (pv 2)) (fe_call (ok_rhythm_sum T) (hr.mono (by decide)) (by rfl) T.g_rhythm_sum T.F_rhythm_sum.kp T.b_rhythm_sum (fa_cons (fe_var (pv 0)) (fa_cons (fe_var (pv 1)) fa_nil)))) (fa_cons (fe_call (ok_powers_apart T) (hr.mono (by decide)) (by rfl) T.g_powers_apart T.F_powers_apart.kp T.b_powers_apart (fa_cons (fe_var (pv 0)) (fa_cons (fe_ixT (fe_var (pv 1)) fe_int (fun _ _ => rfl)) fa_nil))) fa_nil))))))
theorem sc_length_of : FnScope ["part", "below", "rest"] ["part", "below"] (defScope (top 26)) := ⟨rfl, rfl, rfl, by decide +kernel, rfl, by decide +kernel, by decide +kernel⟩
theorem ok_length_of (T : Tx K mg a fd) : FnG P w K mg base CX0 3 (a 26) (fd 26) ["part", "below"] (cSp s_length_of) := by
  refine fnD_of (t := t_length_of) T.F_length_of sc_length_of (fun ds n R h => ?_) (fun cdv A out s H E hr => ?_) p_length_of
  · first | (obtain ⟨rfl, _⟩ := h; rfl) | (obtain ⟨_, rfl, _⟩ := h; rfl) | (obtain ⟨_, _, rfl, _⟩ := h; rfl) | (obtain ⟨_, _, _, rfl, _⟩ := h; rfl) | (obtain ⟨_, _, _, _, rfl, _⟩ := h; rfl) | (obtain ⟨_, _, _, _, _, rfl, _⟩ := h; rfl) | (obtain ⟨_, _, _, _, _, _, rfl, _⟩ := h; rfl) | (obtain ⟨_, _, _, _, _, _, _, rfl, _⟩ := h; rfl) | (obtain ⟨_, _, _, _, _, _, _, _, rfl, _⟩ := h; rfl) | (obtain ⟨_, _, _, _, _, _, _, _, _, rfl, _⟩ := h; rfl) | (obtain ⟨_, _, _, _, _, _, _, _, _, _, rfl, _⟩ := h; rfl) | (obtain ⟨_, _, _, _, _, _, _, _, _, _, _, rfl, _⟩ := h; rfl) | (obtain ⟨_, _, _, _, _, _, _, _, _, _, _, _, rfl, _⟩ := h; rfl) | (obtain ⟨_, _, _, _, _, _, _, _, _, _, _, _, _, rfl, _⟩ := h; rfl) | (obtain ⟨_, _, _, _, _, _, _, _, _, _, _, _, _, _, rfl, _⟩ := h; rfl) | (obtain ⟨_, _, _, _, _, _, _, _, _, _, _, _, _, _, _, rfl, _⟩ := h; rfl) | (obtain ⟨_, _, _, _, _, _, _, _, _, _, _, _, _, _, _, _, rfl, _⟩ := h; rfl) | (obtain ⟨_, _, _, _, _, _, _, _, _, _, _, _, _, _, _, _, _, rfl, _⟩ := h; rfl)
  · exact (fss_cons (fs_set (ps_set (i := 2) sc_length_of.nd rfl (by first | exact Or.inl rfl | exact Or.inr rfl) (fe_sub (fe_ixT (fe_var (pv 0)) fe_int (fun _ _ => rfl)) (fe_ixT (fe_var (pv 0)) fe_int (fun _ _ => rfl)))))
      (fss_one (fs_ret (fe_tup (fa_cons (fe_mul (fe_mul (fe_var (pv 2)) (fe_var (pv 2))) (fe_call (ok_power T) (hr.mono (by decide)) (by rfl) T.g_power T.F_power.kp T.b_power (fa_cons (fe_ixT (fe_var (pv 0)) fe_int (fun _ _ => rfl)) (fa_cons (fe_sub (fe_var (pv 1)) fe_int) fa_nil)))) (fa_cons (fe_mul (fe_ixT (fe_var (pv 0)) fe_int (fun _ _ => rfl)) (fe_call (ok_powers_apart T) (hr.mono (by decide)) (by rfl) T.g_powers_apart T.F_powers_apart.kp T.b_powers_apart (fa_cons (fe_var (pv 0)) (fa_cons (fe_var (pv 1)) fa_nil)))) fa_nil))))))
theorem sc_ends_of : FnScope ["part", "mean", "high", "length"] ["part", "mean"] (defScope (top 27)) := ⟨rfl, rfl, rfl, by decide +kernel, rfl, by decide +kernel, by decide +kernel⟩
theorem ok_ends_of (T : Tx K mg a fd) : FnG P w K mg base CX0 5 (a 27) (fd 27) ["part", "mean"] (cSp s_ends_of) := by
  refine fnD_of (t := t_ends_of) T.F_ends_of sc_ends_of (fun ds n R h => ?_) (fun cdv A out s H E hr => ?_) p_ends_of
  · first | (obtain ⟨rfl, _⟩ := h; rfl) | (obtain ⟨_, rfl, _⟩ := h; rfl) | (obtain ⟨_, _, rfl, _⟩ := h; rfl) | (obtain ⟨_, _, _, rfl, _⟩ := h; rfl) | (obtain ⟨_, _, _, _, rfl, _⟩ := h; rfl) | (obtain ⟨_, _, _, _, _, rfl, _⟩ := h; rfl) | (obtain ⟨_, _, _, _, _, _, rfl, _⟩ := h; rfl) | (obtain ⟨_, _, _, _, _, _, _, rfl, _⟩ := h; rfl) | (obtain ⟨_, _, _, _, _, _, _, _, rfl, _⟩ := h; rfl) | (obtain ⟨_, _, _, _, _, _, _, _, _, rfl, _⟩ := h; rfl) | (obtain ⟨_, _, _, _, _, _, _, _, _, _, rfl, _⟩ := h; rfl) | (obtain ⟨_, _, _, _, _, _, _, _, _, _, _, rfl, _⟩ := h; rfl) | (obtain ⟨_, _, _, _, _, _, _, _, _, _, _, _, rfl, _⟩ := h; rfl) | (obtain ⟨_, _, _, _, _, _, _, _, _, _, _, _, _, rfl, _⟩ := h; rfl) | (obtain ⟨_, _, _, _, _, _, _, _, _, _, _, _, _, _, rfl, _⟩ := h; rfl) | (obtain ⟨_, _, _, _, _, _, _, _, _, _, _, _, _, _, _, rfl, _⟩ := h; rfl) | (obtain ⟨_, _, _, _, _, _, _, _, _, _, _, _, _, _, _, _, rfl, _⟩ := h; rfl) | (obtain ⟨_, _, _, _, _, _, _, _, _, _, _, _, _, _, _, _, _, rfl, _⟩ := h; rfl)
  · exact (fss_cons (fs_set (ps_set (i := 2) sc_ends_of.nd rfl (by first | exact Or.inl rfl | exact Or.inr rfl) (fe_call (ok_high_of T) (hr.mono (by decide)) (by rfl) T.g_high_of T.F_high_of.kp T.b_high_of (fa_cons (fe_var (pv 0)) (fa_cons (fe_var (pv 1)) fa_nil)))))
      (fss_cons (fs_set (ps_set (i := 3) sc_ends_of.nd rfl (by first | exact Or.inl rfl | exact Or.inr rfl) (fe_call (ok_length_of T) (hr.mono (by decide)) (by rfl) T.g_length_of T.F_length_of.kp T.b_length_of (fa_cons (fe_var (pv 0)) (fa_cons (fe_ixT (fe_var (pv 1)) fe_int (fun _ _ => rfl)) fa_nil)))))
      (fss_one (fs_ret (fe_tup (fa_cons (fe_tup (fa_cons (fe_sub (fe_mul (fe_ixT (fe_var (pv 0)) fe_int (fun _ _ => rfl)) (fe_ixT (fe_var (pv 2)) fe_int (fun _ _ => rfl))) (fe_ixT (fe_var (pv 3)) fe_int (fun _ _ => rfl))) (fa_cons (fe_ixT (fe_var (pv 3)) fe_int (fun _ _ => rfl)) fa_nil))) (fa_cons (fe_var (pv 2)) fa_nil)))))))
theorem sc_reduced : FnScope ["above", "below", "divisor"] ["above", "below"] (defScope (top 2)) := ⟨rfl, rfl, rfl, by decide +kernel, rfl, by decide +kernel, by decide +kernel⟩
theorem ok_reduced (T : Tx K mg a fd) : FnG P w K mg base CX0 1 (a 2) (fd 2) ["above", "below"] (cSp s_reduced) := by
  refine fnD_of (t := t_reduced) T.F_reduced sc_reduced (fun ds n R h => ?_) (fun cdv A out s H E hr => ?_) p_reduced
  · first | (obtain ⟨rfl, _⟩ := h; rfl) | (obtain ⟨_, rfl, _⟩ := h; rfl) | (obtain ⟨_, _, rfl, _⟩ := h; rfl) | (obtain ⟨_, _, _, rfl, _⟩ := h; rfl) | (obtain ⟨_, _, _, _, rfl, _⟩ := h; rfl) | (obtain ⟨_, _, _, _, _, rfl, _⟩ := h; rfl) | (obtain ⟨_, _, _, _, _, _, rfl, _⟩ := h; rfl) | (obtain ⟨_, _, _, _, _, _, _, rfl, _⟩ := h; rfl) | (obtain ⟨_, _, _, _, _, _, _, _, rfl, _⟩ := h; rfl) | (obtain ⟨_, _, _, _, _, _, _, _, _, rfl, _⟩ := h; rfl) | (obtain ⟨_, _, _, _, _, _, _, _, _, _, rfl, _⟩ := h; rfl) | (obtain ⟨_, _, _, _, _, _, _, _, _, _, _, rfl, _⟩ := h; rfl) | (obtain ⟨_, _, _, _, _, _, _, _, _, _, _, _, rfl, _⟩ := h; rfl) | (obtain ⟨_, _, _, _, _, _, _, _, _, _, _, _, _, rfl, _⟩ := h; rfl) | (obtain ⟨_, _, _, _, _, _, _, _, _, _, _, _, _, _, rfl, _⟩ := h; rfl) | (obtain ⟨_, _, _, _, _, _, _, _, _, _, _, _, _, _, _, rfl, _⟩ := h; rfl) | (obtain ⟨_, _, _, _, _, _, _, _, _, _, _, _, _, _, _, _, rfl, _⟩ := h; rfl) | (obtain ⟨_, _, _, _, _, _, _, _, _, _, _, _, _, _, _, _, _, rfl, _⟩ := h; rfl)
  · exact (fss_cons (fs_set (ps_set (i := 2) sc_reduced.nd rfl (by first | exact Or.inl rfl | exact Or.inr rfl) (fe_cb (pe_callBfun cr_gcd (by rfl) T.m_gcd (fa_cons (fe_var (pv 0)) (fa_cons (fe_var (pv 1)) fa_nil))) ok_gcd)))
      (fss_cons (fs_if (ft_cmp op_lt ok_lt (fe_var (pv 1)) fe_int (nomark _)) (fss_one (fs_set (ps_set (i := 2) sc_reduced.nd rfl (by first | exact Or.inl rfl | exact Or.inr rfl) (fe_neg (fe_var (pv 2)))))) fss_nil)
      (fss_one (fs_ret (fe_tup (fa_cons (fe_fdiv (fe_var (pv 0)) (fe_var (pv 2))) (fa_cons (fe_fdiv (fe_var (pv 1)) (fe_var (pv 2))) fa_nil)))))))
theorem sc_low_end : FnScope ["part", "mean", "low", "_"] ["part", "mean"] (defScope (top 31)) := ⟨rfl, rfl, rfl, by decide +kernel, rfl, by decide +kernel, by decide +kernel⟩
theorem ok_low_end (T : Tx K mg a fd) : FnG P w K mg base CX0 6 (a 31) (fd 31) ["part", "mean"] (cSp s_low_end) := by
  refine fnD_of (t := t_low_end) T.F_low_end sc_low_end (fun ds n R h => ?_) (fun cdv A out s H E hr => ?_) p_low_end
  · first | (obtain ⟨rfl, _⟩ := h; rfl) | (obtain ⟨_, rfl, _⟩ := h; rfl) | (obtain ⟨_, _, rfl, _⟩ := h; rfl) | (obtain ⟨_, _, _, rfl, _⟩ := h; rfl) | (obtain ⟨_, _, _, _, rfl, _⟩ := h; rfl) | (obtain ⟨_, _, _, _, _, rfl, _⟩ := h; rfl) | (obtain ⟨_, _, _, _, _, _, rfl, _⟩ := h; rfl) | (obtain ⟨_, _, _, _, _, _, _, rfl, _⟩ := h; rfl) | (obtain ⟨_, _, _, _, _, _, _, _, rfl, _⟩ := h; rfl) | (obtain ⟨_, _, _, _, _, _, _, _, _, rfl, _⟩ := h; rfl) | (obtain ⟨_, _, _, _, _, _, _, _, _, _, rfl, _⟩ := h; rfl) | (obtain ⟨_, _, _, _, _, _, _, _, _, _, _, rfl, _⟩ := h; rfl) | (obtain ⟨_, _, _, _, _, _, _, _, _, _, _, _, rfl, _⟩ := h; rfl) | (obtain ⟨_, _, _, _, _, _, _, _, _, _, _, _, _, rfl, _⟩ := h; rfl) | (obtain ⟨_, _, _, _, _, _, _, _, _, _, _, _, _, _, rfl, _⟩ := h; rfl) | (obtain ⟨_, _, _, _, _, _, _, _, _, _, _, _, _, _, _, rfl, _⟩ := h; rfl) | (obtain ⟨_, _, _, _, _, _, _, _, _, _, _, _, _, _, _, _, rfl, _⟩ := h; rfl) | (obtain ⟨_, _, _, _, _, _, _, _, _, _, _, _, _, _, _, _, _, rfl, _⟩ := h; rfl)
  · exact (fss_cons (fs_expr (fe_call (ok_need_part_and_mean T) (hr.mono (by decide)) (by rfl) T.g_need_part_and_mean T.F_need_part_and_mean.kp T.b_need_part_and_mean (fa_cons (fe_var (pv 0)) (fa_cons (fe_var (pv 1)) fa_nil))))
      (fss_cons (fs_unp (is := [2, 3]) (k := 2) rfl (ps_asg (fe_call (ok_ends_of T) (hr.mono (by decide)) (by rfl) T.g_ends_of T.F_ends_of.kp T.b_ends_of (fa_cons (fe_var (pv 0)) (fa_cons (fe_var (pv 1)) fa_nil))) (pg_tup rfl (pgs_cons (pg_name (i := 2) sc_low_end.nd rfl (by first | exact Or.inl rfl | exact Or.inr rfl)) (pgs_cons (pg_name (i := 3) sc_low_end.nd rfl (by first | exact Or.inl rfl | exact Or.inr rfl)) pgs_nil)))))
      (fss_one (fs_ret (fe_call (ok_reduced T) (hr.mono (by decide)) (by rfl) T.g_reduced T.F_reduced.kp T.b_reduced (fa_cons (fe_ixT (fe_var (pv 2)) fe_int (fun _ _ => rfl)) (fa_cons (fe_ixT (fe_var (pv 2)) fe_int (fun _ _ => rfl)) fa_nil)))))))
theorem sc_high_end : FnScope ["part", "mean", "high"] ["part", "mean"] (defScope (top 32)) := ⟨rfl, rfl, rfl, by decide +kernel, rfl, by decide +kernel, by decide +kernel⟩
theorem ok_high_end (T : Tx K mg a fd) : FnG P w K mg base CX0 6 (a 32) (fd 32) ["part", "mean"] (cSp s_high_end) := by
  refine fnD_of (t := t_high_end) T.F_high_end sc_high_end (fun ds n R h => ?_) (fun cdv A out s H E hr => ?_) p_high_end
  · first | (obtain ⟨rfl, _⟩ := h; rfl) | (obtain ⟨_, rfl, _⟩ := h; rfl) | (obtain ⟨_, _, rfl, _⟩ := h; rfl) | (obtain ⟨_, _, _, rfl, _⟩ := h; rfl) | (obtain ⟨_, _, _, _, rfl, _⟩ := h; rfl) | (obtain ⟨_, _, _, _, _, rfl, _⟩ := h; rfl) | (obtain ⟨_, _, _, _, _, _, rfl, _⟩ := h; rfl) | (obtain ⟨_, _, _, _, _, _, _, rfl, _⟩ := h; rfl) | (obtain ⟨_, _, _, _, _, _, _, _, rfl, _⟩ := h; rfl) | (obtain ⟨_, _, _, _, _, _, _, _, _, rfl, _⟩ := h; rfl) | (obtain ⟨_, _, _, _, _, _, _, _, _, _, rfl, _⟩ := h; rfl) | (obtain ⟨_, _, _, _, _, _, _, _, _, _, _, rfl, _⟩ := h; rfl) | (obtain ⟨_, _, _, _, _, _, _, _, _, _, _, _, rfl, _⟩ := h; rfl) | (obtain ⟨_, _, _, _, _, _, _, _, _, _, _, _, _, rfl, _⟩ := h; rfl) | (obtain ⟨_, _, _, _, _, _, _, _, _, _, _, _, _, _, rfl, _⟩ := h; rfl) | (obtain ⟨_, _, _, _, _, _, _, _, _, _, _, _, _, _, _, rfl, _⟩ := h; rfl) | (obtain ⟨_, _, _, _, _, _, _, _, _, _, _, _, _, _, _, _, rfl, _⟩ := h; rfl) | (obtain ⟨_, _, _, _, _, _, _, _, _, _, _, _, _, _, _, _, _, rfl, _⟩ := h; rfl)
  · exact (fss_cons (fs_expr (fe_call (ok_need_part_and_mean T) (hr.mono (by decide)) (by rfl) T.g_need_part_and_mean T.F_need_part_and_mean.kp T.b_need_part_and_mean (fa_cons (fe_var (pv 0)) (fa_cons (fe_var (pv 1)) fa_nil))))
      (fss_cons (fs_set (ps_set (i := 2) sc_high_end.nd rfl (by first | exact Or.inl rfl | exact Or.inr rfl) (fe_call (ok_high_of T) (hr.mono (by decide)) (by rfl) T.g_high_of T.F_high_of.kp T.b_high_of (fa_cons (fe_var (pv 0)) (fa_cons (fe_var (pv 1)) fa_nil)))))
      (fss_one (fs_ret (fe_call (ok_reduced T) (hr.mono (by decide)) (by rfl) T.g_reduced T.F_reduced.kp T.b_reduced (fa_cons (fe_ixT (fe_var (pv 2)) fe_int (fun _ _ => rfl)) (fa_cons (fe_ixT (fe_var (pv 2)) fe_int (fun _ _ => rfl)) fa_nil)))))))
theorem sc_stretch_of : FnScope ["part", "mean"] ["part", "mean"] (defScope (top 30)) := ⟨rfl, rfl, rfl, by decide +kernel, rfl, by decide +kernel, by decide +kernel⟩
theorem ok_stretch_of (T : Tx K mg a fd) : FnG P w K mg base CX0 7 (a 30) (fd 30) ["part", "mean"] (cSp s_stretch_of) := by
  refine fnD_of (t := t_stretch_of) T.F_stretch_of sc_stretch_of (fun ds n R h => ?_) (fun cdv A out s H E hr => ?_) p_stretch_of
  · first | (obtain ⟨rfl, _⟩ := h; rfl) | (obtain ⟨_, rfl, _⟩ := h; rfl) | (obtain ⟨_, _, rfl, _⟩ := h; rfl) | (obtain ⟨_, _, _, rfl, _⟩ := h; rfl) | (obtain ⟨_, _, _, _, rfl, _⟩ := h; rfl) | (obtain ⟨_, _, _, _, _, rfl, _⟩ := h; rfl) | (obtain ⟨_, _, _, _, _, _, rfl, _⟩ := h; rfl) | (obtain ⟨_, _, _, _, _, _, _, rfl, _⟩ := h; rfl) | (obtain ⟨_, _, _, _, _, _, _, _, rfl, _⟩ := h; rfl) | (obtain ⟨_, _, _, _, _, _, _, _, _, rfl, _⟩ := h; rfl) | (obtain ⟨_, _, _, _, _, _, _, _, _, _, rfl, _⟩ := h; rfl) | (obtain ⟨_, _, _, _, _, _, _, _, _, _, _, rfl, _⟩ := h; rfl) | (obtain ⟨_, _, _, _, _, _, _, _, _, _, _, _, rfl, _⟩ := h; rfl) | (obtain ⟨_, _, _, _, _, _, _, _, _, _, _, _, _, rfl, _⟩ := h; rfl) | (obtain ⟨_, _, _, _, _, _, _, _, _, _, _, _, _, _, rfl, _⟩ := h; rfl) | (obtain ⟨_, _, _, _, _, _, _, _, _, _, _, _, _, _, _, rfl, _⟩ := h; rfl) | (obtain ⟨_, _, _, _, _, _, _, _, _, _, _, _, _, _, _, _, rfl, _⟩ := h; rfl) | (obtain ⟨_, _, _, _, _, _, _, _, _, _, _, _, _, _, _, _, _, rfl, _⟩ := h; rfl)
  · exact (fss_one (fs_ret (fe_tup (fa_cons (fe_call (ok_low_end T) (hr.mono (by decide)) (by rfl) T.g_low_end T.F_low_end.kp T.b_low_end (fa_cons (fe_var (pv 0)) (fa_cons (fe_var (pv 1)) fa_nil))) (fa_cons (fe_call (ok_high_end T) (hr.mono (by decide)) (by rfl) T.g_high_end T.F_high_end.kp T.b_high_end (fa_cons (fe_var (pv 0)) (fa_cons (fe_var (pv 1)) fa_nil))) fa_nil)))))
theorem sc__law_divisor : FnScope ["one", "two", "step"] ["one", "two"] (defScope (top 40)) := ⟨rfl, rfl, rfl, by decide +kernel, rfl, by decide +kernel, by decide +kernel⟩
theorem ok__law_divisor (T : Tx K mg a fd) : FnG P w K mg base CX0 1 (a 40) (fd 40) ["one", "two"] (cSp s__law_divisor) := by
  refine fnD_of (t := t__law_divisor) T.F__law_divisor sc__law_divisor (fun ds n R h => ?_) (fun cdv A out s H E hr => ?_) p__law_divisor
  · first | (obtain ⟨rfl, _⟩ := h; rfl) | (obtain ⟨_, rfl, _⟩ := h; rfl) | (obtain ⟨_, _, rfl, _⟩ := h; rfl) | (obtain ⟨_, _, _, rfl, _⟩ := h; rfl) | (obtain ⟨_, _, _, _, rfl, _⟩ := h; rfl) | (obtain ⟨_, _, _, _, _, rfl, _⟩ := h; rfl) | (obtain ⟨_, _, _, _, _, _, rfl, _⟩ := h; rfl) | (obtain ⟨_, _, _, _, _, _, _, rfl, _⟩ := h; rfl) | (obtain ⟨_, _, _, _, _, _, _, _, rfl, _⟩ := h; rfl) | (obtain ⟨_, _, _, _, _, _, _, _, _, rfl, _⟩ := h; rfl) | (obtain ⟨_, _, _, _, _, _, _, _, _, _, rfl, _⟩ := h; rfl) | (obtain ⟨_, _, _, _, _, _, _, _, _, _, _, rfl, _⟩ := h; rfl) | (obtain ⟨_, _, _, _, _, _, _, _, _, _, _, _, rfl, _⟩ := h; rfl) | (obtain ⟨_, _, _, _, _, _, _, _, _, _, _, _, _, rfl, _⟩ := h; rfl) | (obtain ⟨_, _, _, _, _, _, _, _, _, _, _, _, _, _, rfl, _⟩ := h; rfl) | (obtain ⟨_, _, _, _, _, _, _, _, _, _, _, _, _, _, _, rfl, _⟩ := h; rfl) | (obtain ⟨_, _, _, _, _, _, _, _, _, _, _, _, _, _, _, _, rfl, _⟩ := h; rfl) | (obtain ⟨_, _, _, _, _, _, _, _, _, _, _, _, _, _, _, _, _, rfl, _⟩ := h; rfl)
  · exact (fss_cons (fs_par (ps_par (i := 0) (j := 1) rfl sc__law_divisor.nd rfl rfl (by decide) rfl rfl (fa_cons (fe_cb (pe_callB call_abs (by rfl) T.n_abs PyProof.Rows.boot_abs (fa_cons (fe_var (pv 0)) fa_nil)) ok_abs) (fa_cons (fe_cb (pe_callB call_abs (by rfl) T.n_abs PyProof.Rows.boot_abs (fa_cons (fe_var (pv 1)) fa_nil)) ok_abs) fa_nil)) (by rfl)))
      (fss_cons (fs_forR (i := 2) (ps_for PassesOwn.never rfl (pi_range1 (by rfl) T.n_range (pa_cons fe_int pa_nil)) (pg_name (i := 2) sc__law_divisor.nd rfl (by first | exact Or.inl rfl | exact Or.inr rfl)) (fss_cons (fs_if (ft_cmp (op_eqD hr.rm.units) (ok_eq _) (fe_var (pv 1)) fe_int (nomark _)) (fss_one (fs_ret (fe_var (pv 0)))) fss_nil)
      (fss_one (fs_par (ps_par (i := 0) (j := 1) rfl sc__law_divisor.nd rfl rfl (by decide) rfl rfl (fa_cons (fe_var (pv 1)) (fa_cons (fe_mod (fe_var (pv 0)) (fe_var (pv 1))) fa_nil)) (by rfl)))))))
      (fss_one (fs_ret (fe_var (pv 0))))))
theorem sc__law_share : FnScope ["above", "below", "told"] ["above", "below"] (defScope (top 41)) := ⟨rfl, rfl, rfl, by decide +kernel, rfl, by decide +kernel, by decide +kernel⟩
theorem ok__law_share (T : Tx K mg a fd) : FnG P w K mg base CX0 2 (a 41) (fd 41) ["above", "below"] (cSp s__law_share) := by
  refine fnD_of (t := t__law_share) T.F__law_share sc__law_share (fun ds n R h => ?_) (fun cdv A out s H E hr => ?_) p__law_share
  · first | (obtain ⟨rfl, _⟩ := h; rfl) | (obtain ⟨_, rfl, _⟩ := h; rfl) | (obtain ⟨_, _, rfl, _⟩ := h; rfl) | (obtain ⟨_, _, _, rfl, _⟩ := h; rfl) | (obtain ⟨_, _, _, _, rfl, _⟩ := h; rfl) | (obtain ⟨_, _, _, _, _, rfl, _⟩ := h; rfl) | (obtain ⟨_, _, _, _, _, _, rfl, _⟩ := h; rfl) | (obtain ⟨_, _, _, _, _, _, _, rfl, _⟩ := h; rfl) | (obtain ⟨_, _, _, _, _, _, _, _, rfl, _⟩ := h; rfl) | (obtain ⟨_, _, _, _, _, _, _, _, _, rfl, _⟩ := h; rfl) | (obtain ⟨_, _, _, _, _, _, _, _, _, _, rfl, _⟩ := h; rfl) | (obtain ⟨_, _, _, _, _, _, _, _, _, _, _, rfl, _⟩ := h; rfl) | (obtain ⟨_, _, _, _, _, _, _, _, _, _, _, _, rfl, _⟩ := h; rfl) | (obtain ⟨_, _, _, _, _, _, _, _, _, _, _, _, _, rfl, _⟩ := h; rfl) | (obtain ⟨_, _, _, _, _, _, _, _, _, _, _, _, _, _, rfl, _⟩ := h; rfl) | (obtain ⟨_, _, _, _, _, _, _, _, _, _, _, _, _, _, _, rfl, _⟩ := h; rfl) | (obtain ⟨_, _, _, _, _, _, _, _, _, _, _, _, _, _, _, _, rfl, _⟩ := h; rfl) | (obtain ⟨_, _, _, _, _, _, _, _, _, _, _, _, _, _, _, _, _, rfl, _⟩ := h; rfl)
  · exact (fss_cons (fs_set (ps_set (i := 2) sc__law_share.nd rfl (by first | exact Or.inl rfl | exact Or.inr rfl) (fe_call (ok__law_divisor T) (hr.mono (by decide)) (by rfl) T.g__law_divisor T.F__law_divisor.kp T.b__law_divisor (fa_cons (fe_var (pv 0)) (fa_cons (fe_var (pv 1)) fa_nil)))))
      (fss_cons (fs_set (ps_set (i := 2) sc__law_share.nd rfl (by first | exact Or.inl rfl | exact Or.inr rfl) (fe_if (ft_cmp op_gt ok_gt (fe_var (pv 1)) fe_int (nomark _)) (fe_var (pv 2)) (fe_neg (fe_var (pv 2))))))
      (fss_one (fs_ret (fe_tup (fa_cons (fe_fdiv (fe_var (pv 0)) (fe_var (pv 2))) (fa_cons (fe_fdiv (fe_var (pv 1)) (fe_var (pv 2))) fa_nil)))))))
theorem sc__law_mixed : FnScope ["cell", "k"] ["cell", "k"] (defScope (top 35)) := ⟨rfl, rfl, rfl, by decide +kernel, rfl, by decide +kernel, by decide +kernel⟩
theorem ok__law_mixed (T : Tx K mg a fd) : FnG P w K mg base CX0 1 (a 35) (fd 35) ["cell", "k"] (cSp sMixed) := by
  refine fnD_of (t := t__law_mixed) T.F__law_mixed sc__law_mixed (fun ds n R h => ?_) (fun cdv A out s H E hr => ?_) p__law_mixed
  · first | (obtain ⟨rfl, _⟩ := h; rfl) | (obtain ⟨_, rfl, _⟩ := h; rfl) | (obtain ⟨_, _, rfl, _⟩ := h; rfl) | (obtain ⟨_, _, _, rfl, _⟩ := h; rfl) | (obtain ⟨_, _, _, _, rfl, _⟩ := h; rfl) | (obtain ⟨_, _, _, _, _, rfl, _⟩ := h; rfl) | (obtain ⟨_, _, _, _, _, _, rfl, _⟩ := h; rfl) | (obtain ⟨_, _, _, _, _, _, _, rfl, _⟩ := h; rfl) | (obtain ⟨_, _, _, _, _, _, _, _, rfl, _⟩ := h; rfl) | (obtain ⟨_, _, _, _, _, _, _, _, _, rfl, _⟩ := h; rfl) | (obtain ⟨_, _, _, _, _, _, _, _, _, _, rfl, _⟩ := h; rfl) | (obtain ⟨_, _, _, _, _, _, _, _, _, _, _, rfl, _⟩ := h; rfl) | (obtain ⟨_, _, _, _, _, _, _, _, _, _, _, _, rfl, _⟩ := h; rfl) | (obtain ⟨_, _, _, _, _, _, _, _, _, _, _, _, _, rfl, _⟩ := h; rfl) | (obtain ⟨_, _, _, _, _, _, _, _, _, _, _, _, _, _, rfl, _⟩ := h; rfl) | (obtain ⟨_, _, _, _, _, _, _, _, _, _, _, _, _, _, _, rfl, _⟩ := h; rfl) | (obtain ⟨_, _, _, _, _, _, _, _, _, _, _, _, _, _, _, _, rfl, _⟩ := h; rfl) | (obtain ⟨_, _, _, _, _, _, _, _, _, _, _, _, _, _, _, _, _, rfl, _⟩ := h; rfl)
  · exact (fss_cons (fs_set (ps_set (i := 0) sc__law_mixed.nd rfl (by first | exact Or.inl rfl | exact Or.inr rfl) (fe_mod (fe_cb (pe_callTy call_int1 (by rfl) T.n_int PyProof.Rows.boot_int (fa_cons (fe_var (pv 0)) fa_nil)) ok_int) fe_int)))
      (fss_one (fs_ret (fe_mod (fe_mul (fe_mod (fe_add (fe_add (fe_mul (fe_var (pv 0)) (fe_add fe_int (fe_mul (fe_mul fe_int (fe_var (pv 1))) (fe_var (pv 1))))) (fe_mul fe_int (fe_var (pv 1)))) fe_int) fe_int) fe_int) fe_int))))
theorem sc__law_draw : FnScope ["draws_so", "limit", "at", "place", "left", "mixed"] ["draws_so", "limit"] (defScope (top 37)) := ⟨rfl, rfl, rfl, by decide +kernel, rfl, by decide +kernel, by decide +kernel⟩
theorem ok__law_draw (T : Tx K mg a fd) : FnG P w K mg base CX0 2 (a 37) (fd 37) ["draws_so", "limit"] (cSp sDraw) := by
  refine fnG_of T.F__law_draw sc__law_draw (cSp_len fun ds n R h => by obtain ⟨_, rfl, _⟩ := h; rfl) fun cdv A out s H vs Q E hr h => ⟨tDraw K (cSp sMixed), PSs.nox ?_, pure_draw vs H Q E h⟩
  have hu := hu_of hr.rm
  exact pss_cons (ps_set (i := 2) sc__law_draw.nd rfl (by first | exact Or.inl rfl | exact Or.inr rfl) (pe_dget hu (pv 0) pe_str (fun _ _ => rfl)))
    (pss_cons (ps_dput hu (pv 0) pe_str (pe_op op_add (pv 2) pe_int) rfl)
    (pss_cons (ps_set (i := 3) sc__law_draw.nd rfl (by first | exact Or.inl rfl | exact Or.inr rfl) (pe_op op_mod (pe_callTy call_int1 (by rfl) T.n_int PyProof.Rows.boot_int (pa_cons (pv 2) pa_nil)) (pe_callB call_len_seq (by rfl) T.n_len PySem.boot_len (pa_cons (pe_dget hu (pv 0) pe_str (fun _ _ => rfl)) pa_nil))))
    (pss_cons (ps_set (i := 4) sc__law_draw.nd rfl (by first | exact Or.inl rfl | exact Or.inr rfl) (pe_ix ix_list (pe_dget hu (pv 0) pe_str (fun _ _ => rfl)) (pv 3) (fun _ _ => rfl)))
    (pss_cons (ps_if (pt_cmpR op_gt (pv 4) pe_int (nomark _)) (pss_cons (ps_asg (pe_op op_fdivW (pv 4) (pv 1)) (pg_sub (pe_dget hu (pv 0) pe_str (fun _ _ => rfl)) (pv 3) set_list)) (pss_one (ps_ret (pe_op op_mod (pe_callTy call_int1 (by rfl) T.n_int PyProof.Rows.boot_int (pa_cons (pv 4) pa_nil)) (pv 1))))) pss_nil)
    (pss_cons (ps_set (i := 5) sc__law_draw.nd rfl (by first | exact Or.inl rfl | exact Or.inr rfl) (peG_call (ok__law_mixed T) (hr.mono (by decide)) (by rfl) T.g__law_mixed T.F__law_mixed.kp T.b__law_mixed (pa_cons (peG_call (ok__law_mixed T) (hr.mono (by decide)) (by rfl) T.g__law_mixed T.F__law_mixed.kp T.b__law_mixed (pa_cons (pe_ix ix_list (pe_dget hu (pv 0) pe_str (fun _ _ => rfl)) (pv 3) (fun _ _ => rfl)) (pa_cons (pv 2) pa_nil))) (pa_cons (pe_op op_add pe_int (pv 2)) pa_nil))))
    (pss_one (ps_ret (pe_op op_mod (pe_op op_fdivW (pe_callTy call_int1 (by rfl) T.n_int PyProof.Rows.boot_int (pa_cons (pe_op op_add (pe_op op_mulW (pv 5) pe_int) (peG_call (ok__law_mixed T) (hr.mono (by decide)) (by rfl) T.g__law_mixed T.F__law_mixed.kp T.b__law_mixed (pa_cons (pv 5) (pa_cons (pe_op op_add pe_int (pv 2)) pa_nil)))) pa_nil)) pe_int) (pv 1)))))))))
theorem sc__law_cut : FnScope ["draws_so", "low"] ["draws_so"] (defScope (top 38)) := ⟨rfl, rfl, rfl, by decide +kernel, rfl, by decide +kernel, by decide +kernel⟩
theorem ok__law_cut (T : Tx K mg a fd) : FnG P w K mg base CX0 3 (a 38) (fd 38) ["draws_so"] (cSp s__law_cut) := by
  refine fnD_of (t := t__law_cut) T.F__law_cut sc__law_cut (fun ds n R h => ?_) (fun cdv A out s H E hr => ?_) p__law_cut
  · first | (obtain ⟨rfl, _⟩ := h; rfl) | (obtain ⟨_, rfl, _⟩ := h; rfl) | (obtain ⟨_, _, rfl, _⟩ := h; rfl) | (obtain ⟨_, _, _, rfl, _⟩ := h; rfl) | (obtain ⟨_, _, _, _, rfl, _⟩ := h; rfl) | (obtain ⟨_, _, _, _, _, rfl, _⟩ := h; rfl) | (obtain ⟨_, _, _, _, _, _, rfl, _⟩ := h; rfl) | (obtain ⟨_, _, _, _, _, _, _, rfl, _⟩ := h; rfl) | (obtain ⟨_, _, _, _, _, _, _, _, rfl, _⟩ := h; rfl) | (obtain ⟨_, _, _, _, _, _, _, _, _, rfl, _⟩ := h; rfl) | (obtain ⟨_, _, _, _, _, _, _, _, _, _, rfl, _⟩ := h; rfl) | (obtain ⟨_, _, _, _, _, _, _, _, _, _, _, rfl, _⟩ := h; rfl) | (obtain ⟨_, _, _, _, _, _, _, _, _, _, _, _, rfl, _⟩ := h; rfl) | (obtain ⟨_, _, _, _, _, _, _, _, _, _, _, _, _, rfl, _⟩ := h; rfl) | (obtain ⟨_, _, _, _, _, _, _, _, _, _, _, _, _, _, rfl, _⟩ := h; rfl) | (obtain ⟨_, _, _, _, _, _, _, _, _, _, _, _, _, _, _, rfl, _⟩ := h; rfl) | (obtain ⟨_, _, _, _, _, _, _, _, _, _, _, _, _, _, _, _, rfl, _⟩ := h; rfl) | (obtain ⟨_, _, _, _, _, _, _, _, _, _, _, _, _, _, _, _, _, rfl, _⟩ := h; rfl)
  · exact (fss_cons (fs_set (ps_set (i := 1) sc__law_cut.nd rfl (by first | exact Or.inl rfl | exact Or.inr rfl) (fe_add fe_int (fe_call (ok__law_draw T) (hr.mono (by decide)) (by rfl) T.g__law_draw T.F__law_draw.kp T.b__law_draw (fa_cons (fe_var (pv 0)) (fa_cons fe_int fa_nil))))))
      (fss_one (fs_ret (fe_call (ok__law_share T) (hr.mono (by decide)) (by rfl) T.g__law_share T.F__law_share.kp T.b__law_share (fa_cons (fe_add fe_int (fe_call (ok__law_draw T) (hr.mono (by decide)) (by rfl) T.g__law_draw T.F__law_draw.kp T.b__law_draw (fa_cons (fe_var (pv 0)) (fa_cons (fe_sub (fe_var (pv 1)) fe_int) fa_nil)))) (fa_cons (fe_var (pv 1)) fa_nil))))))
theorem sc__law_minus : FnScope ["one", "two"] ["one", "two"] (defScope (top 43)) := ⟨rfl, rfl, rfl, by decide +kernel, rfl, by decide +kernel, by decide +kernel⟩
theorem ok__law_minus (T : Tx K mg a fd) : FnG P w K mg base CX0 3 (a 43) (fd 43) ["one", "two"] (cSp s__law_minus) := by
  refine fnD_of (t := t__law_minus) T.F__law_minus sc__law_minus (fun ds n R h => ?_) (fun cdv A out s H E hr => ?_) p__law_minus
  · first | (obtain ⟨rfl, _⟩ := h; rfl) | (obtain ⟨_, rfl, _⟩ := h; rfl) | (obtain ⟨_, _, rfl, _⟩ := h; rfl) | (obtain ⟨_, _, _, rfl, _⟩ := h; rfl) | (obtain ⟨_, _, _, _, rfl, _⟩ := h; rfl) | (obtain ⟨_, _, _, _, _, rfl, _⟩ := h; rfl) | (obtain ⟨_, _, _, _, _, _, rfl, _⟩ := h; rfl) | (obtain ⟨_, _, _, _, _, _, _, rfl, _⟩ := h; rfl) | (obtain ⟨_, _, _, _, _, _, _, _, rfl, _⟩ := h; rfl) | (obtain ⟨_, _, _, _, _, _, _, _, _, rfl, _⟩ := h; rfl) | (obtain ⟨_, _, _, _, _, _, _, _, _, _, rfl, _⟩ := h; rfl) | (obtain ⟨_, _, _, _, _, _, _, _, _, _, _, rfl, _⟩ := h; rfl) | (obtain ⟨_, _, _, _, _, _, _, _, _, _, _, _, rfl, _⟩ := h; rfl) | (obtain ⟨_, _, _, _, _, _, _, _, _, _, _, _, _, rfl, _⟩ := h; rfl) | (obtain ⟨_, _, _, _, _, _, _, _, _, _, _, _, _, _, rfl, _⟩ := h; rfl) | (obtain ⟨_, _, _, _, _, _, _, _, _, _, _, _, _, _, _, rfl, _⟩ := h; rfl) | (obtain ⟨_, _, _, _, _, _, _, _, _, _, _, _, _, _, _, _, rfl, _⟩ := h; rfl) | (obtain ⟨_, _, _, _, _, _, _, _, _, _, _, _, _, _, _, _, _, rfl, _⟩ := h; rfl)
  · exact (fss_one (fs_ret (fe_call (ok__law_share T) (hr.mono (by decide)) (by rfl) T.g__law_share T.F__law_share.kp T.b__law_share (fa_cons (fe_sub (fe_mul (fe_ixT (fe_var (pv 0)) fe_int (fun _ _ => rfl)) (fe_ixT (fe_var (pv 1)) fe_int (fun _ _ => rfl))) (fe_mul (fe_ixT (fe_var (pv 1)) fe_int (fun _ _ => rfl)) (fe_ixT (fe_var (pv 0)) fe_int (fun _ _ => rfl)))) (fa_cons (fe_mul (fe_ixT (fe_var (pv 0)) fe_int (fun _ _ => rfl)) (fe_ixT (fe_var (pv 1)) fe_int (fun _ _ => rfl))) fa_nil)))))
theorem sc__law_times : FnScope ["one", "two"] ["one", "two"] (defScope (top 44)) := ⟨rfl, rfl, rfl, by decide +kernel, rfl, by decide +kernel, by decide +kernel⟩
theorem ok__law_times (T : Tx K mg a fd) : FnG P w K mg base CX0 3 (a 44) (fd 44) ["one", "two"] (cSp s__law_times) := by
  refine fnD_of (t := t__law_times) T.F__law_times sc__law_times (fun ds n R h => ?_) (fun cdv A out s H E hr => ?_) p__law_times
  · first | (obtain ⟨rfl, _⟩ := h; rfl) | (obtain ⟨_, rfl, _⟩ := h; rfl) | (obtain ⟨_, _, rfl, _⟩ := h; rfl) | (obtain ⟨_, _, _, rfl, _⟩ := h; rfl) | (obtain ⟨_, _, _, _, rfl, _⟩ := h; rfl) | (obtain ⟨_, _, _, _, _, rfl, _⟩ := h; rfl) | (obtain ⟨_, _, _, _, _, _, rfl, _⟩ := h; rfl) | (obtain ⟨_, _, _, _, _, _, _, rfl, _⟩ := h; rfl) | (obtain ⟨_, _, _, _, _, _, _, _, rfl, _⟩ := h; rfl) | (obtain ⟨_, _, _, _, _, _, _, _, _, rfl, _⟩ := h; rfl) | (obtain ⟨_, _, _, _, _, _, _, _, _, _, rfl, _⟩ := h; rfl) | (obtain ⟨_, _, _, _, _, _, _, _, _, _, _, rfl, _⟩ := h; rfl) | (obtain ⟨_, _, _, _, _, _, _, _, _, _, _, _, rfl, _⟩ := h; rfl) | (obtain ⟨_, _, _, _, _, _, _, _, _, _, _, _, _, rfl, _⟩ := h; rfl) | (obtain ⟨_, _, _, _, _, _, _, _, _, _, _, _, _, _, rfl, _⟩ := h; rfl) | (obtain ⟨_, _, _, _, _, _, _, _, _, _, _, _, _, _, _, rfl, _⟩ := h; rfl) | (obtain ⟨_, _, _, _, _, _, _, _, _, _, _, _, _, _, _, _, rfl, _⟩ := h; rfl) | (obtain ⟨_, _, _, _, _, _, _, _, _, _, _, _, _, _, _, _, _, rfl, _⟩ := h; rfl)
  · exact (fss_one (fs_ret (fe_call (ok__law_share T) (hr.mono (by decide)) (by rfl) T.g__law_share T.F__law_share.kp T.b__law_share (fa_cons (fe_mul (fe_ixT (fe_var (pv 0)) fe_int (fun _ _ => rfl)) (fe_ixT (fe_var (pv 1)) fe_int (fun _ _ => rfl))) (fa_cons (fe_mul (fe_ixT (fe_var (pv 0)) fe_int (fun _ _ => rfl)) (fe_ixT (fe_var (pv 1)) fe_int (fun _ _ => rfl))) fa_nil)))))
theorem sc__law_power : FnScope ["one", "times_so", "found", "step"] ["one", "times_so"] (defScope (top 47)) := ⟨rfl, rfl, rfl, by decide +kernel, rfl, by decide +kernel, by decide +kernel⟩
theorem ok__law_power (T : Tx K mg a fd) : FnG P w K mg base CX0 4 (a 47) (fd 47) ["one", "times_so"] (cSp s__law_power) := by
  refine fnD_of (t := t__law_power) T.F__law_power sc__law_power (fun ds n R h => ?_) (fun cdv A out s H E hr => ?_) p__law_power
  · first | (obtain ⟨rfl, _⟩ := h; rfl) | (obtain ⟨_, rfl, _⟩ := h; rfl) | (obtain ⟨_, _, rfl, _⟩ := h; rfl) | (obtain ⟨_, _, _, rfl, _⟩ := h; rfl) | (obtain ⟨_, _, _, _, rfl, _⟩ := h; rfl) | (obtain ⟨_, _, _, _, _, rfl, _⟩ := h; rfl) | (obtain ⟨_, _, _, _, _, _, rfl, _⟩ := h; rfl) | (obtain ⟨_, _, _, _, _, _, _, rfl, _⟩ := h; rfl) | (obtain ⟨_, _, _, _, _, _, _, _, rfl, _⟩ := h; rfl) | (obtain ⟨_, _, _, _, _, _, _, _, _, rfl, _⟩ := h; rfl) | (obtain ⟨_, _, _, _, _, _, _, _, _, _, rfl, _⟩ := h; rfl) | (obtain ⟨_, _, _, _, _, _, _, _, _, _, _, rfl, _⟩ := h; rfl) | (obtain ⟨_, _, _, _, _, _, _, _, _, _, _, _, rfl, _⟩ := h; rfl) | (obtain ⟨_, _, _, _, _, _, _, _, _, _, _, _, _, rfl, _⟩ := h; rfl) | (obtain ⟨_, _, _, _, _, _, _, _, _, _, _, _, _, _, rfl, _⟩ := h; rfl) | (obtain ⟨_, _, _, _, _, _, _, _, _, _, _, _, _, _, _, rfl, _⟩ := h; rfl) | (obtain ⟨_, _, _, _, _, _, _, _, _, _, _, _, _, _, _, _, rfl, _⟩ := h; rfl) | (obtain ⟨_, _, _, _, _, _, _, _, _, _, _, _, _, _, _, _, _, rfl, _⟩ := h; rfl)
  · exact (fss_cons (fs_set (ps_set (i := 2) sc__law_power.nd rfl (by first | exact Or.inl rfl | exact Or.inr rfl) (fe_tup (fa_cons fe_int (fa_cons fe_int fa_nil)))))
      (fss_cons (fs_forR (i := 3) (ps_for PassesOwn.never rfl (pi_range1 (by rfl) T.n_range (pa_cons (fe_var (pv 1)) pa_nil)) (pg_name (i := 3) sc__law_power.nd rfl (by first | exact Or.inl rfl | exact Or.inr rfl)) (fss_one (fs_set (ps_set (i := 2) sc__law_power.nd rfl (by first | exact Or.inl rfl | exact Or.inr rfl) (fe_call (ok__law_times T) (hr.mono (by decide)) (by rfl) T.g__law_times T.F__law_times.kp T.b__law_times (fa_cons (fe_var (pv 2)) (fa_cons (fe_var (pv 0)) fa_nil))))))))
      (fss_one (fs_ret (fe_var (pv 2))))))
theorem sc__law_over : FnScope ["one", "two"] ["one", "two"] (defScope (top 45)) := ⟨rfl, rfl, rfl, by decide +kernel, rfl, by decide +kernel, by decide +kernel⟩
theorem ok__law_over (T : Tx K mg a fd) : FnG P w K mg base CX0 3 (a 45) (fd 45) ["one", "two"] (cSp s__law_over) := by
  refine fnD_of (t := t__law_over) T.F__law_over sc__law_over (fun ds n R h => ?_) (fun cdv A out s H E hr => ?_) p__law_over
  · first | (obtain ⟨rfl, _⟩ := h; rfl) | (obtain ⟨_, rfl, _⟩ := h; rfl) | (obtain ⟨_, _, rfl, _⟩ := h; rfl) | (obtain ⟨_, _, _, rfl, _⟩ := h; rfl) | (obtain ⟨_, _, _, _, rfl, _⟩ := h; rfl) | (obtain ⟨_, _, _, _, _, rfl, _⟩ := h; rfl) | (obtain ⟨_, _, _, _, _, _, rfl, _⟩ := h; rfl) | (obtain ⟨_, _, _, _, _, _, _, rfl, _⟩ := h; rfl) | (obtain ⟨_, _, _, _, _, _, _, _, rfl, _⟩ := h; rfl) | (obtain ⟨_, _, _, _, _, _, _, _, _, rfl, _⟩ := h; rfl) | (obtain ⟨_, _, _, _, _, _, _, _, _, _, rfl, _⟩ := h; rfl) | (obtain ⟨_, _, _, _, _, _, _, _, _, _, _, rfl, _⟩ := h; rfl) | (obtain ⟨_, _, _, _, _, _, _, _, _, _, _, _, rfl, _⟩ := h; rfl) | (obtain ⟨_, _, _, _, _, _, _, _, _, _, _, _, _, rfl, _⟩ := h; rfl) | (obtain ⟨_, _, _, _, _, _, _, _, _, _, _, _, _, _, rfl, _⟩ := h; rfl) | (obtain ⟨_, _, _, _, _, _, _, _, _, _, _, _, _, _, _, rfl, _⟩ := h; rfl) | (obtain ⟨_, _, _, _, _, _, _, _, _, _, _, _, _, _, _, _, rfl, _⟩ := h; rfl) | (obtain ⟨_, _, _, _, _, _, _, _, _, _, _, _, _, _, _, _, _, rfl, _⟩ := h; rfl)
  · exact (fss_one (fs_ret (fe_call (ok__law_share T) (hr.mono (by decide)) (by rfl) T.g__law_share T.F__law_share.kp T.b__law_share (fa_cons (fe_mul (fe_ixT (fe_var (pv 0)) fe_int (fun _ _ => rfl)) (fe_ixT (fe_var (pv 1)) fe_int (fun _ _ => rfl))) (fa_cons (fe_mul (fe_ixT (fe_var (pv 0)) fe_int (fun _ _ => rfl)) (fe_ixT (fe_var (pv 1)) fe_int (fun _ _ => rfl))) fa_nil)))))
theorem sc__law_plus : FnScope ["one", "two"] ["one", "two"] (defScope (top 42)) := ⟨rfl, rfl, rfl, by decide +kernel, rfl, by decide +kernel, by decide +kernel⟩
theorem ok__law_plus (T : Tx K mg a fd) : FnG P w K mg base CX0 3 (a 42) (fd 42) ["one", "two"] (cSp s__law_plus) := by
  refine fnD_of (t := t__law_plus) T.F__law_plus sc__law_plus (fun ds n R h => ?_) (fun cdv A out s H E hr => ?_) p__law_plus
  · first | (obtain ⟨rfl, _⟩ := h; rfl) | (obtain ⟨_, rfl, _⟩ := h; rfl) | (obtain ⟨_, _, rfl, _⟩ := h; rfl) | (obtain ⟨_, _, _, rfl, _⟩ := h; rfl) | (obtain ⟨_, _, _, _, rfl, _⟩ := h; rfl) | (obtain ⟨_, _, _, _, _, rfl, _⟩ := h; rfl) | (obtain ⟨_, _, _, _, _, _, rfl, _⟩ := h; rfl) | (obtain ⟨_, _, _, _, _, _, _, rfl, _⟩ := h; rfl) | (obtain ⟨_, _, _, _, _, _, _, _, rfl, _⟩ := h; rfl) | (obtain ⟨_, _, _, _, _, _, _, _, _, rfl, _⟩ := h; rfl) | (obtain ⟨_, _, _, _, _, _, _, _, _, _, rfl, _⟩ := h; rfl) | (obtain ⟨_, _, _, _, _, _, _, _, _, _, _, rfl, _⟩ := h; rfl) | (obtain ⟨_, _, _, _, _, _, _, _, _, _, _, _, rfl, _⟩ := h; rfl) | (obtain ⟨_, _, _, _, _, _, _, _, _, _, _, _, _, rfl, _⟩ := h; rfl) | (obtain ⟨_, _, _, _, _, _, _, _, _, _, _, _, _, _, rfl, _⟩ := h; rfl) | (obtain ⟨_, _, _, _, _, _, _, _, _, _, _, _, _, _, _, rfl, _⟩ := h; rfl) | (obtain ⟨_, _, _, _, _, _, _, _, _, _, _, _, _, _, _, _, rfl, _⟩ := h; rfl) | (obtain ⟨_, _, _, _, _, _, _, _, _, _, _, _, _, _, _, _, _, rfl, _⟩ := h; rfl)
  · exact (fss_one (fs_ret (fe_call (ok__law_share T) (hr.mono (by decide)) (by rfl) T.g__law_share T.F__law_share.kp T.b__law_share (fa_cons (fe_add (fe_mul (fe_ixT (fe_var (pv 0)) fe_int (fun _ _ => rfl)) (fe_ixT (fe_var (pv 1)) fe_int (fun _ _ => rfl))) (fe_mul (fe_ixT (fe_var (pv 1)) fe_int (fun _ _ => rfl)) (fe_ixT (fe_var (pv 0)) fe_int (fun _ _ => rfl)))) (fa_cons (fe_mul (fe_ixT (fe_var (pv 0)) fe_int (fun _ _ => rfl)) (fe_ixT (fe_var (pv 1)) fe_int (fun _ _ => rfl))) fa_nil)))))
theorem sc__law_floors : FnScope ["cut_so", "pair_so", "above", "below", "one", "power_v", "step", "rest", "whole", "more"] ["cut_so", "pair_so"] (defScope (top 48)) := ⟨rfl, rfl, rfl, by decide +kernel, rfl, by decide +kernel, by decide +kernel⟩
theorem ok__law_floors (T : Tx K mg a fd) : FnG P w K mg base CX0 4 (a 48) (fd 48) ["cut_so", "pair_so"] (cSp s__law_floors) := by
  refine fnD_of (t := t__law_floors) T.F__law_floors sc__law_floors (fun ds n R h => ?_) (fun cdv A out s H E hr => ?_) p__law_floors
  · first | (obtain ⟨rfl, _⟩ := h; rfl) | (obtain ⟨_, rfl, _⟩ := h; rfl) | (obtain ⟨_, _, rfl, _⟩ := h; rfl) | (obtain ⟨_, _, _, rfl, _⟩ := h; rfl) | (obtain ⟨_, _, _, _, rfl, _⟩ := h; rfl) | (obtain ⟨_, _, _, _, _, rfl, _⟩ := h; rfl) | (obtain ⟨_, _, _, _, _, _, rfl, _⟩ := h; rfl) | (obtain ⟨_, _, _, _, _, _, _, rfl, _⟩ := h; rfl) | (obtain ⟨_, _, _, _, _, _, _, _, rfl, _⟩ := h; rfl) | (obtain ⟨_, _, _, _, _, _, _, _, _, rfl, _⟩ := h; rfl) | (obtain ⟨_, _, _, _, _, _, _, _, _, _, rfl, _⟩ := h; rfl) | (obtain ⟨_, _, _, _, _, _, _, _, _, _, _, rfl, _⟩ := h; rfl) | (obtain ⟨_, _, _, _, _, _, _, _, _, _, _, _, rfl, _⟩ := h; rfl) | (obtain ⟨_, _, _, _, _, _, _, _, _, _, _, _, _, rfl, _⟩ := h; rfl) | (obtain ⟨_, _, _, _, _, _, _, _, _, _, _, _, _, _, rfl, _⟩ := h; rfl) | (obtain ⟨_, _, _, _, _, _, _, _, _, _, _, _, _, _, _, rfl, _⟩ := h; rfl) | (obtain ⟨_, _, _, _, _, _, _, _, _, _, _, _, _, _, _, _, rfl, _⟩ := h; rfl) | (obtain ⟨_, _, _, _, _, _, _, _, _, _, _, _, _, _, _, _, _, rfl, _⟩ := h; rfl)
  · exact (fss_cons (fs_unp (is := [2, 3]) (k := 2) rfl (ps_asg (fe_var (pv 1)) (pg_tup rfl (pgs_cons (pg_name (i := 2) sc__law_floors.nd rfl (by first | exact Or.inl rfl | exact Or.inr rfl)) (pgs_cons (pg_name (i := 3) sc__law_floors.nd rfl (by first | exact Or.inl rfl | exact Or.inr rfl)) pgs_nil)))))
      (fss_cons (fs_unp (is := [4, 5]) (k := 2) rfl (ps_asg (fe_tup (fa_cons (fe_tup (fa_cons fe_int (fa_cons fe_int fa_nil))) (fa_cons (fe_tup (fa_cons fe_int (fa_cons fe_int fa_nil))) fa_nil))) (pg_tup rfl (pgs_cons (pg_name (i := 4) sc__law_floors.nd rfl (by first | exact Or.inl rfl | exact Or.inr rfl)) (pgs_cons (pg_name (i := 5) sc__law_floors.nd rfl (by first | exact Or.inl rfl | exact Or.inr rfl)) pgs_nil)))))
      (fss_cons (fs_forR2 (i := 6) (ps_for PassesOwn.never rfl (pi_range2 (by rfl) T.n_range (fa_cons fe_int (fa_cons (fe_add (fe_var (pv 3)) fe_int) fa_nil))) (pg_name (i := 6) sc__law_floors.nd rfl (by first | exact Or.inl rfl | exact Or.inr rfl)) (fss_cons (fs_set (ps_set (i := 4) sc__law_floors.nd rfl (by first | exact Or.inl rfl | exact Or.inr rfl) (fe_call (ok__law_plus T) (hr.mono (by decide)) (by rfl) T.g__law_plus T.F__law_plus.kp T.b__law_plus (fa_cons (fe_var (pv 4)) (fa_cons (fe_call (ok__law_times T) (hr.mono (by decide)) (by rfl) T.g__law_times T.F__law_times.kp T.b__law_times (fa_cons (fe_var (pv 5)) (fa_cons (fe_tup (fa_cons (fe_fdiv (fe_mul (fe_var (pv 6)) (fe_var (pv 2))) (fe_var (pv 3))) (fa_cons fe_int fa_nil))) fa_nil))) fa_nil)))))
      (fss_one (fs_set (ps_set (i := 5) sc__law_floors.nd rfl (by first | exact Or.inl rfl | exact Or.inr rfl) (fe_call (ok__law_times T) (hr.mono (by decide)) (by rfl) T.g__law_times T.F__law_times.kp T.b__law_times (fa_cons (fe_var (pv 5)) (fa_cons (fe_var (pv 0)) fa_nil)))))))))
      (fss_cons (fs_set (ps_set (i := 7) sc__law_floors.nd rfl (by first | exact Or.inl rfl | exact Or.inr rfl) (fe_call (ok__law_minus T) (hr.mono (by decide)) (by rfl) T.g__law_minus T.F__law_minus.kp T.b__law_minus (fa_cons (fe_tup (fa_cons fe_int (fa_cons fe_int fa_nil))) (fa_cons (fe_var (pv 5)) fa_nil)))))
      (fss_cons (fs_set (ps_set (i := 8) sc__law_floors.nd rfl (by first | exact Or.inl rfl | exact Or.inr rfl) (fe_call (ok__law_over T) (hr.mono (by decide)) (by rfl) T.g__law_over T.F__law_over.kp T.b__law_over (fa_cons (fe_var (pv 7)) (fa_cons (fe_call (ok__law_minus T) (hr.mono (by decide)) (by rfl) T.g__law_minus T.F__law_minus.kp T.b__law_minus (fa_cons (fe_tup (fa_cons fe_int (fa_cons fe_int fa_nil))) (fa_cons (fe_var (pv 0)) fa_nil))) fa_nil)))))
      (fss_cons (fs_set (ps_set (i := 9) sc__law_floors.nd rfl (by first | exact Or.inl rfl | exact Or.inr rfl) (fe_call (ok__law_over T) (hr.mono (by decide)) (by rfl) T.g__law_over T.F__law_over.kp T.b__law_over (fa_cons (fe_var (pv 5)) (fa_cons (fe_call (ok__law_times T) (hr.mono (by decide)) (by rfl) T.g__law_times T.F__law_times.kp T.b__law_times (fa_cons (fe_var (pv 7)) (fa_cons (fe_var (pv 7)) fa_nil))) fa_nil)))))
      (fss_one (fs_ret (fe_call (ok__law_plus T) (hr.mono (by decide)) (by rfl) T.g__law_plus T.F__law_plus.kp T.b__law_plus (fa_cons (fe_call (ok__law_over T) (hr.mono (by decide)) (by rfl) T.g__law_over T.F__law_over.kp T.b__law_over (fa_cons (fe_var (pv 4)) (fa_cons (fe_var (pv 7)) fa_nil))) (fa_cons (fe_call (ok__law_times T) (hr.mono (by decide)) (by rfl) T.g__law_times T.F__law_times.kp T.b__law_times (fa_cons (fe_call (ok__law_times T) (hr.mono (by decide)) (by rfl) T.g__law_times T.F__law_times.kp T.b__law_times (fa_cons (fe_tup (fa_cons (fe_var (pv 2)) (fa_cons fe_int fa_nil))) (fa_cons (fe_var (pv 8)) fa_nil))) (fa_cons (fe_var (pv 9)) fa_nil))) fa_nil)))))))))))
theorem sc__law_ends : FnScope ["cut_so", "pair_so", "left", "far", "power_v", "rest"] ["cut_so", "pair_so"] (defScope (top 49)) := ⟨rfl, rfl, rfl, by decide +kernel, rfl, by decide +kernel, by decide +kernel⟩
theorem ok__law_ends (T : Tx K mg a fd) : FnG P w K mg base CX0 5 (a 49) (fd 49) ["cut_so", "pair_so"] (cSp s__law_ends) := by
  refine fnD_of (t := t__law_ends) T.F__law_ends sc__law_ends (fun ds n R h => ?_) (fun cdv A out s H E hr => ?_) p__law_ends
  · first | (obtain ⟨rfl, _⟩ := h; rfl) | (obtain ⟨_, rfl, _⟩ := h; rfl) | (obtain ⟨_, _, rfl, _⟩ := h; rfl) | (obtain ⟨_, _, _, rfl, _⟩ := h; rfl) | (obtain ⟨_, _, _, _, rfl, _⟩ := h; rfl) | (obtain ⟨_, _, _, _, _, rfl, _⟩ := h; rfl) | (obtain ⟨_, _, _, _, _, _, rfl, _⟩ := h; rfl) | (obtain ⟨_, _, _, _, _, _, _, rfl, _⟩ := h; rfl) | (obtain ⟨_, _, _, _, _, _, _, _, rfl, _⟩ := h; rfl) | (obtain ⟨_, _, _, _, _, _, _, _, _, rfl, _⟩ := h; rfl) | (obtain ⟨_, _, _, _, _, _, _, _, _, _, rfl, _⟩ := h; rfl) | (obtain ⟨_, _, _, _, _, _, _, _, _, _, _, rfl, _⟩ := h; rfl) | (obtain ⟨_, _, _, _, _, _, _, _, _, _, _, _, rfl, _⟩ := h; rfl) | (obtain ⟨_, _, _, _, _, _, _, _, _, _, _, _, _, rfl, _⟩ := h; rfl) | (obtain ⟨_, _, _, _, _, _, _, _, _, _, _, _, _, _, rfl, _⟩ := h; rfl) | (obtain ⟨_, _, _, _, _, _, _, _, _, _, _, _, _, _, _, rfl, _⟩ := h; rfl) | (obtain ⟨_, _, _, _, _, _, _, _, _, _, _, _, _, _, _, _, rfl, _⟩ := h; rfl) | (obtain ⟨_, _, _, _, _, _, _, _, _, _, _, _, _, _, _, _, _, rfl, _⟩ := h; rfl)
  · exact (fss_cons (fs_set (ps_set (i := 2) sc__law_ends.nd rfl (by first | exact Or.inl rfl | exact Or.inr rfl) (fe_call (ok__law_minus T) (hr.mono (by decide)) (by rfl) T.g__law_minus T.F__law_minus.kp T.b__law_minus (fa_cons (fe_tup (fa_cons fe_int (fa_cons fe_int fa_nil))) (fa_cons (fe_var (pv 0)) fa_nil)))))
      (fss_cons (fs_set (ps_set (i := 3) sc__law_ends.nd rfl (by first | exact Or.inl rfl | exact Or.inr rfl) (fe_call (ok__law_times T) (hr.mono (by decide)) (by rfl) T.g__law_times T.F__law_times.kp T.b__law_times (fa_cons (fe_call (ok__law_times T) (hr.mono (by decide)) (by rfl) T.g__law_times T.F__law_times.kp T.b__law_times (fa_cons (fe_var (pv 2)) (fa_cons (fe_var (pv 2)) fa_nil))) (fa_cons (fe_call (ok__law_floors T) (hr.mono (by decide)) (by rfl) T.g__law_floors T.F__law_floors.kp T.b__law_floors (fa_cons (fe_var (pv 0)) (fa_cons (fe_var (pv 1)) fa_nil))) fa_nil)))))
      (fss_cons (fs_set (ps_set (i := 4) sc__law_ends.nd rfl (by first | exact Or.inl rfl | exact Or.inr rfl) (fe_call (ok__law_power T) (hr.mono (by decide)) (by rfl) T.g__law_power T.F__law_power.kp T.b__law_power (fa_cons (fe_var (pv 0)) (fa_cons (fe_sub (fe_ixT (fe_var (pv 1)) fe_int (fun _ _ => rfl)) fe_int) fa_nil)))))
      (fss_cons (fs_set (ps_set (i := 5) sc__law_ends.nd rfl (by first | exact Or.inl rfl | exact Or.inr rfl) (fe_call (ok__law_minus T) (hr.mono (by decide)) (by rfl) T.g__law_minus T.F__law_minus.kp T.b__law_minus (fa_cons (fe_tup (fa_cons fe_int (fa_cons fe_int fa_nil))) (fa_cons (fe_call (ok__law_times T) (hr.mono (by decide)) (by rfl) T.g__law_times T.F__law_times.kp T.b__law_times (fa_cons (fe_var (pv 4)) (fa_cons (fe_var (pv 0)) fa_nil))) fa_nil)))))
      (fss_one (fs_ret (fe_tup (fa_cons (fe_call (ok__law_minus T) (hr.mono (by decide)) (by rfl) T.g__law_minus T.F__law_minus.kp T.b__law_minus (fa_cons (fe_var (pv 3)) (fa_cons (fe_call (ok__law_over T) (hr.mono (by decide)) (by rfl) T.g__law_over T.F__law_over.kp T.b__law_over (fa_cons (fe_call (ok__law_times T) (hr.mono (by decide)) (by rfl) T.g__law_times T.F__law_times.kp T.b__law_times (fa_cons (fe_call (ok__law_times T) (hr.mono (by decide)) (by rfl) T.g__law_times T.F__law_times.kp T.b__law_times (fa_cons (fe_var (pv 2)) (fa_cons (fe_var (pv 2)) fa_nil))) (fa_cons (fe_var (pv 4)) fa_nil))) (fa_cons (fe_var (pv 5)) fa_nil))) fa_nil))) (fa_cons (fe_var (pv 3)) fa_nil)))))))))
theorem sc__law_below : FnScope ["one", "two"] ["one", "two"] (defScope (top 46)) := ⟨rfl, rfl, rfl, by decide +kernel, rfl, by decide +kernel, by decide +kernel⟩
theorem ok__law_below (T : Tx K mg a fd) : FnG P w K mg base CX0 1 (a 46) (fd 46) ["one", "two"] (cSp s__law_below) := by
  refine fnD_of (t := t__law_below) T.F__law_below sc__law_below (fun ds n R h => ?_) (fun cdv A out s H E hr => ?_) p__law_below
  · first | (obtain ⟨rfl, _⟩ := h; rfl) | (obtain ⟨_, rfl, _⟩ := h; rfl) | (obtain ⟨_, _, rfl, _⟩ := h; rfl) | (obtain ⟨_, _, _, rfl, _⟩ := h; rfl) | (obtain ⟨_, _, _, _, rfl, _⟩ := h; rfl) | (obtain ⟨_, _, _, _, _, rfl, _⟩ := h; rfl) | (obtain ⟨_, _, _, _, _, _, rfl, _⟩ := h; rfl) | (obtain ⟨_, _, _, _, _, _, _, rfl, _⟩ := h; rfl) | (obtain ⟨_, _, _, _, _, _, _, _, rfl, _⟩ := h; rfl) | (obtain ⟨_, _, _, _, _, _, _, _, _, rfl, _⟩ := h; rfl) | (obtain ⟨_, _, _, _, _, _, _, _, _, _, rfl, _⟩ := h; rfl) | (obtain ⟨_, _, _, _, _, _, _, _, _, _, _, rfl, _⟩ := h; rfl) | (obtain ⟨_, _, _, _, _, _, _, _, _, _, _, _, rfl, _⟩ := h; rfl) | (obtain ⟨_, _, _, _, _, _, _, _, _, _, _, _, _, rfl, _⟩ := h; rfl) | (obtain ⟨_, _, _, _, _, _, _, _, _, _, _, _, _, _, rfl, _⟩ := h; rfl) | (obtain ⟨_, _, _, _, _, _, _, _, _, _, _, _, _, _, _, rfl, _⟩ := h; rfl) | (obtain ⟨_, _, _, _, _, _, _, _, _, _, _, _, _, _, _, _, rfl, _⟩ := h; rfl) | (obtain ⟨_, _, _, _, _, _, _, _, _, _, _, _, _, _, _, _, _, rfl, _⟩ := h; rfl)
  · exact (fss_one (fs_ret (fe_cmp op_lt ok_lt (fe_mul (fe_ixT (fe_var (pv 0)) fe_int (fun _ _ => rfl)) (fe_ixT (fe_var (pv 1)) fe_int (fun _ _ => rfl))) (fe_mul (fe_ixT (fe_var (pv 1)) fe_int (fun _ _ => rfl)) (fe_ixT (fe_var (pv 0)) fe_int (fun _ _ => rfl))) (nomark _))))
theorem sc_floor_sum : FnScope ["part", "mean", "rest", "above"] ["part", "mean"] (defScope (top 29)) := ⟨rfl, rfl, rfl, by decide +kernel, rfl, by decide +kernel, by decide +kernel⟩
theorem ok_floor_sum (T : Tx K mg a fd) : FnG P w K mg base CX0 6 (a 29) (fd 29) ["part", "mean"] (cSp s_floor_sum) := by
  refine fnD_of (t := t_floor_sum) T.F_floor_sum sc_floor_sum (fun ds n R h => ?_) (fun cdv A out s H E hr => ?_) p_floor_sum
  · first | (obtain ⟨rfl, _⟩ := h; rfl) | (obtain ⟨_, rfl, _⟩ := h; rfl) | (obtain ⟨_, _, rfl, _⟩ := h; rfl) | (obtain ⟨_, _, _, rfl, _⟩ := h; rfl) | (obtain ⟨_, _, _, _, rfl, _⟩ := h; rfl) | (obtain ⟨_, _, _, _, _, rfl, _⟩ := h; rfl) | (obtain ⟨_, _, _, _, _, _, rfl, _⟩ := h; rfl) | (obtain ⟨_, _, _, _, _, _, _, rfl, _⟩ := h; rfl) | (obtain ⟨_, _, _, _, _, _, _, _, rfl, _⟩ := h; rfl) | (obtain ⟨_, _, _, _, _, _, _, _, _, rfl, _⟩ := h; rfl) | (obtain ⟨_, _, _, _, _, _, _, _, _, _, rfl, _⟩ := h; rfl) | (obtain ⟨_, _, _, _, _, _, _, _, _, _, _, rfl, _⟩ := h; rfl) | (obtain ⟨_, _, _, _, _, _, _, _, _, _, _, _, rfl, _⟩ := h; rfl) | (obtain ⟨_, _, _, _, _, _, _, _, _, _, _, _, _, rfl, _⟩ := h; rfl) | (obtain ⟨_, _, _, _, _, _, _, _, _, _, _, _, _, _, rfl, _⟩ := h; rfl) | (obtain ⟨_, _, _, _, _, _, _, _, _, _, _, _, _, _, _, rfl, _⟩ := h; rfl) | (obtain ⟨_, _, _, _, _, _, _, _, _, _, _, _, _, _, _, _, rfl, _⟩ := h; rfl) | (obtain ⟨_, _, _, _, _, _, _, _, _, _, _, _, _, _, _, _, _, rfl, _⟩ := h; rfl)
  · exact (fss_cons (fs_expr (fe_call (ok_need_part_and_mean T) (hr.mono (by decide)) (by rfl) T.g_need_part_and_mean T.F_need_part_and_mean.kp T.b_need_part_and_mean (fa_cons (fe_var (pv 0)) (fa_cons (fe_var (pv 1)) fa_nil))))
      (fss_cons (fs_set (ps_set (i := 2) sc_floor_sum.nd rfl (by first | exact Or.inl rfl | exact Or.inr rfl) (fe_sub (fe_ixT (fe_var (pv 0)) fe_int (fun _ _ => rfl)) (fe_ixT (fe_var (pv 0)) fe_int (fun _ _ => rfl)))))
      (fss_cons (fs_set (ps_set (i := 3) sc_floor_sum.nd rfl (by first | exact Or.inl rfl | exact Or.inr rfl) (fe_mul (fe_mul (fe_ixT (fe_var (pv 0)) fe_int (fun _ _ => rfl)) (fe_ixT (fe_var (pv 0)) fe_int (fun _ _ => rfl))) (fe_call (ok_rhythm_sum T) (hr.mono (by decide)) (by rfl) T.g_rhythm_sum T.F_rhythm_sum.kp T.b_rhythm_sum (fa_cons (fe_var (pv 0)) (fa_cons (fe_var (pv 1)) fa_nil))))))
      (fss_one (fs_ret (fe_call (ok_reduced T) (hr.mono (by decide)) (by rfl) T.g_reduced T.F_reduced.kp T.b_reduced (fa_cons (fe_var (pv 3)) (fa_cons (fe_mul (fe_var (pv 2)) (fe_call (ok_powers_apart T) (hr.mono (by decide)) (by rfl) T.g_powers_apart T.F_powers_apart.kp T.b_powers_apart (fa_cons (fe_var (pv 0)) (fa_cons (fe_ixT (fe_var (pv 1)) fe_int (fun _ _ => rfl)) fa_nil)))) fa_nil))))))))
theorem sc_stretch_length : FnScope ["part", "mean", "length"] ["part", "mean"] (defScope (top 33)) := ⟨rfl, rfl, rfl, by decide +kernel, rfl, by decide +kernel, by decide +kernel⟩
theorem ok_stretch_length (T : Tx K mg a fd) : FnG P w K mg base CX0 6 (a 33) (fd 33) ["part", "mean"] (cSp s_stretch_length) := by
  refine fnD_of (t := t_stretch_length) T.F_stretch_length sc_stretch_length (fun ds n R h => ?_) (fun cdv A out s H E hr => ?_) p_stretch_length
  · first | (obtain ⟨rfl, _⟩ := h; rfl) | (obtain ⟨_, rfl, _⟩ := h; rfl) | (obtain ⟨_, _, rfl, _⟩ := h; rfl) | (obtain ⟨_, _, _, rfl, _⟩ := h; rfl) | (obtain ⟨_, _, _, _, rfl, _⟩ := h; rfl) | (obtain ⟨_, _, _, _, _, rfl, _⟩ := h; rfl) | (obtain ⟨_, _, _, _, _, _, rfl, _⟩ := h; rfl) | (obtain ⟨_, _, _, _, _, _, _, rfl, _⟩ := h; rfl) | (obtain ⟨_, _, _, _, _, _, _, _, rfl, _⟩ := h; rfl) | (obtain ⟨_, _, _, _, _, _, _, _, _, rfl, _⟩ := h; rfl) | (obtain ⟨_, _, _, _, _, _, _, _, _, _, rfl, _⟩ := h; rfl) | (obtain ⟨_, _, _, _, _, _, _, _, _, _, _, rfl, _⟩ := h; rfl) | (obtain ⟨_, _, _, _, _, _, _, _, _, _, _, _, rfl, _⟩ := h; rfl) | (obtain ⟨_, _, _, _, _, _, _, _, _, _, _, _, _, rfl, _⟩ := h; rfl) | (obtain ⟨_, _, _, _, _, _, _, _, _, _, _, _, _, _, rfl, _⟩ := h; rfl) | (obtain ⟨_, _, _, _, _, _, _, _, _, _, _, _, _, _, _, rfl, _⟩ := h; rfl) | (obtain ⟨_, _, _, _, _, _, _, _, _, _, _, _, _, _, _, _, rfl, _⟩ := h; rfl) | (obtain ⟨_, _, _, _, _, _, _, _, _, _, _, _, _, _, _, _, _, rfl, _⟩ := h; rfl)
  · exact (fss_cons (fs_expr (fe_call (ok_need_part_and_mean T) (hr.mono (by decide)) (by rfl) T.g_need_part_and_mean T.F_need_part_and_mean.kp T.b_need_part_and_mean (fa_cons (fe_var (pv 0)) (fa_cons (fe_var (pv 1)) fa_nil))))
      (fss_cons (fs_set (ps_set (i := 2) sc_stretch_length.nd rfl (by first | exact Or.inl rfl | exact Or.inr rfl) (fe_call (ok_length_of T) (hr.mono (by decide)) (by rfl) T.g_length_of T.F_length_of.kp T.b_length_of (fa_cons (fe_var (pv 0)) (fa_cons (fe_ixT (fe_var (pv 1)) fe_int (fun _ _ => rfl)) fa_nil)))))
      (fss_one (fs_ret (fe_call (ok_reduced T) (hr.mono (by decide)) (by rfl) T.g_reduced T.F_reduced.kp T.b_reduced (fa_cons (fe_ixT (fe_var (pv 2)) fe_int (fun _ _ => rfl)) (fa_cons (fe_ixT (fe_var (pv 2)) fe_int (fun _ _ => rfl)) fa_nil)))))))
theorem sc__law_right : FnScope ["draws_so", "cut_so", "pair_so", "due", "wide", "got", "left", "greater", "fresh", "step"] ["draws_so", "cut_so", "pair_so"] (defScope (top 51)) := ⟨rfl, rfl, rfl, by decide +kernel, rfl, by decide +kernel, by decide +kernel⟩
theorem ok__law_right (T : Tx K mg a fd) : FnG P w K mg base CX0 8 (a 51) (fd 51) ["draws_so", "cut_so", "pair_so"] (cSp s__law_right) := by
  refine fnD_of (t := t__law_right) T.F__law_right sc__law_right (fun ds n R h => ?_) (fun cdv A out s H E hr => ?_) p__law_right
  · first | (obtain ⟨rfl, _⟩ := h; rfl) | (obtain ⟨_, rfl, _⟩ := h; rfl) | (obtain ⟨_, _, rfl, _⟩ := h; rfl) | (obtain ⟨_, _, _, rfl, _⟩ := h; rfl) | (obtain ⟨_, _, _, _, rfl, _⟩ := h; rfl) | (obtain ⟨_, _, _, _, _, rfl, _⟩ := h; rfl) | (obtain ⟨_, _, _, _, _, _, rfl, _⟩ := h; rfl) | (obtain ⟨_, _, _, _, _, _, _, rfl, _⟩ := h; rfl) | (obtain ⟨_, _, _, _, _, _, _, _, rfl, _⟩ := h; rfl) | (obtain ⟨_, _, _, _, _, _, _, _, _, rfl, _⟩ := h; rfl) | (obtain ⟨_, _, _, _, _, _, _, _, _, _, rfl, _⟩ := h; rfl) | (obtain ⟨_, _, _, _, _, _, _, _, _, _, _, rfl, _⟩ := h; rfl) | (obtain ⟨_, _, _, _, _, _, _, _, _, _, _, _, rfl, _⟩ := h; rfl) | (obtain ⟨_, _, _, _, _, _, _, _, _, _, _, _, _, rfl, _⟩ := h; rfl) | (obtain ⟨_, _, _, _, _, _, _, _, _, _, _, _, _, _, rfl, _⟩ := h; rfl) | (obtain ⟨_, _, _, _, _, _, _, _, _, _, _, _, _, _, _, rfl, _⟩ := h; rfl) | (obtain ⟨_, _, _, _, _, _, _, _, _, _, _, _, _, _, _, _, rfl, _⟩ := h; rfl) | (obtain ⟨_, _, _, _, _, _, _, _, _, _, _, _, _, _, _, _, _, rfl, _⟩ := h; rfl)
  · exact (fss_cons (fs_set (ps_set (i := 3) sc__law_right.nd rfl (by first | exact Or.inl rfl | exact Or.inr rfl) (fe_call (ok__law_ends T) (hr.mono (by decide)) (by rfl) T.g__law_ends T.F__law_ends.kp T.b__law_ends (fa_cons (fe_var (pv 1)) (fa_cons (fe_var (pv 2)) fa_nil)))))
      (fss_cons (fs_set (ps_set (i := 4) sc__law_right.nd rfl (by first | exact Or.inl rfl | exact Or.inr rfl) (fe_call (ok__law_minus T) (hr.mono (by decide)) (by rfl) T.g__law_minus T.F__law_minus.kp T.b__law_minus (fa_cons (fe_ixT (fe_var (pv 3)) fe_int (fun _ _ => rfl)) (fa_cons (fe_ixT (fe_var (pv 3)) fe_int (fun _ _ => rfl)) fa_nil)))))
      (fss_cons (fs_set (ps_set (i := 5) sc__law_right.nd rfl (by first | exact Or.inl rfl | exact Or.inr rfl) (fe_lst (fa_cons (fe_call (ok_stretch_of T) (hr.mono (by decide)) (by rfl) T.g_stretch_of T.F_stretch_of.kp T.b_stretch_of (fa_cons (fe_var (pv 1)) (fa_cons (fe_var (pv 2)) fa_nil))) (fa_cons (fe_call (ok_low_end T) (hr.mono (by decide)) (by rfl) T.g_low_end T.F_low_end.kp T.b_low_end (fa_cons (fe_var (pv 1)) (fa_cons (fe_var (pv 2)) fa_nil))) (fa_cons (fe_call (ok_high_end T) (hr.mono (by decide)) (by rfl) T.g_high_end T.F_high_end.kp T.b_high_end (fa_cons (fe_var (pv 1)) (fa_cons (fe_var (pv 2)) fa_nil))) fa_nil))))))
      (fss_cons (fs_if (ft_not (ft_val (fe_call (ok__law_like T) (hr.mono (by decide)) (by rfl) T.g__law_like T.F__law_like.kp T.b__law_like (fa_cons (fe_op op_cat ok_cat (fe_var (pv 5)) (fe_lst (fa_cons (fe_call (ok_stretch_length T) (hr.mono (by decide)) (by rfl) T.g_stretch_length T.F_stretch_length.kp T.b_stretch_length (fa_cons (fe_var (pv 1)) (fa_cons (fe_var (pv 2)) fa_nil))) fa_nil))) (fa_cons (fe_lst (fa_cons (fe_var (pv 3)) (fa_cons (fe_ixT (fe_var (pv 3)) fe_int (fun _ _ => rfl)) (fa_cons (fe_ixT (fe_var (pv 3)) fe_int (fun _ _ => rfl)) (fa_cons (fe_var (pv 4)) fa_nil))))) fa_nil))))) (fss_one (fs_ret fe_bl)) fss_nil)
      (fss_cons (fs_set (ps_set (i := 6) sc__law_right.nd rfl (by first | exact Or.inl rfl | exact Or.inr rfl) (fe_call (ok__law_minus T) (hr.mono (by decide)) (by rfl) T.g__law_minus T.F__law_minus.kp T.b__law_minus (fa_cons (fe_tup (fa_cons fe_int (fa_cons fe_int fa_nil))) (fa_cons (fe_var (pv 1)) fa_nil)))))
      (fss_cons (fs_if (ft_not (ft_val (fe_call (ok__law_like T) (hr.mono (by decide)) (by rfl) T.g__law_like T.F__law_like.kp T.b__law_like (fa_cons (fe_ixT (fe_var (pv 3)) fe_int (fun _ _ => rfl)) (fa_cons (fe_call (ok__law_times T) (hr.mono (by decide)) (by rfl) T.g__law_times T.F__law_times.kp T.b__law_times (fa_cons (fe_call (ok__law_times T) (hr.mono (by decide)) (by rfl) T.g__law_times T.F__law_times.kp T.b__law_times (fa_cons (fe_var (pv 6)) (fa_cons (fe_var (pv 6)) fa_nil))) (fa_cons (fe_call (ok_floor_sum T) (hr.mono (by decide)) (by rfl) T.g_floor_sum T.F_floor_sum.kp T.b_floor_sum (fa_cons (fe_var (pv 1)) (fa_cons (fe_var (pv 2)) fa_nil))) fa_nil))) fa_nil))))) (fss_one (fs_ret fe_bl)) fss_nil)
      (fss_cons (fs_if (PW.pt (fw_or (ft_not (ft_val (fe_call (ok__law_below T) (hr.mono (by decide)) (by rfl) T.g__law_below T.F__law_below.kp T.b__law_below (fa_cons (fe_ixT (fe_var (pv 3)) fe_int (fun _ _ => rfl)) (fa_cons (fe_ixT (fe_var (pv 3)) fe_int (fun _ _ => rfl)) fa_nil))))) (fw_or1 (ft_val (fe_call (ok__law_below T) (hr.mono (by decide)) (by rfl) T.g__law_below T.F__law_below.kp T.b__law_below (fa_cons (fe_ixT (fe_var (pv 3)) fe_int (fun _ _ => rfl)) (fa_cons (fe_var (pv 1)) fa_nil))))))) (fss_one (fs_ret fe_bl)) fss_nil)
      (fss_cons (fs_set (ps_set (i := 7) sc__law_right.nd rfl (by first | exact Or.inl rfl | exact Or.inr rfl) (fe_call (ok__law_plus T) (hr.mono (by decide)) (by rfl) T.g__law_plus T.F__law_plus.kp T.b__law_plus (fa_cons (fe_var (pv 2)) (fa_cons (fe_tup (fa_cons fe_int (fa_cons fe_int fa_nil))) fa_nil)))))
      (fss_cons (fs_if (ft_not (ft_val (fe_call (ok__law_like T) (hr.mono (by decide)) (by rfl) T.g__law_like T.F__law_like.kp T.b__law_like (fa_cons (fe_call (ok_stretch_of T) (hr.mono (by decide)) (by rfl) T.g_stretch_of T.F_stretch_of.kp T.b_stretch_of (fa_cons (fe_var (pv 1)) (fa_cons (fe_var (pv 7)) fa_nil))) (fa_cons (fe_tup (fa_cons (fe_call (ok__law_plus T) (hr.mono (by decide)) (by rfl) T.g__law_plus T.F__law_plus.kp T.b__law_plus (fa_cons (fe_ixT (fe_var (pv 3)) fe_int (fun _ _ => rfl)) (fa_cons (fe_tup (fa_cons fe_int (fa_cons fe_int fa_nil))) fa_nil))) (fa_cons (fe_call (ok__law_plus T) (hr.mono (by decide)) (by rfl) T.g__law_plus T.F__law_plus.kp T.b__law_plus (fa_cons (fe_ixT (fe_var (pv 3)) fe_int (fun _ _ => rfl)) (fa_cons (fe_tup (fa_cons fe_int (fa_cons fe_int fa_nil))) fa_nil))) fa_nil))) fa_nil))))) (fss_one (fs_ret fe_bl)) fss_nil)
      (fss_cons (fs_set (ps_set (i := 8) sc__law_right.nd rfl (by first | exact Or.inl rfl | exact Or.inr rfl) (fe_tup (fa_cons (fe_add (fe_ixT (fe_var (pv 2)) fe_int (fun _ _ => rfl)) (fe_mul (fe_ixT (fe_var (pv 2)) fe_int (fun _ _ => rfl)) (fe_call (ok__law_draw T) (hr.mono (by decide)) (by rfl) T.g__law_draw T.F__law_draw.kp T.b__law_draw (fa_cons (fe_var (pv 0)) (fa_cons fe_int fa_nil))))) (fa_cons (fe_ixT (fe_var (pv 2)) fe_int (fun _ _ => rfl)) fa_nil)))))
      (fss_cons (fs_forR (i := 9) (ps_for PassesOwn.never rfl (pi_range1 (by rfl) T.n_range (pa_cons (fe_ixT (fe_var (pv 2)) fe_int (fun _ _ => rfl)) pa_nil)) (pg_name (i := 9) sc__law_right.nd rfl (by first | exact Or.inl rfl | exact Or.inr rfl)) (fss_one (fs_if (PW.pt (fw_or (ft_cmp (op_eqD hr.rm.units) (ok_eq _) (fe_call (ok__law_divisor T) (hr.mono (by decide)) (by rfl) T.g__law_divisor T.F__law_divisor.kp T.b__law_divisor (fa_cons (fe_add (fe_ixT (fe_var (pv 8)) fe_int (fun _ _ => rfl)) (fe_var (pv 9))) (fa_cons (fe_ixT (fe_var (pv 8)) fe_int (fun _ _ => rfl)) fa_nil))) fe_int (nomark _)) (fw_or1 (ft_cmp (op_eqD hr.rm.units) (ok_eq _) (fe_ixT (fe_var (pv 8)) fe_int (fun _ _ => rfl)) fe_int (nomark _))))) (fss_one (fs_ret (fe_call (ok__law_like T) (hr.mono (by decide)) (by rfl) T.g__law_like T.F__law_like.kp T.b__law_like (fa_cons (fe_call (ok_stretch_length T) (hr.mono (by decide)) (by rfl) T.g_stretch_length T.F_stretch_length.kp T.b_stretch_length (fa_cons (fe_var (pv 1)) (fa_cons (fe_tup (fa_cons (fe_add (fe_ixT (fe_var (pv 8)) fe_int (fun _ _ => rfl)) (fe_var (pv 9))) (fa_cons (fe_ixT (fe_var (pv 8)) fe_int (fun _ _ => rfl)) fa_nil))) fa_nil))) (fa_cons (fe_var (pv 4)) fa_nil))))) fss_nil))))
      (fss_one (fs_ret fe_bl)))))))))))))
theorem sc__law_pair : FnScope ["draws_so", "most_so", "low"] ["draws_so", "most_so"] (defScope (top 39)) := ⟨rfl, rfl, rfl, by decide +kernel, rfl, by decide +kernel, by decide +kernel⟩
theorem ok__law_pair (T : Tx K mg a fd) : FnG P w K mg base CX0 3 (a 39) (fd 39) ["draws_so", "most_so"] (cSp s__law_pair) := by
  refine fnD_of (t := t__law_pair) T.F__law_pair sc__law_pair (fun ds n R h => ?_) (fun cdv A out s H E hr => ?_) p__law_pair
  · first | (obtain ⟨rfl, _⟩ := h; rfl) | (obtain ⟨_, rfl, _⟩ := h; rfl) | (obtain ⟨_, _, rfl, _⟩ := h; rfl) | (obtain ⟨_, _, _, rfl, _⟩ := h; rfl) | (obtain ⟨_, _, _, _, rfl, _⟩ := h; rfl) | (obtain ⟨_, _, _, _, _, rfl, _⟩ := h; rfl) | (obtain ⟨_, _, _, _, _, _, rfl, _⟩ := h; rfl) | (obtain ⟨_, _, _, _, _, _, _, rfl, _⟩ := h; rfl) | (obtain ⟨_, _, _, _, _, _, _, _, rfl, _⟩ := h; rfl) | (obtain ⟨_, _, _, _, _, _, _, _, _, rfl, _⟩ := h; rfl) | (obtain ⟨_, _, _, _, _, _, _, _, _, _, rfl, _⟩ := h; rfl) | (obtain ⟨_, _, _, _, _, _, _, _, _, _, _, rfl, _⟩ := h; rfl) | (obtain ⟨_, _, _, _, _, _, _, _, _, _, _, _, rfl, _⟩ := h; rfl) | (obtain ⟨_, _, _, _, _, _, _, _, _, _, _, _, _, rfl, _⟩ := h; rfl) | (obtain ⟨_, _, _, _, _, _, _, _, _, _, _, _, _, _, rfl, _⟩ := h; rfl) | (obtain ⟨_, _, _, _, _, _, _, _, _, _, _, _, _, _, _, rfl, _⟩ := h; rfl) | (obtain ⟨_, _, _, _, _, _, _, _, _, _, _, _, _, _, _, _, rfl, _⟩ := h; rfl) | (obtain ⟨_, _, _, _, _, _, _, _, _, _, _, _, _, _, _, _, _, rfl, _⟩ := h; rfl)
  · exact (fss_cons (fs_set (ps_set (i := 2) sc__law_pair.nd rfl (by first | exact Or.inl rfl | exact Or.inr rfl) (fe_add fe_int (fe_call (ok__law_draw T) (hr.mono (by decide)) (by rfl) T.g__law_draw T.F__law_draw.kp T.b__law_draw (fa_cons (fe_var (pv 0)) (fa_cons (fe_var (pv 1)) fa_nil))))))
      (fss_one (fs_ret (fe_call (ok__law_share T) (hr.mono (by decide)) (by rfl) T.g__law_share T.F__law_share.kp T.b__law_share (fa_cons (fe_add (fe_var (pv 2)) (fe_call (ok__law_draw T) (hr.mono (by decide)) (by rfl) T.g__law_draw T.F__law_draw.kp T.b__law_draw (fa_cons (fe_var (pv 0)) (fa_cons (fe_add (fe_mul fe_int (fe_var (pv 2))) fe_int) fa_nil)))) (fa_cons (fe_var (pv 2)) fa_nil))))))
theorem sc_law : FnScope ["script", "draws_so", "step", "cut_so", "count", "ends_so", "got"] ["script"] (defScope (top 52)) := ⟨rfl, rfl, rfl, by decide +kernel, rfl, by decide +kernel, by decide +kernel⟩
theorem ok_law (T : Tx K mg a fd) : FnG P w K mg base CX0 9 (a 52) (fd 52) ["script"] (spLaw K) := by
  refine fnG_of T.F_law sc_law (fun vs H Q E h => by obtain ⟨_, _, rfl, _⟩ := h; rfl) fun cdv A out s H vs Q E hr h => ⟨tLawOf K t_law, PSs.nox ?_, pure_law (m := 5) rfl p_law vs H Q E h⟩
  exact pss_cons (ps_set (i := 1) sc_law.nd rfl (by first | exact Or.inl rfl | exact Or.inr rfl) (peG_call (ok__law_begin T) (hr.mono (by decide)) (by rfl) T.g__law_begin T.F__law_begin.kp T.b__law_begin (pa_cons (pv 0) pa_nil)))
    (fss_cons (fs_forR (i := 2) (ps_for PassesOwn.never rfl (pi_range1 (by rfl) T.n_range (pa_cons fe_int pa_nil)) (pg_name (i := 2) sc_law.nd rfl (by first | exact Or.inl rfl | exact Or.inr rfl)) (fss_cons (fs_par (ps_par (i := 3) (j := 4) rfl sc_law.nd rfl rfl (by decide) rfl rfl (fa_cons (fe_call (ok__law_cut T) (hr.mono (by decide)) (by rfl) T.g__law_cut T.F__law_cut.kp T.b__law_cut (fa_cons (fe_var (pv 1)) fa_nil)) (fa_cons (fe_add fe_int (fe_call (ok__law_draw T) (hr.mono (by decide)) (by rfl) T.g__law_draw T.F__law_draw.kp T.b__law_draw (fa_cons (fe_var (pv 1)) (fa_cons fe_int fa_nil)))) fa_nil)) (by rfl)))
      (fss_cons (fs_if (ft_not (ft_val (fe_call (ok__law_right T) (hr.mono (by decide)) (by rfl) T.g__law_right T.F__law_right.kp T.b__law_right (fa_cons (fe_var (pv 1)) (fa_cons (fe_var (pv 3)) (fa_cons (fe_call (ok__law_pair T) (hr.mono (by decide)) (by rfl) T.g__law_pair T.F__law_pair.kp T.b__law_pair (fa_cons (fe_var (pv 1)) (fa_cons fe_int fa_nil))) fa_nil)))))) (fss_one (fs_ret fe_bl)) fss_nil)
      (fss_cons (fs_set (ps_set (i := 5) sc_law.nd rfl (by first | exact Or.inl rfl | exact Or.inr rfl) (fe_tup (fa_cons (fe_call (ok__law_plus T) (hr.mono (by decide)) (by rfl) T.g__law_plus T.F__law_plus.kp T.b__law_plus (fa_cons (fe_tup (fa_cons (fe_sub (fe_var (pv 4)) fe_int) (fa_cons fe_int fa_nil))) (fa_cons (fe_var (pv 3)) fa_nil))) (fa_cons (fe_tup (fa_cons (fe_var (pv 4)) (fa_cons fe_int fa_nil))) fa_nil)))))
      (fss_one (fs_if (ft_not (ft_val (fe_call (ok__law_like T) (hr.mono (by decide)) (by rfl) T.g__law_like T.F__law_like.kp T.b__law_like (fa_cons (fe_callK (ks := ["mean", "part"]) (ok_stretch_of T) (hr.mono (by decide)) (by rfl) T.g_stretch_of T.F_stretch_of.kp prev_ok T.kb_stretch_of_pRev (fk_cons (fe_tup (fa_cons (fe_var (pv 4)) (fa_cons fe_int fa_nil))) (fk_cons (fe_var (pv 3)) fk_nil))) (fa_cons (fe_var (pv 5)) fa_nil))))) (fss_one (fs_ret fe_bl)) fss_nil)))))))
      (fss_cons (fs_set (ps_set (i := 6) sc_law.nd rfl (by first | exact Or.inl rfl | exact Or.inr rfl) (fe_lst (fa_cons (fe_call (ok_stretch_of T) (hr.mono (by decide)) (by rfl) T.g_stretch_of T.F_stretch_of.kp T.b_stretch_of (fa_cons (fe_tup (fa_cons fe_int (fa_cons fe_int fa_nil))) (fa_cons (fe_tup (fa_cons fe_int (fa_cons fe_int fa_nil))) fa_nil))) (fa_cons (fe_call (ok_stretch_of T) (hr.mono (by decide)) (by rfl) T.g_stretch_of T.F_stretch_of.kp T.b_stretch_of (fa_cons (fe_tup (fa_cons fe_int (fa_cons fe_int fa_nil))) (fa_cons (fe_tup (fa_cons fe_int (fa_cons fe_int fa_nil))) fa_nil))) (fa_cons (fe_callK (ks := ["mean", "part"]) (ok_high_end T) (hr.mono (by decide)) (by rfl) T.g_high_end T.F_high_end.kp prev_ok T.kb_high_end_pRev (fk_cons (fe_tup (fa_cons fe_int (fa_cons fe_int fa_nil))) (fk_cons (fe_tup (fa_cons fe_int (fa_cons fe_int fa_nil))) fk_nil))) fa_nil))))))
      (fss_cons (fs_set (ps_set (i := 6) sc_law.nd rfl (by first | exact Or.inl rfl | exact Or.inr rfl) (fe_op op_cat ok_cat (fe_var (pv 6)) (fe_lst (fa_cons (fe_callK (ks := ["mean", "part"]) (ok_low_end T) (hr.mono (by decide)) (by rfl) T.g_low_end T.F_low_end.kp prev_ok T.kb_low_end_pRev (fk_cons (fe_tup (fa_cons fe_int (fa_cons fe_int fa_nil))) (fk_cons (fe_tup (fa_cons fe_int (fa_cons fe_int fa_nil))) fk_nil))) (fa_cons (fe_callK (ks := ["mean", "part"]) (ok_stretch_length T) (hr.mono (by decide)) (by rfl) T.g_stretch_length T.F_stretch_length.kp prev_ok T.kb_stretch_length_pRev (fk_cons (fe_tup (fa_cons fe_int (fa_cons fe_int fa_nil))) (fk_cons (fe_tup (fa_cons fe_int (fa_cons fe_int fa_nil))) fk_nil))) fa_nil))))))
      (fss_one (fs_ret (fe_call (ok__law_like T) (hr.mono (by decide)) (by rfl) T.g__law_like T.F__law_like.kp T.b__law_like (fa_cons (fe_var (pv 6)) (fa_cons (fe_lst (fa_cons (fe_tup (fa_cons (fe_tup (fa_cons fe_int (fa_cons fe_int fa_nil))) (fa_cons (fe_tup (fa_cons fe_int (fa_cons fe_int fa_nil))) fa_nil))) (fa_cons (fe_tup (fa_cons (fe_tup (fa_cons fe_int (fa_cons fe_int fa_nil))) (fa_cons (fe_tup (fa_cons fe_int (fa_cons fe_int fa_nil))) fa_nil))) (fa_cons (fe_tup (fa_cons fe_int (fa_cons fe_int fa_nil))) (fa_cons (fe_tup (fa_cons fe_int (fa_cons fe_int fa_nil))) (fa_cons (fe_tup (fa_cons fe_int (fa_cons fe_int fa_nil))) fa_nil)))))) fa_nil))))))))
end
theorem all_mk {l : PySem.W.OpenLaw} {w : World} {K : PySem.W.Frag} {h : Heap} {mg : Str → Option Value} {fa : Addr} (X : K.In h) (G : h.Ns mainGlobals mg) (hfa : mg "law" = some (.ref fa))
    {f36 : Addr} {od36 an36 : Option Addr} {sl36 : Array (Option Value)} {oc36 kV36 dc36 pm36 cd36 ct36 : Value}
    {f50 : Addr} {od50 an50 : Option Addr} {sl50 : Array (Option Value)} {oc50 kV50 dc50 pm50 cd50 ct50 : Value}
    {f9 : Addr} {od9 an9 : Option Addr} {sl9 : Array (Option Value)} {oc9 kV9 dc9 pm9 cd9 ct9 : Value}
    {f10 : Addr} {od10 an10 : Option Addr} {sl10 : Array (Option Value)} {oc10 kV10 dc10 pm10 cd10 ct10 : Value}
    {f19 : Addr} {od19 an19 : Option Addr} {sl19 : Array (Option Value)} {oc19 kV19 dc19 pm19 cd19 ct19 : Value}
    {f20 : Addr} {od20 an20 : Option Addr} {sl20 : Array (Option Value)} {oc20 kV20 dc20 pm20 cd20 ct20 : Value}
    {f13 : Addr} {od13 an13 : Option Addr} {sl13 : Array (Option Value)} {oc13 kV13 dc13 pm13 cd13 ct13 : Value}
    {f14 : Addr} {od14 an14 : Option Addr} {sl14 : Array (Option Value)} {oc14 kV14 dc14 pm14 cd14 ct14 : Value}
    {f28 : Addr} {od28 an28 : Option Addr} {sl28 : Array (Option Value)} {oc28 kV28 dc28 pm28 cd28 ct28 : Value}
    {f3 : Addr} {od3 an3 : Option Addr} {sl3 : Array (Option Value)} {oc3 kV3 dc3 pm3 cd3 ct3 : Value}
    {f24 : Addr} {od24 an24 : Option Addr} {sl24 : Array (Option Value)} {oc24 kV24 dc24 pm24 cd24 ct24 : Value}
    {f22 : Addr} {od22 an22 : Option Addr} {sl22 : Array (Option Value)} {oc22 kV22 dc22 pm22 cd22 ct22 : Value}
    {f15 : Addr} {od15 an15 : Option Addr} {sl15 : Array (Option Value)} {oc15 kV15 dc15 pm15 cd15 ct15 : Value}
    {f16 : Addr} {od16 an16 : Option Addr} {sl16 : Array (Option Value)} {oc16 kV16 dc16 pm16 cd16 ct16 : Value}
    {f23 : Addr} {od23 an23 : Option Addr} {sl23 : Array (Option Value)} {oc23 kV23 dc23 pm23 cd23 ct23 : Value}
    {f25 : Addr} {od25 an25 : Option Addr} {sl25 : Array (Option Value)} {oc25 kV25 dc25 pm25 cd25 ct25 : Value}
    {f26 : Addr} {od26 an26 : Option Addr} {sl26 : Array (Option Value)} {oc26 kV26 dc26 pm26 cd26 ct26 : Value}
    {f27 : Addr} {od27 an27 : Option Addr} {sl27 : Array (Option Value)} {oc27 kV27 dc27 pm27 cd27 ct27 : Value}
    {f2 : Addr} {od2 an2 : Option Addr} {sl2 : Array (Option Value)} {oc2 kV2 dc2 pm2 cd2 ct2 : Value}
    {f31 : Addr} {od31 an31 : Option Addr} {sl31 : Array (Option Value)} {oc31 kV31 dc31 pm31 cd31 ct31 : Value}
    {f32 : Addr} {od32 an32 : Option Addr} {sl32 : Array (Option Value)} {oc32 kV32 dc32 pm32 cd32 ct32 : Value}
    {f30 : Addr} {od30 an30 : Option Addr} {sl30 : Array (Option Value)} {oc30 kV30 dc30 pm30 cd30 ct30 : Value}
    {f40 : Addr} {od40 an40 : Option Addr} {sl40 : Array (Option Value)} {oc40 kV40 dc40 pm40 cd40 ct40 : Value}
    {f41 : Addr} {od41 an41 : Option Addr} {sl41 : Array (Option Value)} {oc41 kV41 dc41 pm41 cd41 ct41 : Value}
    {f35 : Addr} {od35 an35 : Option Addr} {sl35 : Array (Option Value)} {oc35 kV35 dc35 pm35 cd35 ct35 : Value}
    {f37 : Addr} {od37 an37 : Option Addr} {sl37 : Array (Option Value)} {oc37 kV37 dc37 pm37 cd37 ct37 : Value}
    {f38 : Addr} {od38 an38 : Option Addr} {sl38 : Array (Option Value)} {oc38 kV38 dc38 pm38 cd38 ct38 : Value}
    {f43 : Addr} {od43 an43 : Option Addr} {sl43 : Array (Option Value)} {oc43 kV43 dc43 pm43 cd43 ct43 : Value}
    {f44 : Addr} {od44 an44 : Option Addr} {sl44 : Array (Option Value)} {oc44 kV44 dc44 pm44 cd44 ct44 : Value}
    {f47 : Addr} {od47 an47 : Option Addr} {sl47 : Array (Option Value)} {oc47 kV47 dc47 pm47 cd47 ct47 : Value}
    {f45 : Addr} {od45 an45 : Option Addr} {sl45 : Array (Option Value)} {oc45 kV45 dc45 pm45 cd45 ct45 : Value}
    {f42 : Addr} {od42 an42 : Option Addr} {sl42 : Array (Option Value)} {oc42 kV42 dc42 pm42 cd42 ct42 : Value}
    {f48 : Addr} {od48 an48 : Option Addr} {sl48 : Array (Option Value)} {oc48 kV48 dc48 pm48 cd48 ct48 : Value}
    {f49 : Addr} {od49 an49 : Option Addr} {sl49 : Array (Option Value)} {oc49 kV49 dc49 pm49 cd49 ct49 : Value}
    {f46 : Addr} {od46 an46 : Option Addr} {sl46 : Array (Option Value)} {oc46 kV46 dc46 pm46 cd46 ct46 : Value}
    {f29 : Addr} {od29 an29 : Option Addr} {sl29 : Array (Option Value)} {oc29 kV29 dc29 pm29 cd29 ct29 : Value}
    {f33 : Addr} {od33 an33 : Option Addr} {sl33 : Array (Option Value)} {oc33 kV33 dc33 pm33 cd33 ct33 : Value}
    {f51 : Addr} {od51 an51 : Option Addr} {sl51 : Array (Option Value)} {oc51 kV51 dc51 pm51 cd51 ct51 : Value}
    {f39 : Addr} {od39 an39 : Option Addr} {sl39 : Array (Option Value)} {oc39 kV39 dc39 pm39 cd39 ct39 : Value}
    {f52 : Addr} {od52 an52 : Option Addr} {sl52 : Array (Option Value)} {oc52 kV52 dc52 pm52 cd52 ct52 : Value}
    (a36 : PySem.W.nsIn K mainGlobals "_law_begin" = some (some (.ref f36))) (l36 : K.lookup f36 = some ⟨oc36, od36, .func (PySem.W.fnOf "_law_begin" "_law_begin" (defArgs (top 36)) (defBody (top 36)) (defScope (top 36)) .none kV36 dc36 pm36 an36 cd36 ct36), sl36⟩) (c36 : PySem.W.codeIn K cd36 "_law_begin" = true) (k36 : PySem.W.keepIn K (.ref f36) = true)
    (a50 : PySem.W.nsIn K mainGlobals "_law_like" = some (some (.ref f50))) (l50 : K.lookup f50 = some ⟨oc50, od50, .func (PySem.W.fnOf "_law_like" "_law_like" (defArgs (top 50)) (defBody (top 50)) (defScope (top 50)) .none kV50 dc50 pm50 an50 cd50 ct50), sl50⟩) (c50 : PySem.W.codeIn K cd50 "_law_like" = true) (k50 : PySem.W.keepIn K (.ref f50) = true)
    (a9 : PySem.W.nsIn K mainGlobals "is_integer" = some (some (.ref f9))) (l9 : K.lookup f9 = some ⟨oc9, od9, .func (PySem.W.fnOf "is_integer" "is_integer" (defArgs (top 9)) (defBody (top 9)) (defScope (top 9)) .none kV9 dc9 pm9 an9 cd9 ct9), sl9⟩) (c9 : PySem.W.codeIn K cd9 "is_integer" = true) (k9 : PySem.W.keepIn K (.ref f9) = true)
    (a10 : PySem.W.nsIn K mainGlobals "is_fraction" = some (some (.ref f10))) (l10 : K.lookup f10 = some ⟨oc10, od10, .func (PySem.W.fnOf "is_fraction" "is_fraction" (defArgs (top 10)) (defBody (top 10)) (defScope (top 10)) .none kV10 dc10 pm10 an10 cd10 ct10), sl10⟩) (c10 : PySem.W.codeIn K cd10 "is_fraction" = true) (k10 : PySem.W.keepIn K (.ref f10) = true)
    (a19 : PySem.W.nsIn K mainGlobals "is_part" = some (some (.ref f19))) (l19 : K.lookup f19 = some ⟨oc19, od19, .func (PySem.W.fnOf "is_part" "is_part" (defArgs (top 19)) (defBody (top 19)) (defScope (top 19)) .none kV19 dc19 pm19 an19 cd19 ct19), sl19⟩) (c19 : PySem.W.codeIn K cd19 "is_part" = true) (k19 : PySem.W.keepIn K (.ref f19) = true)
    (a20 : PySem.W.nsIn K mainGlobals "need_part" = some (some (.ref f20))) (l20 : K.lookup f20 = some ⟨oc20, od20, .func (PySem.W.fnOf "need_part" "need_part" (defArgs (top 20)) (defBody (top 20)) (defScope (top 20)) .none kV20 dc20 pm20 an20 cd20 ct20), sl20⟩) (c20 : PySem.W.codeIn K cd20 "need_part" = true) (k20 : PySem.W.keepIn K (.ref f20) = true)
    (a13 : PySem.W.nsIn K mainGlobals "is_any_mean" = some (some (.ref f13))) (l13 : K.lookup f13 = some ⟨oc13, od13, .func (PySem.W.fnOf "is_any_mean" "is_any_mean" (defArgs (top 13)) (defBody (top 13)) (defScope (top 13)) .none kV13 dc13 pm13 an13 cd13 ct13), sl13⟩) (c13 : PySem.W.codeIn K cd13 "is_any_mean" = true) (k13 : PySem.W.keepIn K (.ref f13) = true)
    (a14 : PySem.W.nsIn K mainGlobals "need_mean" = some (some (.ref f14))) (l14 : K.lookup f14 = some ⟨oc14, od14, .func (PySem.W.fnOf "need_mean" "need_mean" (defArgs (top 14)) (defBody (top 14)) (defScope (top 14)) .none kV14 dc14 pm14 an14 cd14 ct14), sl14⟩) (c14 : PySem.W.codeIn K cd14 "need_mean" = true) (k14 : PySem.W.keepIn K (.ref f14) = true)
    (a28 : PySem.W.nsIn K mainGlobals "need_part_and_mean" = some (some (.ref f28))) (l28 : K.lookup f28 = some ⟨oc28, od28, .func (PySem.W.fnOf "need_part_and_mean" "need_part_and_mean" (defArgs (top 28)) (defBody (top 28)) (defScope (top 28)) .none kV28 dc28 pm28 an28 cd28 ct28), sl28⟩) (c28 : PySem.W.codeIn K cd28 "need_part_and_mean" = true) (k28 : PySem.W.keepIn K (.ref f28) = true)
    (a3 : PySem.W.nsIn K mainGlobals "power" = some (some (.ref f3))) (l3 : K.lookup f3 = some ⟨oc3, od3, .func (PySem.W.fnOf "power" "power" (defArgs (top 3)) (defBody (top 3)) (defScope (top 3)) .none kV3 dc3 pm3 an3 cd3 ct3), sl3⟩) (c3 : PySem.W.codeIn K cd3 "power" = true) (k3 : PySem.W.keepIn K (.ref f3) = true)
    (a24 : PySem.W.nsIn K mainGlobals "powers_apart" = some (some (.ref f24))) (l24 : K.lookup f24 = some ⟨oc24, od24, .func (PySem.W.fnOf "powers_apart" "powers_apart" (defArgs (top 24)) (defBody (top 24)) (defScope (top 24)) .none kV24 dc24 pm24 an24 cd24 ct24), sl24⟩) (c24 : PySem.W.codeIn K cd24 "powers_apart" = true) (k24 : PySem.W.keepIn K (.ref f24) = true)
    (a22 : PySem.W.nsIn K mainGlobals "weighed_sum" = some (some (.ref f22))) (l22 : K.lookup f22 = some ⟨oc22, od22, .func (PySem.W.fnOf "weighed_sum" "weighed_sum" (defArgs (top 22)) (defBody (top 22)) (defScope (top 22)) .none kV22 dc22 pm22 an22 cd22 ct22), sl22⟩) (c22 : PySem.W.codeIn K cd22 "weighed_sum" = true) (k22 : PySem.W.keepIn K (.ref f22) = true)
    (a15 : PySem.W.nsIn K mainGlobals "ticks_up_to" = some (some (.ref f15))) (l15 : K.lookup f15 = some ⟨oc15, od15, .func (PySem.W.fnOf "ticks_up_to" "ticks_up_to" (defArgs (top 15)) (defBody (top 15)) (defScope (top 15)) .none kV15 dc15 pm15 an15 cd15 ct15), sl15⟩) (c15 : PySem.W.codeIn K cd15 "ticks_up_to" = true) (k15 : PySem.W.keepIn K (.ref f15) = true)
    (a16 : PySem.W.nsIn K mainGlobals "things_of" = some (some (.ref f16))) (l16 : K.lookup f16 = some ⟨oc16, od16, .func (PySem.W.fnOf "things_of" "things_of" (defArgs (top 16)) (defBody (top 16)) (defScope (top 16)) .none kV16 dc16 pm16 an16 cd16 ct16), sl16⟩) (c16 : PySem.W.codeIn K cd16 "things_of" = true) (k16 : PySem.W.keepIn K (.ref f16) = true)
    (a23 : PySem.W.nsIn K mainGlobals "rhythm_sum" = some (some (.ref f23))) (l23 : K.lookup f23 = some ⟨oc23, od23, .func (PySem.W.fnOf "rhythm_sum" "rhythm_sum" (defArgs (top 23)) (defBody (top 23)) (defScope (top 23)) .none kV23 dc23 pm23 an23 cd23 ct23), sl23⟩) (c23 : PySem.W.codeIn K cd23 "rhythm_sum" = true) (k23 : PySem.W.keepIn K (.ref f23) = true)
    (a25 : PySem.W.nsIn K mainGlobals "high_of" = some (some (.ref f25))) (l25 : K.lookup f25 = some ⟨oc25, od25, .func (PySem.W.fnOf "high_of" "high_of" (defArgs (top 25)) (defBody (top 25)) (defScope (top 25)) .none kV25 dc25 pm25 an25 cd25 ct25), sl25⟩) (c25 : PySem.W.codeIn K cd25 "high_of" = true) (k25 : PySem.W.keepIn K (.ref f25) = true)
    (a26 : PySem.W.nsIn K mainGlobals "length_of" = some (some (.ref f26))) (l26 : K.lookup f26 = some ⟨oc26, od26, .func (PySem.W.fnOf "length_of" "length_of" (defArgs (top 26)) (defBody (top 26)) (defScope (top 26)) .none kV26 dc26 pm26 an26 cd26 ct26), sl26⟩) (c26 : PySem.W.codeIn K cd26 "length_of" = true) (k26 : PySem.W.keepIn K (.ref f26) = true)
    (a27 : PySem.W.nsIn K mainGlobals "ends_of" = some (some (.ref f27))) (l27 : K.lookup f27 = some ⟨oc27, od27, .func (PySem.W.fnOf "ends_of" "ends_of" (defArgs (top 27)) (defBody (top 27)) (defScope (top 27)) .none kV27 dc27 pm27 an27 cd27 ct27), sl27⟩) (c27 : PySem.W.codeIn K cd27 "ends_of" = true) (k27 : PySem.W.keepIn K (.ref f27) = true)
    (a2 : PySem.W.nsIn K mainGlobals "reduced" = some (some (.ref f2))) (l2 : K.lookup f2 = some ⟨oc2, od2, .func (PySem.W.fnOf "reduced" "reduced" (defArgs (top 2)) (defBody (top 2)) (defScope (top 2)) .none kV2 dc2 pm2 an2 cd2 ct2), sl2⟩) (c2 : PySem.W.codeIn K cd2 "reduced" = true) (k2 : PySem.W.keepIn K (.ref f2) = true)
    (a31 : PySem.W.nsIn K mainGlobals "low_end" = some (some (.ref f31))) (l31 : K.lookup f31 = some ⟨oc31, od31, .func (PySem.W.fnOf "low_end" "low_end" (defArgs (top 31)) (defBody (top 31)) (defScope (top 31)) .none kV31 dc31 pm31 an31 cd31 ct31), sl31⟩) (c31 : PySem.W.codeIn K cd31 "low_end" = true) (k31 : PySem.W.keepIn K (.ref f31) = true)
    (a32 : PySem.W.nsIn K mainGlobals "high_end" = some (some (.ref f32))) (l32 : K.lookup f32 = some ⟨oc32, od32, .func (PySem.W.fnOf "high_end" "high_end" (defArgs (top 32)) (defBody (top 32)) (defScope (top 32)) .none kV32 dc32 pm32 an32 cd32 ct32), sl32⟩) (c32 : PySem.W.codeIn K cd32 "high_end" = true) (k32 : PySem.W.keepIn K (.ref f32) = true)
    (a30 : PySem.W.nsIn K mainGlobals "stretch_of" = some (some (.ref f30))) (l30 : K.lookup f30 = some ⟨oc30, od30, .func (PySem.W.fnOf "stretch_of" "stretch_of" (defArgs (top 30)) (defBody (top 30)) (defScope (top 30)) .none kV30 dc30 pm30 an30 cd30 ct30), sl30⟩) (c30 : PySem.W.codeIn K cd30 "stretch_of" = true) (k30 : PySem.W.keepIn K (.ref f30) = true)
    (a40 : PySem.W.nsIn K mainGlobals "_law_divisor" = some (some (.ref f40))) (l40 : K.lookup f40 = some ⟨oc40, od40, .func (PySem.W.fnOf "_law_divisor" "_law_divisor" (defArgs (top 40)) (defBody (top 40)) (defScope (top 40)) .none kV40 dc40 pm40 an40 cd40 ct40), sl40⟩) (c40 : PySem.W.codeIn K cd40 "_law_divisor" = true) (k40 : PySem.W.keepIn K (.ref f40) = true)
    (a41 : PySem.W.nsIn K mainGlobals "_law_share" = some (some (.ref f41))) (l41 : K.lookup f41 = some ⟨oc41, od41, .func (PySem.W.fnOf "_law_share" "_law_share" (defArgs (top 41)) (defBody (top 41)) (defScope (top 41)) .none kV41 dc41 pm41 an41 cd41 ct41), sl41⟩) (c41 : PySem.W.codeIn K cd41 "_law_share" = true) (k41 : PySem.W.keepIn K (.ref f41) = true)
    (a35 : PySem.W.nsIn K mainGlobals "_law_mixed" = some (some (.ref f35))) (l35 : K.lookup f35 = some ⟨oc35, od35, .func (PySem.W.fnOf "_law_mixed" "_law_mixed" (defArgs (top 35)) (defBody (top 35)) (defScope (top 35)) .none kV35 dc35 pm35 an35 cd35 ct35), sl35⟩) (c35 : PySem.W.codeIn K cd35 "_law_mixed" = true) (k35 : PySem.W.keepIn K (.ref f35) = true)
    (a37 : PySem.W.nsIn K mainGlobals "_law_draw" = some (some (.ref f37))) (l37 : K.lookup f37 = some ⟨oc37, od37, .func (PySem.W.fnOf "_law_draw" "_law_draw" (defArgs (top 37)) (defBody (top 37)) (defScope (top 37)) .none kV37 dc37 pm37 an37 cd37 ct37), sl37⟩) (c37 : PySem.W.codeIn K cd37 "_law_draw" = true) (k37 : PySem.W.keepIn K (.ref f37) = true)
    (a38 : PySem.W.nsIn K mainGlobals "_law_cut" = some (some (.ref f38))) (l38 : K.lookup f38 = some ⟨oc38, od38, .func (PySem.W.fnOf "_law_cut" "_law_cut" (defArgs (top 38)) (defBody (top 38)) (defScope (top 38)) .none kV38 dc38 pm38 an38 cd38 ct38), sl38⟩) (c38 : PySem.W.codeIn K cd38 "_law_cut" = true) (k38 : PySem.W.keepIn K (.ref f38) = true)
    (a43 : PySem.W.nsIn K mainGlobals "_law_minus" = some (some (.ref f43))) (l43 : K.lookup f43 = some ⟨oc43, od43, .func (PySem.W.fnOf "_law_minus" "_law_minus" (defArgs (top 43)) (defBody (top 43)) (defScope (top 43)) .none kV43 dc43 pm43 an43 cd43 ct43), sl43⟩) (c43 : PySem.W.codeIn K cd43 "_law_minus" = true) (k43 : PySem.W.keepIn K (.ref f43) = true)
    (a44 : PySem.W.nsIn K mainGlobals "_law_times" = some (some (.ref f44))) (l44 : K.lookup f44 = some ⟨oc44, od44, .func (PySem.W.fnOf "_law_times" "_law_times" (defArgs (top 44)) (defBody (top 44)) (defScope (top 44)) .none kV44 dc44 pm44 an44 cd44 ct44), sl44⟩) (c44 : PySem.W.codeIn K cd44 "_law_times" = true) (k44 : PySem.W.keepIn K (.ref f44) = true)
    (a47 : PySem.W.nsIn K mainGlobals "_law_power" = some (some (.ref f47))) (l47 : K.lookup f47 = some ⟨oc47, od47, .func (PySem.W.fnOf "_law_power" "_law_power" (defArgs (top 47)) (defBody (top 47)) (defScope (top 47)) .none kV47 dc47 pm47 an47 cd47 ct47), sl47⟩) (c47 : PySem.W.codeIn K cd47 "_law_power" = true) (k47 : PySem.W.keepIn K (.ref f47) = true)
    (a45 : PySem.W.nsIn K mainGlobals "_law_over" = some (some (.ref f45))) (l45 : K.lookup f45 = some ⟨oc45, od45, .func (PySem.W.fnOf "_law_over" "_law_over" (defArgs (top 45)) (defBody (top 45)) (defScope (top 45)) .none kV45 dc45 pm45 an45 cd45 ct45), sl45⟩) (c45 : PySem.W.codeIn K cd45 "_law_over" = true) (k45 : PySem.W.keepIn K (.ref f45) = true)
    (a42 : PySem.W.nsIn K mainGlobals "_law_plus" = some (some (.ref f42))) (l42 : K.lookup f42 = some ⟨oc42, od42, .func (PySem.W.fnOf "_law_plus" "_law_plus" (defArgs (top 42)) (defBody (top 42)) (defScope (top 42)) .none kV42 dc42 pm42 an42 cd42 ct42), sl42⟩) (c42 : PySem.W.codeIn K cd42 "_law_plus" = true) (k42 : PySem.W.keepIn K (.ref f42) = true)
    (a48 : PySem.W.nsIn K mainGlobals "_law_floors" = some (some (.ref f48))) (l48 : K.lookup f48 = some ⟨oc48, od48, .func (PySem.W.fnOf "_law_floors" "_law_floors" (defArgs (top 48)) (defBody (top 48)) (defScope (top 48)) .none kV48 dc48 pm48 an48 cd48 ct48), sl48⟩) (c48 : PySem.W.codeIn K cd48 "_law_floors" = true) (k48 : PySem.W.keepIn K (.ref f48) = true)
    (a49 : PySem.W.nsIn K mainGlobals "_law_ends" = some (some (.ref f49))) (l49 : K.lookup f49 = some ⟨oc49, od49, .func (PySem.W.fnOf "_law_ends" "_law_ends" (defArgs (top 49)) (defBody (top 49)) (defScope (top 49)) .none kV49 dc49 pm49 an49 cd49 ct49), sl49⟩) (c49 : PySem.W.codeIn K cd49 "_law_ends" = true) (k49 : PySem.W.keepIn K (.ref f49) = true)
    (a46 : PySem.W.nsIn K mainGlobals "_law_below" = some (some (.ref f46))) (l46 : K.lookup f46 = some ⟨oc46, od46, .func (PySem.W.fnOf "_law_below" "_law_below" (defArgs (top 46)) (defBody (top 46)) (defScope (top 46)) .none kV46 dc46 pm46 an46 cd46 ct46), sl46⟩) (c46 : PySem.W.codeIn K cd46 "_law_below" = true) (k46 : PySem.W.keepIn K (.ref f46) = true)
    (a29 : PySem.W.nsIn K mainGlobals "floor_sum" = some (some (.ref f29))) (l29 : K.lookup f29 = some ⟨oc29, od29, .func (PySem.W.fnOf "floor_sum" "floor_sum" (defArgs (top 29)) (defBody (top 29)) (defScope (top 29)) .none kV29 dc29 pm29 an29 cd29 ct29), sl29⟩) (c29 : PySem.W.codeIn K cd29 "floor_sum" = true) (k29 : PySem.W.keepIn K (.ref f29) = true)
    (a33 : PySem.W.nsIn K mainGlobals "stretch_length" = some (some (.ref f33))) (l33 : K.lookup f33 = some ⟨oc33, od33, .func (PySem.W.fnOf "stretch_length" "stretch_length" (defArgs (top 33)) (defBody (top 33)) (defScope (top 33)) .none kV33 dc33 pm33 an33 cd33 ct33), sl33⟩) (c33 : PySem.W.codeIn K cd33 "stretch_length" = true) (k33 : PySem.W.keepIn K (.ref f33) = true)
    (a51 : PySem.W.nsIn K mainGlobals "_law_right" = some (some (.ref f51))) (l51 : K.lookup f51 = some ⟨oc51, od51, .func (PySem.W.fnOf "_law_right" "_law_right" (defArgs (top 51)) (defBody (top 51)) (defScope (top 51)) .none kV51 dc51 pm51 an51 cd51 ct51), sl51⟩) (c51 : PySem.W.codeIn K cd51 "_law_right" = true) (k51 : PySem.W.keepIn K (.ref f51) = true)
    (a39 : PySem.W.nsIn K mainGlobals "_law_pair" = some (some (.ref f39))) (l39 : K.lookup f39 = some ⟨oc39, od39, .func (PySem.W.fnOf "_law_pair" "_law_pair" (defArgs (top 39)) (defBody (top 39)) (defScope (top 39)) .none kV39 dc39 pm39 an39 cd39 ct39), sl39⟩) (c39 : PySem.W.codeIn K cd39 "_law_pair" = true) (k39 : PySem.W.keepIn K (.ref f39) = true)
    (a52 : PySem.W.nsIn K mainGlobals "law" = some (some (.ref f52))) (l52 : K.lookup f52 = some ⟨oc52, od52, .func (PySem.W.fnOf "law" "law" (defArgs (top 52)) (defBody (top 52)) (defScope (top 52)) .none kV52 dc52 pm52 an52 cd52 ct52), sl52⟩) (c52 : PySem.W.codeIn K cd52 "law" = true) (k52 : PySem.W.keepIn K (.ref f52) = true)
    (z_abs : PySem.W.nsIn K mainGlobals "abs" = some none)
    (z_int : PySem.W.nsIn K mainGlobals "int" = some none)
    (z_len : PySem.W.nsIn K mainGlobals "len" = some none)
    (z_list : PySem.W.nsIn K mainGlobals "list" = some none)
    (z_range : PySem.W.nsIn K mainGlobals "range" = some none)
    (z_repr : PySem.W.nsIn K mainGlobals "repr" = some none)
    (z_tuple : PySem.W.nsIn K mainGlobals "tuple" = some none)
    (z_type : PySem.W.nsIn K mainGlobals "type" = some none)
    (z_gcd : PySem.W.nsIn K mainGlobals "gcd" = some (some (.builtin "math.gcd")))
    (y_MOST : ∃ t, mg "MOST" = some (.int 1000000000000000000000000000000 t))
    {tg_MOST_BELOW_OF_MEAN : Nat} (z_MOST_BELOW_OF_MEAN : PySem.W.nsIn K mainGlobals "MOST_BELOW_OF_MEAN" = some (some (.int 300 tg_MOST_BELOW_OF_MEAN)))
    {tg_MOST_BELOW_OF_PART : Nat} (z_MOST_BELOW_OF_PART : PySem.W.nsIn K mainGlobals "MOST_BELOW_OF_PART" = some (some (.int 1000 tg_MOST_BELOW_OF_PART)))
    : ∃ fd : FuncData, (∀ (s : Shared) (v : Value), BindsTo s fd ⟨[v], []⟩ [("script", v)]) ∧ ∀ base : Heap, K.In base → base.Ns mainGlobals mg → FnG l.prog w K mg base CX0 9 fa fd ["script"] (spLaw K) := by
  have e := hfa.symm.trans (PySem.W.mg_of X G a52)
  cases e
  have F36 := fun_mk (st := top 36) l36 c36 k36
  have F50 := fun_mk (st := top 50) l50 c50 k50
  have F9 := fun_mk (st := top 9) l9 c9 k9
  have F10 := fun_mk (st := top 10) l10 c10 k10
  have F19 := fun_mk (st := top 19) l19 c19 k19
  have F20 := fun_mk (st := top 20) l20 c20 k20
  have F13 := fun_mk (st := top 13) l13 c13 k13
  have F14 := fun_mk (st := top 14) l14 c14 k14
  have F28 := fun_mk (st := top 28) l28 c28 k28
  have F3 := fun_mk (st := top 3) l3 c3 k3
  have F24 := fun_mk (st := top 24) l24 c24 k24
  have F22 := fun_mk (st := top 22) l22 c22 k22
  have F15 := fun_mk (st := top 15) l15 c15 k15
  have F16 := fun_mk (st := top 16) l16 c16 k16
  have F23 := fun_mk (st := top 23) l23 c23 k23
  have F25 := fun_mk (st := top 25) l25 c25 k25
  have F26 := fun_mk (st := top 26) l26 c26 k26
  have F27 := fun_mk (st := top 27) l27 c27 k27
  have F2 := fun_mk (st := top 2) l2 c2 k2
  have F31 := fun_mk (st := top 31) l31 c31 k31
  have F32 := fun_mk (st := top 32) l32 c32 k32
  have F30 := fun_mk (st := top 30) l30 c30 k30
  have F40 := fun_mk (st := top 40) l40 c40 k40
  have F41 := fun_mk (st := top 41) l41 c41 k41
  have F35 := fun_mk (st := top 35) l35 c35 k35
  have F37 := fun_mk (st := top 37) l37 c37 k37
  have F38 := fun_mk (st := top 38) l38 c38 k38
  have F43 := fun_mk (st := top 43) l43 c43 k43
  have F44 := fun_mk (st := top 44) l44 c44 k44
  have F47 := fun_mk (st := top 47) l47 c47 k47
  have F45 := fun_mk (st := top 45) l45 c45 k45
  have F42 := fun_mk (st := top 42) l42 c42 k42
  have F48 := fun_mk (st := top 48) l48 c48 k48
  have F49 := fun_mk (st := top 49) l49 c49 k49
  have F46 := fun_mk (st := top 46) l46 c46 k46
  have F29 := fun_mk (st := top 29) l29 c29 k29
  have F33 := fun_mk (st := top 33) l33 c33 k33
  have F51 := fun_mk (st := top 51) l51 c51 k51
  have F39 := fun_mk (st := top 39) l39 c39 k39
  have F52 := fun_mk (st := top 52) l52 c52 k52
  have T : Tx K mg (fun i => match i with | 36 => f36 | 50 => f50 | 9 => f9 | 10 => f10 | 19 => f19 | 20 => f20 | 13 => f13 | 14 => f14 | 28 => f28 | 3 => f3 | 24 => f24 | 22 => f22 | 15 => f15 | 16 => f16 | 23 => f23 | 25 => f25 | 26 => f26 | 27 => f27 | 2 => f2 | 31 => f31 | 32 => f32 | 30 => f30 | 40 => f40 | 41 => f41 | 35 => f35 | 37 => f37 | 38 => f38 | 43 => f43 | 44 => f44 | 47 => f47 | 45 => f45 | 42 => f42 | 48 => f48 | 49 => f49 | 46 => f46 | 29 => f29 | 33 => f33 | 51 => f51 | 39 => f39 | 52 => fa | _ => 0) (fun i => match i with | 36 => PySem.W.fnOf "_law_begin" "_law_begin" (defArgs (top 36)) (defBody (top 36)) (defScope (top 36)) .none kV36 dc36 pm36 an36 cd36 ct36 | 50 => PySem.W.fnOf "_law_like" "_law_like" (defArgs (top 50)) (defBody (top 50)) (defScope (top 50)) .none kV50 dc50 pm50 an50 cd50 ct50 | 9 => PySem.W.fnOf "is_integer" "is_integer" (defArgs (top 9)) (defBody (top 9)) (defScope (top 9)) .none kV9 dc9 pm9 an9 cd9 ct9 | 10 => PySem.W.fnOf "is_fraction" "is_fraction" (defArgs (top 10)) (defBody (top 10)) (defScope (top 10)) .none kV10 dc10 pm10 an10 cd10 ct10 | 19 => PySem.W.fnOf "is_part" "is_part" (defArgs (top 19)) (defBody (top 19)) (defScope (top 19)) .none kV19 dc19 pm19 an19 cd19 ct19 | 20 => PySem.W.fnOf "need_part" "need_part" (defArgs (top 20)) (defBody (top 20)) (defScope (top 20)) .none kV20 dc20 pm20 an20 cd20 ct20 | 13 => PySem.W.fnOf "is_any_mean" "is_any_mean" (defArgs (top 13)) (defBody (top 13)) (defScope (top 13)) .none kV13 dc13 pm13 an13 cd13 ct13 | 14 => PySem.W.fnOf "need_mean" "need_mean" (defArgs (top 14)) (defBody (top 14)) (defScope (top 14)) .none kV14 dc14 pm14 an14 cd14 ct14 | 28 => PySem.W.fnOf "need_part_and_mean" "need_part_and_mean" (defArgs (top 28)) (defBody (top 28)) (defScope (top 28)) .none kV28 dc28 pm28 an28 cd28 ct28 | 3 => PySem.W.fnOf "power" "power" (defArgs (top 3)) (defBody (top 3)) (defScope (top 3)) .none kV3 dc3 pm3 an3 cd3 ct3 | 24 => PySem.W.fnOf "powers_apart" "powers_apart" (defArgs (top 24)) (defBody (top 24)) (defScope (top 24)) .none kV24 dc24 pm24 an24 cd24 ct24 | 22 => PySem.W.fnOf "weighed_sum" "weighed_sum" (defArgs (top 22)) (defBody (top 22)) (defScope (top 22)) .none kV22 dc22 pm22 an22 cd22 ct22 | 15 => PySem.W.fnOf "ticks_up_to" "ticks_up_to" (defArgs (top 15)) (defBody (top 15)) (defScope (top 15)) .none kV15 dc15 pm15 an15 cd15 ct15 | 16 => PySem.W.fnOf "things_of" "things_of" (defArgs (top 16)) (defBody (top 16)) (defScope (top 16)) .none kV16 dc16 pm16 an16 cd16 ct16 | 23 => PySem.W.fnOf "rhythm_sum" "rhythm_sum" (defArgs (top 23)) (defBody (top 23)) (defScope (top 23)) .none kV23 dc23 pm23 an23 cd23 ct23 | 25 => PySem.W.fnOf "high_of" "high_of" (defArgs (top 25)) (defBody (top 25)) (defScope (top 25)) .none kV25 dc25 pm25 an25 cd25 ct25 | 26 => PySem.W.fnOf "length_of" "length_of" (defArgs (top 26)) (defBody (top 26)) (defScope (top 26)) .none kV26 dc26 pm26 an26 cd26 ct26 | 27 => PySem.W.fnOf "ends_of" "ends_of" (defArgs (top 27)) (defBody (top 27)) (defScope (top 27)) .none kV27 dc27 pm27 an27 cd27 ct27 | 2 => PySem.W.fnOf "reduced" "reduced" (defArgs (top 2)) (defBody (top 2)) (defScope (top 2)) .none kV2 dc2 pm2 an2 cd2 ct2 | 31 => PySem.W.fnOf "low_end" "low_end" (defArgs (top 31)) (defBody (top 31)) (defScope (top 31)) .none kV31 dc31 pm31 an31 cd31 ct31 | 32 => PySem.W.fnOf "high_end" "high_end" (defArgs (top 32)) (defBody (top 32)) (defScope (top 32)) .none kV32 dc32 pm32 an32 cd32 ct32 | 30 => PySem.W.fnOf "stretch_of" "stretch_of" (defArgs (top 30)) (defBody (top 30)) (defScope (top 30)) .none kV30 dc30 pm30 an30 cd30 ct30 | 40 => PySem.W.fnOf "_law_divisor" "_law_divisor" (defArgs (top 40)) (defBody (top 40)) (defScope (top 40)) .none kV40 dc40 pm40 an40 cd40 ct40 | 41 => PySem.W.fnOf "_law_share" "_law_share" (defArgs (top 41)) (defBody (top 41)) (defScope (top 41)) .none kV41 dc41 pm41 an41 cd41 ct41 | 35 => PySem.W.fnOf "_law_mixed" "_law_mixed" (defArgs (top 35)) (defBody (top 35)) (defScope (top 35)) .none kV35 dc35 pm35 an35 cd35 ct35 | 37 => PySem.W.fnOf "_law_draw" "_law_draw" (defArgs (top 37)) (defBody (top 37)) (defScope (top 37)) .none kV37 dc37 pm37 an37 cd37 ct37 | 38 => PySem.W.fnOf "_law_cut" "_law_cut" (defArgs (top 38)) (defBody (top 38)) (defScope (top 38)) .none kV38 dc38 pm38 an38 cd38 ct38 | 43 => PySem.W.fnOf "_law_minus" "_law_minus" (defArgs (top 43)) (defBody (top 43)) (defScope (top 43)) .none kV43 dc43 pm43 an43 cd43 ct43 | 44 => PySem.W.fnOf "_law_times" "_law_times" (defArgs (top 44)) (defBody (top 44)) (defScope (top 44)) .none kV44 dc44 pm44 an44 cd44 ct44 | 47 => PySem.W.fnOf "_law_power" "_law_power" (defArgs (top 47)) (defBody (top 47)) (defScope (top 47)) .none kV47 dc47 pm47 an47 cd47 ct47 | 45 => PySem.W.fnOf "_law_over" "_law_over" (defArgs (top 45)) (defBody (top 45)) (defScope (top 45)) .none kV45 dc45 pm45 an45 cd45 ct45 | 42 => PySem.W.fnOf "_law_plus" "_law_plus" (defArgs (top 42)) (defBody (top 42)) (defScope (top 42)) .none kV42 dc42 pm42 an42 cd42 ct42 | 48 => PySem.W.fnOf "_law_floors" "_law_floors" (defArgs (top 48)) (defBody (top 48)) (defScope (top 48)) .none kV48 dc48 pm48 an48 cd48 ct48 | 49 => PySem.W.fnOf "_law_ends" "_law_ends" (defArgs (top 49)) (defBody (top 49)) (defScope (top 49)) .none kV49 dc49 pm49 an49 cd49 ct49 | 46 => PySem.W.fnOf "_law_below" "_law_below" (defArgs (top 46)) (defBody (top 46)) (defScope (top 46)) .none kV46 dc46 pm46 an46 cd46 ct46 | 29 => PySem.W.fnOf "floor_sum" "floor_sum" (defArgs (top 29)) (defBody (top 29)) (defScope (top 29)) .none kV29 dc29 pm29 an29 cd29 ct29 | 33 => PySem.W.fnOf "stretch_length" "stretch_length" (defArgs (top 33)) (defBody (top 33)) (defScope (top 33)) .none kV33 dc33 pm33 an33 cd33 ct33 | 51 => PySem.W.fnOf "_law_right" "_law_right" (defArgs (top 51)) (defBody (top 51)) (defScope (top 51)) .none kV51 dc51 pm51 an51 cd51 ct51 | 39 => PySem.W.fnOf "_law_pair" "_law_pair" (defArgs (top 39)) (defBody (top 39)) (defScope (top 39)) .none kV39 dc39 pm39 an39 cd39 ct39 | 52 => PySem.W.fnOf "law" "law" (defArgs (top 52)) (defBody (top 52)) (defScope (top 52)) .none kV52 dc52 pm52 an52 cd52 ct52 | _ => PySem.W.fnOf "law" "law" (defArgs (top 52)) (defBody (top 52)) (defScope (top 52)) .none kV52 dc52 pm52 an52 cd52 ct52) :=
    { n_abs := PySem.W.mg_none_of X G z_abs,
      n_int := PySem.W.mg_none_of X G z_int,
      n_len := PySem.W.mg_none_of X G z_len,
      n_list := PySem.W.mg_none_of X G z_list,
      n_range := PySem.W.mg_none_of X G z_range,
      n_repr := PySem.W.mg_none_of X G z_repr,
      n_tuple := PySem.W.mg_none_of X G z_tuple,
      n_type := PySem.W.mg_none_of X G z_type,
      m_gcd := PySem.W.mg_of X G z_gcd,
      c_MOST := y_MOST,
      c_MOST_BELOW_OF_MEAN := ⟨_, PySem.W.mg_of X G z_MOST_BELOW_OF_MEAN⟩,
      c_MOST_BELOW_OF_PART := ⟨_, PySem.W.mg_of X G z_MOST_BELOW_OF_PART⟩,
      F__law_begin := F36,
      g__law_begin := PySem.W.mg_of X G a36,
      b__law_begin := F36.binds (ps := ["script"]) fun _ _ _ _ _ _ us hl => match us, hl with | [_], _ => rfl,
      F__law_like := F50,
      g__law_like := PySem.W.mg_of X G a50,
      b__law_like := F50.binds (ps := ["got", "due"]) fun _ _ _ _ _ _ us hl => match us, hl with | [_, _], _ => rfl,
      F_is_integer := F9,
      g_is_integer := PySem.W.mg_of X G a9,
      b_is_integer := F9.binds (ps := ["value"]) fun _ _ _ _ _ _ us hl => match us, hl with | [_], _ => rfl,
      F_is_fraction := F10,
      g_is_fraction := PySem.W.mg_of X G a10,
      b_is_fraction := F10.binds (ps := ["value"]) fun _ _ _ _ _ _ us hl => match us, hl with | [_], _ => rfl,
      F_is_part := F19,
      g_is_part := PySem.W.mg_of X G a19,
      b_is_part := F19.binds (ps := ["value"]) fun _ _ _ _ _ _ us hl => match us, hl with | [_], _ => rfl,
      F_need_part := F20,
      g_need_part := PySem.W.mg_of X G a20,
      b_need_part := F20.binds (ps := ["part"]) fun _ _ _ _ _ _ us hl => match us, hl with | [_], _ => rfl,
      F_is_any_mean := F13,
      g_is_any_mean := PySem.W.mg_of X G a13,
      b_is_any_mean := F13.binds (ps := ["value"]) fun _ _ _ _ _ _ us hl => match us, hl with | [_], _ => rfl,
      F_need_mean := F14,
      g_need_mean := PySem.W.mg_of X G a14,
      b_need_mean := F14.binds (ps := ["mean"]) fun _ _ _ _ _ _ us hl => match us, hl with | [_], _ => rfl,
      F_need_part_and_mean := F28,
      g_need_part_and_mean := PySem.W.mg_of X G a28,
      b_need_part_and_mean := F28.binds (ps := ["part", "mean"]) fun _ _ _ _ _ _ us hl => match us, hl with | [_, _], _ => rfl,
      F_power := F3,
      g_power := PySem.W.mg_of X G a3,
      b_power := F3.binds (ps := ["base", "number"]) fun _ _ _ _ _ _ us hl => match us, hl with | [_, _], _ => rfl,
      F_powers_apart := F24,
      g_powers_apart := PySem.W.mg_of X G a24,
      b_powers_apart := F24.binds (ps := ["part", "number"]) fun _ _ _ _ _ _ us hl => match us, hl with | [_, _], _ => rfl,
      F_weighed_sum := F22,
      g_weighed_sum := PySem.W.mg_of X G a22,
      b_weighed_sum := F22.binds (ps := ["above", "below", "things"]) fun _ _ _ _ _ _ us hl => match us, hl with | [_, _, _], _ => rfl,
      F_ticks_up_to := F15,
      g_ticks_up_to := PySem.W.mg_of X G a15,
      b_ticks_up_to := F15.binds (ps := ["mean", "number"]) fun _ _ _ _ _ _ us hl => match us, hl with | [_, _], _ => rfl,
      F_things_of := F16,
      g_things_of := PySem.W.mg_of X G a16,
      b_things_of := F16.binds (ps := ["mean"]) fun _ _ _ _ _ _ us hl => match us, hl with | [_], _ => rfl,
      F_rhythm_sum := F23,
      g_rhythm_sum := PySem.W.mg_of X G a23,
      b_rhythm_sum := F23.binds (ps := ["part", "mean"]) fun _ _ _ _ _ _ us hl => match us, hl with | [_, _], _ => rfl,
      F_high_of := F25,
      g_high_of := PySem.W.mg_of X G a25,
      b_high_of := F25.binds (ps := ["part", "mean"]) fun _ _ _ _ _ _ us hl => match us, hl with | [_, _], _ => rfl,
      F_length_of := F26,
      g_length_of := PySem.W.mg_of X G a26,
      b_length_of := F26.binds (ps := ["part", "below"]) fun _ _ _ _ _ _ us hl => match us, hl with | [_, _], _ => rfl,
      F_ends_of := F27,
      g_ends_of := PySem.W.mg_of X G a27,
      b_ends_of := F27.binds (ps := ["part", "mean"]) fun _ _ _ _ _ _ us hl => match us, hl with | [_, _], _ => rfl,
      F_reduced := F2,
      g_reduced := PySem.W.mg_of X G a2,
      b_reduced := F2.binds (ps := ["above", "below"]) fun _ _ _ _ _ _ us hl => match us, hl with | [_, _], _ => rfl,
      F_low_end := F31,
      g_low_end := PySem.W.mg_of X G a31,
      b_low_end := F31.binds (ps := ["part", "mean"]) fun _ _ _ _ _ _ us hl => match us, hl with | [_, _], _ => rfl,
      F_high_end := F32,
      g_high_end := PySem.W.mg_of X G a32,
      b_high_end := F32.binds (ps := ["part", "mean"]) fun _ _ _ _ _ _ us hl => match us, hl with | [_, _], _ => rfl,
      F_stretch_of := F30,
      g_stretch_of := PySem.W.mg_of X G a30,
      b_stretch_of := F30.binds (ps := ["part", "mean"]) fun _ _ _ _ _ _ us hl => match us, hl with | [_, _], _ => rfl,
      F__law_divisor := F40,
      g__law_divisor := PySem.W.mg_of X G a40,
      b__law_divisor := F40.binds (ps := ["one", "two"]) fun _ _ _ _ _ _ us hl => match us, hl with | [_, _], _ => rfl,
      F__law_share := F41,
      g__law_share := PySem.W.mg_of X G a41,
      b__law_share := F41.binds (ps := ["above", "below"]) fun _ _ _ _ _ _ us hl => match us, hl with | [_, _], _ => rfl,
      F__law_mixed := F35,
      g__law_mixed := PySem.W.mg_of X G a35,
      b__law_mixed := F35.binds (ps := ["cell", "k"]) fun _ _ _ _ _ _ us hl => match us, hl with | [_, _], _ => rfl,
      F__law_draw := F37,
      g__law_draw := PySem.W.mg_of X G a37,
      b__law_draw := F37.binds (ps := ["draws_so", "limit"]) fun _ _ _ _ _ _ us hl => match us, hl with | [_, _], _ => rfl,
      F__law_cut := F38,
      g__law_cut := PySem.W.mg_of X G a38,
      b__law_cut := F38.binds (ps := ["draws_so"]) fun _ _ _ _ _ _ us hl => match us, hl with | [_], _ => rfl,
      F__law_minus := F43,
      g__law_minus := PySem.W.mg_of X G a43,
      b__law_minus := F43.binds (ps := ["one", "two"]) fun _ _ _ _ _ _ us hl => match us, hl with | [_, _], _ => rfl,
      F__law_times := F44,
      g__law_times := PySem.W.mg_of X G a44,
      b__law_times := F44.binds (ps := ["one", "two"]) fun _ _ _ _ _ _ us hl => match us, hl with | [_, _], _ => rfl,
      F__law_power := F47,
      g__law_power := PySem.W.mg_of X G a47,
      b__law_power := F47.binds (ps := ["one", "times_so"]) fun _ _ _ _ _ _ us hl => match us, hl with | [_, _], _ => rfl,
      F__law_over := F45,
      g__law_over := PySem.W.mg_of X G a45,
      b__law_over := F45.binds (ps := ["one", "two"]) fun _ _ _ _ _ _ us hl => match us, hl with | [_, _], _ => rfl,
      F__law_plus := F42,
      g__law_plus := PySem.W.mg_of X G a42,
      b__law_plus := F42.binds (ps := ["one", "two"]) fun _ _ _ _ _ _ us hl => match us, hl with | [_, _], _ => rfl,
      F__law_floors := F48,
      g__law_floors := PySem.W.mg_of X G a48,
      b__law_floors := F48.binds (ps := ["cut_so", "pair_so"]) fun _ _ _ _ _ _ us hl => match us, hl with | [_, _], _ => rfl,
      F__law_ends := F49,
      g__law_ends := PySem.W.mg_of X G a49,
      b__law_ends := F49.binds (ps := ["cut_so", "pair_so"]) fun _ _ _ _ _ _ us hl => match us, hl with | [_, _], _ => rfl,
      F__law_below := F46,
      g__law_below := PySem.W.mg_of X G a46,
      b__law_below := F46.binds (ps := ["one", "two"]) fun _ _ _ _ _ _ us hl => match us, hl with | [_, _], _ => rfl,
      F_floor_sum := F29,
      g_floor_sum := PySem.W.mg_of X G a29,
      b_floor_sum := F29.binds (ps := ["part", "mean"]) fun _ _ _ _ _ _ us hl => match us, hl with | [_, _], _ => rfl,
      F_stretch_length := F33,
      g_stretch_length := PySem.W.mg_of X G a33,
      b_stretch_length := F33.binds (ps := ["part", "mean"]) fun _ _ _ _ _ _ us hl => match us, hl with | [_, _], _ => rfl,
      F__law_right := F51,
      g__law_right := PySem.W.mg_of X G a51,
      b__law_right := F51.binds (ps := ["draws_so", "cut_so", "pair_so"]) fun _ _ _ _ _ _ us hl => match us, hl with | [_, _, _], _ => rfl,
      F__law_pair := F39,
      g__law_pair := PySem.W.mg_of X G a39,
      b__law_pair := F39.binds (ps := ["draws_so", "most_so"]) fun _ _ _ _ _ _ us hl => match us, hl with | [_, _], _ => rfl,
      F_law := F52,
      g_law := PySem.W.mg_of X G a52,
      b_law := F52.binds (ps := ["script"]) fun _ _ _ _ _ _ us hl => match us, hl with | [_], _ => rfl,
      kb_high_end_pRev := fun s ws hl => match ws, hl with | [_, _], _ => .of_eq rfl,
      kb_low_end_pRev := fun s ws hl => match ws, hl with | [_, _], _ => .of_eq rfl,
      kb_stretch_length_pRev := fun s ws hl => match ws, hl with | [_, _], _ => .of_eq rfl,
      kb_stretch_of_pRev := fun s ws hl => match ws, hl with | [_, _], _ => .of_eq rfl }
  exact ⟨_, fun s v => .of_eq rfl, fun base _ _ => ok_law T⟩
end Lw
open PySem PySem.W PyProof.Rows
set_option maxRecDepth 100000 in
set_option maxHeartbeats 0 in
theorem PySem.Challenge.cw_sawrounds_k20_whole_both_ends_holds : PySem.Challenge.rw_sawrounds_k20_whole_both_ends.Holds := by
  w_on; o_law; k_head; (case hw => w_witness2)
  k_fill
  refine Sx.walkG (l := PySem.Challenge.rw_sawrounds_k20_whole_both_ends) (k := 9) (x := "script") rfl rfl (Sx.room_caller 9 (by decide)) (fun w h Y => PySem.W.kIn_of Y) ?F
  case F =>
    intro w mg fa h KX G XX hmg
    refine' Lw.all_mk KX G hmg ?a36 ?l36 ?c36 ?k36 ?a50 ?l50 ?c50 ?k50 ?a9 ?l9 ?c9 ?k9 ?a10 ?l10 ?c10 ?k10 ?a19 ?l19 ?c19 ?k19 ?a20 ?l20 ?c20 ?k20 ?a13 ?l13 ?c13 ?k13 ?a14 ?l14 ?c14 ?k14 ?a28 ?l28 ?c28 ?k28 ?a3 ?l3 ?c3 ?k3 ?a24 ?l24 ?c24 ?k24 ?a22 ?l22 ?c22 ?k22 ?a15 ?l15 ?c15 ?k15 ?a16 ?l16 ?c16 ?k16 ?a23 ?l23 ?c23 ?k23 ?a25 ?l25 ?c25 ?k25 ?a26 ?l26 ?c26 ?k26 ?a27 ?l27 ?c27 ?k27 ?a2 ?l2 ?c2 ?k2 ?a31 ?l31 ?c31 ?k31 ?a32 ?l32 ?c32 ?k32 ?a30 ?l30 ?c30 ?k30 ?a40 ?l40 ?c40 ?k40 ?a41 ?l41 ?c41 ?k41 ?a35 ?l35 ?c35 ?k35 ?a37 ?l37 ?c37 ?k37 ?a38 ?l38 ?c38 ?k38 ?a43 ?l43 ?c43 ?k43 ?a44 ?l44 ?c44 ?k44 ?a47 ?l47 ?c47 ?k47 ?a45 ?l45 ?c45 ?k45 ?a42 ?l42 ?c42 ?k42 ?a48 ?l48 ?c48 ?k48 ?a49 ?l49 ?c49 ?k49 ?a46 ?l46 ?c46 ?k46 ?a29 ?l29 ?c29 ?k29 ?a33 ?l33 ?c33 ?k33 ?a51 ?l51 ?c51 ?k51 ?a39 ?l39 ?c39 ?k39 ?a52 ?l52 ?c52 ?k52 ?z_abs ?z_int ?z_len ?z_list ?z_range ?z_repr ?z_tuple ?z_type ?z_gcd ?y_MOST ?z_MOST_BELOW_OF_MEAN ?z_MOST_BELOW_OF_PART
    (case a36 => k_is)
    (case l36 => k_is)
    (case c36 => k_is)
    (case k36 => k_is)
    (case a50 => k_is)
    (case l50 => k_is)
    (case c50 => k_is)
    (case k50 => k_is)
    (case a9 => k_is)
    (case l9 => k_is)
    (case c9 => k_is)
    (case k9 => k_is)
    (case a10 => k_is)
    (case l10 => k_is)
    (case c10 => k_is)
    (case k10 => k_is)
    (case a19 => k_is)
    (case l19 => k_is)
    (case c19 => k_is)
    (case k19 => k_is)
    (case a20 => k_is)
    (case l20 => k_is)
    (case c20 => k_is)
    (case k20 => k_is)
    (case a13 => k_is)
    (case l13 => k_is)
    (case c13 => k_is)
    (case k13 => k_is)
    (case a14 => k_is)
    (case l14 => k_is)
    (case c14 => k_is)
    (case k14 => k_is)
    (case a28 => k_is)
    (case l28 => k_is)
    (case c28 => k_is)
    (case k28 => k_is)
    (case a3 => k_is)
    (case l3 => k_is)
    (case c3 => k_is)
    (case k3 => k_is)
    (case a24 => k_is)
    (case l24 => k_is)
    (case c24 => k_is)
    (case k24 => k_is)
    (case a22 => k_is)
    (case l22 => k_is)
    (case c22 => k_is)
    (case k22 => k_is)
    (case a15 => k_is)
    (case l15 => k_is)
    (case c15 => k_is)
    (case k15 => k_is)
    (case a16 => k_is)
    (case l16 => k_is)
    (case c16 => k_is)
    (case k16 => k_is)
    (case a23 => k_is)
    (case l23 => k_is)
    (case c23 => k_is)
    (case k23 => k_is)
    (case a25 => k_is)
    (case l25 => k_is)
    (case c25 => k_is)
    (case k25 => k_is)
    (case a26 => k_is)
    (case l26 => k_is)
    (case c26 => k_is)
    (case k26 => k_is)
    (case a27 => k_is)
    (case l27 => k_is)
    (case c27 => k_is)
    (case k27 => k_is)
    (case a2 => k_is)
    (case l2 => k_is)
    (case c2 => k_is)
    (case k2 => k_is)
    (case a31 => k_is)
    (case l31 => k_is)
    (case c31 => k_is)
    (case k31 => k_is)
    (case a32 => k_is)
    (case l32 => k_is)
    (case c32 => k_is)
    (case k32 => k_is)
    (case a30 => k_is)
    (case l30 => k_is)
    (case c30 => k_is)
    (case k30 => k_is)
    (case a40 => k_is)
    (case l40 => k_is)
    (case c40 => k_is)
    (case k40 => k_is)
    (case a41 => k_is)
    (case l41 => k_is)
    (case c41 => k_is)
    (case k41 => k_is)
    (case a35 => k_is)
    (case l35 => k_is)
    (case c35 => k_is)
    (case k35 => k_is)
    (case a37 => k_is)
    (case l37 => k_is)
    (case c37 => k_is)
    (case k37 => k_is)
    (case a38 => k_is)
    (case l38 => k_is)
    (case c38 => k_is)
    (case k38 => k_is)
    (case a43 => k_is)
    (case l43 => k_is)
    (case c43 => k_is)
    (case k43 => k_is)
    (case a44 => k_is)
    (case l44 => k_is)
    (case c44 => k_is)
    (case k44 => k_is)
    (case a47 => k_is)
    (case l47 => k_is)
    (case c47 => k_is)
    (case k47 => k_is)
    (case a45 => k_is)
    (case l45 => k_is)
    (case c45 => k_is)
    (case k45 => k_is)
    (case a42 => k_is)
    (case l42 => k_is)
    (case c42 => k_is)
    (case k42 => k_is)
    (case a48 => k_is)
    (case l48 => k_is)
    (case c48 => k_is)
    (case k48 => k_is)
    (case a49 => k_is)
    (case l49 => k_is)
    (case c49 => k_is)
    (case k49 => k_is)
    (case a46 => k_is)
    (case l46 => k_is)
    (case c46 => k_is)
    (case k46 => k_is)
    (case a29 => k_is)
    (case l29 => k_is)
    (case c29 => k_is)
    (case k29 => k_is)
    (case a33 => k_is)
    (case l33 => k_is)
    (case c33 => k_is)
    (case k33 => k_is)
    (case a51 => k_is)
    (case l51 => k_is)
    (case c51 => k_is)
    (case k51 => k_is)
    (case a39 => k_is)
    (case l39 => k_is)
    (case c39 => k_is)
    (case k39 => k_is)
    (case a52 => k_is)
    (case l52 => k_is)
    (case c52 => k_is)
    (case k52 => k_is)
    (case z_abs => k_is)
    (case z_int => k_is)
    (case z_len => k_is)
    (case z_list => k_is)
    (case z_range => k_is)
    (case z_repr => k_is)
    (case z_tuple => k_is)
    (case z_type => k_is)
    (case z_gcd => k_is)
    (case z_MOST_BELOW_OF_MEAN => k_is)
    (case z_MOST_BELOW_OF_PART => k_is)
    (case y_MOST => first | (refine Sx.loose_int XX.2 ?_; exact List.Mem.head _) | (refine Sx.loose_int XX.2 ?_; exact List.Mem.tail _ (List.Mem.head _)))
