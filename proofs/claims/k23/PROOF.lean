import PyProof.Rows.All
import Wide.All
import OpenK.AllK
import Wide.FinOn
import PyProof.EqAt
import PyProof.EqKinds
import PyProof.TupleCall
import HandS.ForMost
import HandS.Wide
import HandS.Gcd
import HandS.More
import HandS.Style
import HandS.Comp
import HandS.Zip
import HandS.TupLe
import HandS.Flow
import HandS.IsInst
import HandS.Rev
import HandS.SetFor
import HandS.SortInts
import HandS.TryOnly
import HandS.TupAny
import HandS.TupMul
import HandS.WideBits
import KE.GoesEnumKw
import KE.GoesMore
import KE.KRevSl
import PySem.Challenge.RW_sawrounds_k23_whole_how_much_is_covered
set_option Elab.async false
set_option linter.all false
set_option maxRecDepth 100000
set_option maxHeartbeats 2000000
namespace Sx
open PySem L2

mutual
inductive Dm (M : Addr → Prop) (H : Hp) : V → PyData → Prop
  | non : Dm M H .non .none
  | bl (b : Bool) : Dm M H (.bl b) (.bool b)
  | int (i : Int) : Dm M H (.int i) (.int i)
  | str (x : Str) : Dm M H (.str x) (.str x)
  | lst {a : Addr} {xs : List V} {ds : List PyData} (hm : ¬ M a) (ha : H a = some (.lst xs)) (hd : DmA M H xs ds) : Dm M H (.ref a) (.list ds)
  | tup {a : Addr} {xs : List V} {ds : List PyData} (hm : ¬ M a) (ha : H a = some (.tup xs)) (hd : DmA M H xs ds) : Dm M H (.ref a) (.tuple ds)
inductive DmA (M : Addr → Prop) (H : Hp) : List V → List PyData → Prop
  | nil : DmA M H [] []
  | cons {v : V} {vs : List V} {d : PyData} {ds : List PyData} (h : Dm M H v d) (t : DmA M H vs ds) : DmA M H (v :: vs) (d :: ds)
end

/-- all that is tracked and not in N stays -/
def Ext (N : Addr → Prop) (H H' : Hp) : Prop := ∀ a o, H a = some o → ¬ N a → H' a = some o
theorem Ext.rfl' {N : Addr → Prop} (H : Hp) : Ext N H H := fun _ _ h _ => h
theorem Ext.trans {N : Addr → Prop} {A B C : Hp} (x : Ext N A B) (y : Ext N B C) : Ext N A C := fun a o h n => y a o (x a o h n) n
theorem Ext.weak {N N' : Addr → Prop} {A B : Hp} (x : Ext N A B) (h : ∀ a, N a → N' a) : Ext N' A B := fun a o e n => x a o e fun z => n (h a z)
theorem Ext.new {N : Addr → Prop} {H : Hp} {p : Addr} {o : HO} (hp : H p = none) : Ext N H (upd H p o) := fun a u e _ => by
  rw [upd_ne (ne_of_none e hp)]; exact e

section
variable {M M' : Addr → Prop} {H H' : Hp}
mutual
theorem Dm.mono (e : Ext M H H') : ∀ {v : V} {d : PyData}, Dm M H v d → Dm M H' v d
  | _, _, .non => .non
  | _, _, .bl b => .bl b
  | _, _, .int i => .int i
  | _, _, .str x => .str x
  | _, _, .lst hm ha hd => .lst hm (e _ _ ha hm) (DmA.mono e hd)
  | _, _, .tup hm ha hd => .tup hm (e _ _ ha hm) (DmA.mono e hd)
theorem DmA.mono (e : Ext M H H') : ∀ {vs : List V} {ds : List PyData}, DmA M H vs ds → DmA M H' vs ds
  | _, _, .nil => .nil
  | _, _, .cons h t => .cons (Dm.mono e h) (DmA.mono e t)
end
mutual
theorem Dm.weak (w : ∀ a, M' a → M a) : ∀ {v : V} {d : PyData}, Dm M H v d → Dm M' H v d
  | _, _, .non => .non
  | _, _, .bl b => .bl b
  | _, _, .int i => .int i
  | _, _, .str x => .str x
  | _, _, .lst hm ha hd => .lst (fun z => hm (w _ z)) ha (DmA.weak w hd)
  | _, _, .tup hm ha hd => .tup (fun z => hm (w _ z)) ha (DmA.weak w hd)
theorem DmA.weak (w : ∀ a, M' a → M a) : ∀ {vs : List V} {ds : List PyData}, DmA M H vs ds → DmA M' H vs ds
  | _, _, .nil => .nil
  | _, _, .cons h t => .cons (Dm.weak w h) (DmA.weak w t)
end
mutual
/-- one more address is kept out: a new one -/
theorem Dm.more {p : Addr} (hp : H p = none) : ∀ {v : V} {d : PyData}, Dm M H v d → Dm (fun a => M a ∨ a = p) H v d
  | _, _, .non => .non
  | _, _, .bl b => .bl b
  | _, _, .int i => .int i
  | _, _, .str x => .str x
  | _, _, .lst hm ha hd => .lst (fun z => z.elim hm fun q => ne_of_none ha hp q) ha (DmA.more hp hd)
  | _, _, .tup hm ha hd => .tup (fun z => z.elim hm fun q => ne_of_none ha hp q) ha (DmA.more hp hd)
theorem DmA.more {p : Addr} (hp : H p = none) : ∀ {vs : List V} {ds : List PyData}, DmA M H vs ds → DmA (fun a => M a ∨ a = p) H vs ds
  | _, _, .nil => .nil
  | _, _, .cons h t => .cons (Dm.more hp h) (DmA.more hp t)
end
mutual
theorem Dm.dp (K : PySem.W.Frag) : ∀ {v : V} {d : PyData}, Dm M H v d → Dp K H v d
  | _, _, .non => .non
  | _, _, .bl b => .bl b
  | _, _, .int i => .int i
  | _, _, .str x => .str x
  | _, _, .lst _ ha hd => .lst (SqL.of ha) (DmA.dp K hd)
  | _, _, .tup _ ha hd => .tup (SqT.of ha) (DmA.dp K hd)
theorem DmA.dp (K : PySem.W.Frag) : ∀ {vs : List V} {ds : List PyData}, DmA M H vs ds → DpAll K H vs ds
  | _, _, .nil => .nil
  | _, _, .cons h t => .cons (Dm.dp K h) (DmA.dp K t)
end
theorem DmA.length : ∀ {vs : List V} {ds : List PyData}, DmA M H vs ds → vs.length = ds.length
  | _, _, .nil => rfl
  | _, _, .cons _ t => congrArg (· + 1) (DmA.length t)
theorem DmA.get : ∀ {vs : List V} {ds : List PyData} {i : Nat} {d : PyData}, DmA M H vs ds → ds[i]? = some d → ∃ v, vs[i]? = some v ∧ Dm M H v d
  | _, _, _, _, .nil, e => by simp at e
  | _, _, 0, _, .cons h _, e => by simp at e; subst e; exact ⟨_, rfl, h⟩
  | _, _, i + 1, d, .cons _ t, e => by
    obtain ⟨u, h1, h2⟩ := DmA.get (i := i) (d := d) t (by simpa using e)
    exact ⟨u, by simpa using h1, h2⟩
theorem DmA.getV : ∀ {vs : List V} {ds : List PyData} {i : Nat} {v : V}, DmA M H vs ds → vs[i]? = some v → ∃ d, ds[i]? = some d ∧ Dm M H v d
  | _, _, _, _, .nil, e => by simp at e
  | _, _, 0, _, .cons h _, e => by simp at e; subst e; exact ⟨_, rfl, h⟩
  | _, _, i + 1, d, .cons _ t, e => by
    obtain ⟨u, h1, h2⟩ := DmA.getV (i := i) (v := d) t (by simpa using e)
    exact ⟨u, by simpa using h1, h2⟩
theorem DmA.append : ∀ {vs ws : List V} {ds es : List PyData}, DmA M H vs ds → DmA M H ws es → DmA M H (vs ++ ws) (ds ++ es)
  | _, _, _, _, .nil, h => h
  | _, _, _, _, .cons h t, q => .cons h (DmA.append t q)
theorem DmA.take (n : Nat) : ∀ {vs : List V} {ds : List PyData}, DmA M H vs ds → DmA M H (vs.take n) (ds.take n) := by
  induction n with
  | zero => intro vs ds _; exact .nil
  | succ n ih =>
    intro vs ds h
    cases h with
    | nil => exact .nil
    | cons h t => exact .cons h (ih t)
theorem DmA.drop (n : Nat) : ∀ {vs : List V} {ds : List PyData}, DmA M H vs ds → DmA M H (vs.drop n) (ds.drop n) := by
  induction n with
  | zero => intro vs ds h; exact h
  | succ n ih =>
    intro vs ds h
    cases h with
    | nil => exact .nil
    | cons h t => exact ih t
end

abbrev DrA := Option (Addr × Addr × Addr)
def dr : DrA → Addr → Prop
  | none, _ => False
  | some (d, l, c), a => a = d ∨ a = l ∨ a = c
/-- cells, lefts, at; n: at is at most this -/
def Draws (H : Hp) (d l c : Addr) (n : Nat) : Prop := ∃ (cs ls : List Int) (at_ : Int),
  H d = some (.dK [(Sum.inr "cells", .ref c), (Sum.inr "lefts", .ref l), (Sum.inr "at", .int at_)]) ∧ H l = some (.lst (ls.map V.int)) ∧ H c = some (.lst (cs.map V.int)) ∧ l ≠ c ∧
  ls.length = cs.length ∧ 0 < cs.length ∧ 0 ≤ at_ ∧ at_ ≤ (n : Int)
def WR (ω : DrA) (n : Nat) (H : Hp) : Prop := match ω with
  | none => True
  | some (d, l, c) => Draws H d l c n
theorem Draws.weak {H : Hp} {d l c : Addr} {n m : Nat} (h : Draws H d l c n) (k : n ≤ m) : Draws H d l c m := by
  obtain ⟨cs, ls, t, h1, h2, h3, h4, h5, h6, h7, h8⟩ := h
  exact ⟨cs, ls, t, h1, h2, h3, h4, h5, h6, h7, by omega⟩
theorem WR.weak {ω : DrA} {H : Hp} {n m : Nat} (h : WR ω n H) (k : n ≤ m) : WR ω m H := by
  cases ω with
  | none => trivial
  | some x => obtain ⟨d, l, c⟩ := x; exact Draws.weak h k
theorem WR.dom {ω : DrA} {H : Hp} {n : Nat} (h : WR ω n H) {a : Addr} (ha : dr ω a) : H a ≠ none := by
  cases ω with
  | none => exact ha.elim
  | some x =>
    obtain ⟨d, l, c⟩ := x
    obtain ⟨cs, ls, t, h1, h2, h3, _⟩ := h
    rcases ha with rfl | rfl | rfl
    · rw [h1]; simp
    · rw [h2]; simp
    · rw [h3]; simp
/-- a new object leaves the draws as they are -/
theorem WR.new {ω : DrA} {H : Hp} {n : Nat} {p : Addr} {o : HO} (h : WR ω n H) (hp : H p = none) : WR ω n (upd H p o) := by
  cases ω with
  | none => trivial
  | some x =>
    obtain ⟨d, l, c⟩ := x
    obtain ⟨cs, ls, t, h1, h2, h3, r⟩ := h
    exact ⟨cs, ls, t, by rw [upd_ne (ne_of_none h1 hp)]; exact h1, by rw [upd_ne (ne_of_none h2 hp)]; exact h2, by rw [upd_ne (ne_of_none h3 hp)]; exact h3, r⟩
/-- a write elsewhere as well -/
theorem WR.wr {ω : DrA} {H : Hp} {n : Nat} {p : Addr} {o : HO} (h : WR ω n H) (hp : ¬ dr ω p) : WR ω n (upd H p o) := by
  cases ω with
  | none => trivial
  | some x =>
    obtain ⟨d, l, c⟩ := x
    obtain ⟨cs, ls, t, h1, h2, h3, r⟩ := h
    refine ⟨cs, ls, t, ?_, ?_, ?_, r⟩
    · rw [upd_ne fun e => hp (.inl e.symm)]; exact h1
    · rw [upd_ne fun e => hp (.inr (.inl e.symm))]; exact h2
    · rw [upd_ne fun e => hp (.inr (.inr e.symm))]; exact h3

inductive DV where
  | dat (d : PyData)
  | draws
  | own (ds : List PyData)
abbrev IV (i : Int) : DV := .dat (.int i)
abbrev BV (b : Bool) : DV := .dat (.bool b)
abbrev TV (ds : List PyData) : DV := .dat (.tuple ds)
abbrev LV (ds : List PyData) : DV := .dat (.list ds)
def VRep (ω : DrA) (M : Addr → Prop) (H : Hp) (v : V) : DV → Prop
  | .dat d => Dm M H v d
  | .draws => ∃ d l c, ω = some (d, l, c) ∧ v = .ref d
  | .own _ => False
theorem VRep.mono {ω : DrA} {M : Addr → Prop} {H H' : Hp} {v : V} {x : DV} (e : Ext M H H') (h : VRep ω M H v x) : VRep ω M H' v x := by
  cases x with
  | dat d => exact Dm.mono e h
  | draws => exact h
  | own ds => exact h
theorem VRep.weak {ω : DrA} {M M' : Addr → Prop} {H : Hp} {v : V} {x : DV} (w : ∀ a, M' a → M a) (h : VRep ω M H v x) : VRep ω M' H v x := by
  cases x with
  | dat d => exact Dm.weak w h
  | draws => exact h
  | own ds => exact h
abbrev VReps (ω : DrA) (M : Addr → Prop) (H : Hp) : List V → List DV → Prop := Paired (VRep ω M H)
theorem VReps.mono {ω : DrA} {M : Addr → Prop} {H H' : Hp} (e : Ext M H H') : ∀ {vs : List V} {xs : List DV}, VReps ω M H vs xs → VReps ω M H' vs xs
  | _, _, .nil => .nil
  | _, _, .cons h t => .cons (h.mono e) (VReps.mono e t)
/-- data one by one -/
theorem VReps.dat {ω : DrA} {M : Addr → Prop} {H : Hp} : ∀ {vs : List V} {ds : List PyData}, VReps ω M H vs (ds.map .dat) → DmA M H vs ds
  | _, [], .nil => .nil
  | _, _ :: _, .cons h t => .cons h (VReps.dat t)
theorem VReps.of {ω : DrA} {M : Addr → Prop} {H : Hp} : ∀ {vs : List V} {ds : List PyData}, DmA M H vs ds → VReps ω M H vs (ds.map .dat)
  | _, [], .nil => .nil
  | _, _ :: _, .cons h t => .cons h (VReps.of t)

abbrev En := List (Option DV)
/-- a def's run: the draws' addresses, the heap at its entry, what the caller keeps to itself, data that a loop holds on to -/
structure Cw where
  ω : DrA
  H0 : Hp
  M0 : Addr → Prop
  gh : List (V × PyData)
  gr : List (Addr × HO)
def SlotV (c : Cw) (M : Addr → Prop) (H : Hp) (v : V) : DV → Prop
  | .own ds => ∃ a xs, v = .ref a ∧ M a ∧ ¬ c.M0 a ∧ c.H0 a = none ∧ H a = some (.lst xs) ∧ DmA M H xs ds
  | x => VRep c.ω M H v x
structure Sta (c : Cw) (M : Addr → Prop) (σ : St) (H : Hp) (env : En) (n : Nat) : Prop where
  m0 : ∀ a, c.M0 a → M a
  d0 : ∀ a, dr c.ω a → c.M0 a
  dom : ∀ a, M a → H a ≠ none
  wr : WR c.ω n H
  keep : Ext (dr c.ω) c.H0 H
  len : σ.length = env.length
  gh : ∀ p ∈ c.gh, Dm M H p.1 p.2
  gr : ∀ p ∈ c.gr, ¬ M p.1 ∧ H p.1 = some p.2
  slot : ∀ (i : Nat) (x : DV), env[i]? = some (some x) → ∃ v, σ[i]? = some (some v) ∧ SlotV c M H v x
  own : ∀ (i j : Nat) (xs ys : List PyData) (v : V), env[i]? = some (some (.own xs)) → env[j]? = some (some (.own ys)) → σ[i]? = some (some v) → σ[j]? = some (some v) → i = j
theorem SlotV.step {c : Cw} {M : Addr → Prop} {H H' : Hp} {v : V} {x : DV} (d : ∀ a, dr c.ω a → M a) (d0 : ∀ a, dr c.ω a → c.M0 a) (e : Ext (dr c.ω) H H') (h : SlotV c M H v x) : SlotV c M H' v x := by
  cases x with
  | dat q => exact Dm.mono (e.weak d) h
  | draws => exact h
  | own ds =>
    obtain ⟨a, xs, h1, h2, h3, h4, h5, h6⟩ := h
    exact ⟨a, xs, h1, h2, h3, h4, e _ _ h5 fun z => h3 (d0 _ z), h6.mono (e.weak d)⟩
theorem Sta.dM {c : Cw} {M : Addr → Prop} {σ : St} {H : Hp} {env : En} {n : Nat} (S : Sta c M σ H env n) : ∀ a, dr c.ω a → M a := fun a h => S.m0 a (S.d0 a h)
/-- an expression was walked -/
theorem Sta.step {c : Cw} {M : Addr → Prop} {σ : St} {H H' : Hp} {env : En} {n n' : Nat} (S : Sta c M σ H env n) (e : Ext (dr c.ω) H H') (w : WR c.ω n' H') : Sta c M σ H' env n' where
  m0 := S.m0
  d0 := S.d0
  dom := fun a ha => by
    by_cases q : dr c.ω a
    · exact w.dom q
    · cases z : H a with
      | none => exact absurd z (S.dom a ha)
      | some o => rw [e a o z q]; simp
  wr := w
  keep := S.keep.trans e
  len := S.len
  gh := fun p hp => (S.gh p hp).mono (e.weak fun a h => S.m0 a (S.d0 a h))
  gr := fun p hp => ⟨(S.gr p hp).1, e _ _ (S.gr p hp).2 fun z => (S.gr p hp).1 (S.m0 _ (S.d0 _ z))⟩
  slot := fun i x h => let ⟨v, h1, h2⟩ := S.slot i x h; ⟨v, h1, h2.step S.dM S.d0 e⟩
  own := S.own

abbrev DT := En → Nat → (DV → Nat → Prop) → Prop
abbrev DTB := En → Nat → (Bool → Nat → Prop) → Prop
abbrev DTA := En → Nat → (List DV → Nat → Prop) → Prop
structure DEnds where
  nx : En → Nat → Prop
  rt : DV → Nat → Prop
  bk : En → Nat → Prop := fun _ _ => False
  ct : En → Nat → Prop := fun _ _ => False
abbrev DTS := DEnds → En → Nat → Prop
def cE (t : DT) : TE := fun σ H Q => ∃ c M env n R, Sta c M σ H env n ∧ t env n R ∧ ∀ v H' d n', Ext (dr c.ω) H H' → WR c.ω n' H' → VRep c.ω M H' v d → R d n' → Q v H'
def cT (t : DTB) : TT := fun σ H Q => ∃ c M env n R, Sta c M σ H env n ∧ t env n R ∧ ∀ b H' n', Ext (dr c.ω) H H' → WR c.ω n' H' → R b n' → Q b H'
def cA (t : DTA) : TA := fun σ H Q => ∃ c M env n R, Sta c M σ H env n ∧ t env n R ∧ ∀ vs H' ds n', Ext (dr c.ω) H H' → WR c.ω n' H' → VReps c.ω M H' vs ds → R ds n' → Q vs H'
structure Leads (c : Cw) (F : DEnds) (E : Ends) : Prop where
  nx : ∀ M σ H env n, Sta c M σ H env n → F.nx env n → E.nx σ H
  bk : ∀ M σ H env n, Sta c M σ H env n → F.bk env n → E.bk σ H
  ct : ∀ M σ H env n, Sta c M σ H env n → F.ct env n → E.ct σ H
  rt : ∀ v H d n, Ext (dr c.ω) c.H0 H → WR c.ω n H → VRep c.ω c.M0 H v d → F.rt d n → E.rt v H
def cS (t : DTS) : TS := fun E σ H => ∃ c M env n F, Sta c M σ H env n ∧ t F env n ∧ Leads c F E
abbrev FE (X : Cx) (e : Expr) (t : DT) : Prop := PE X e (cE t)
abbrev FT (X : Cx) (e : Expr) (t : DTB) : Prop := PT X e (cT t)
abbrev FW (X : Cx) (e : Expr) (t : DTB) : Prop := PW X e (cT t)
abbrev FA (X : Cx) (es : List Expr) (t : DTA) : Prop := PA X es (cA t)
abbrev FS (X : Cx) (s : Stmt) (t : DTS) : Prop := PS X s (cS t)
abbrev FSs (X : Cx) (ss : List Stmt) (t : DTS) : Prop := PSs X ss (cS t)

section
variable {X : Cx}
def OutE (c : Cw) (M : Addr → Prop) (H : Hp) (R : DV → Nat → Prop) : VK := fun v H' => ∃ d n', Ext (dr c.ω) H H' ∧ WR c.ω n' H' ∧ VRep c.ω M H' v d ∧ R d n'
def OutT (c : Cw) (H : Hp) (R : Bool → Nat → Prop) : Bool → Hp → Prop := fun b H' => ∃ n', Ext (dr c.ω) H H' ∧ WR c.ω n' H' ∧ R b n'
def OutA (c : Cw) (M : Addr → Prop) (H : Hp) (R : List DV → Nat → Prop) : List V → Hp → Prop := fun v H' => ∃ d n', Ext (dr c.ω) H H' ∧ WR c.ω n' H' ∧ VReps c.ω M H' v d ∧ R d n'
theorem FE.of {e : Expr} {te : TE} {t : DT} (h : PE X e te) (q : ∀ c M σ H env n R, Sta c M σ H env n → t env n R → te σ H (OutE c M H R)) : FE X e t :=
  ⟨fun pins s σ H Q I ⟨c, M, env, n, R, S, ht, k⟩ => thn (h.run pins s σ H _ I (q c M σ H env n R S ht)) fun _ _ ⟨v, H', I', r, d, n', e, w, m, z⟩ => ⟨v, H', I', r, k v H' d n' e w m z⟩⟩
theorem FT.of {e : Expr} {te : TT} {t : DTB} (h : PT X e te) (q : ∀ c M σ H env n R, Sta c M σ H env n → t env n R → te σ H (OutT c H R)) : FT X e t :=
  ⟨fun pins s σ H Q I ⟨c, M, env, n, R, S, ht, k⟩ => thn (h.run pins s σ H _ I (q c M σ H env n R S ht)) fun b _ ⟨H', I', n', e, w, z⟩ => ⟨H', I', k b H' n' e w z⟩⟩
theorem FW.of {e : Expr} {te : TT} {t : DTB} (h : PW X e te) (q : ∀ c M σ H env n R, Sta c M σ H env n → t env n R → te σ H (OutT c H R)) : FW X e t :=
  ⟨fun wh pins s σ H Q I ⟨c, M, env, n, R, S, ht, k⟩ => thn (h.run wh pins s σ H _ I (q c M σ H env n R S ht)) fun b _ ⟨H', I', n', e, w, z⟩ => ⟨H', I', k b H' n' e w z⟩⟩
theorem FA.of {es : List Expr} {ta : TA} {t : DTA} (h : PA X es ta) (q : ∀ c M σ H env n R, Sta c M σ H env n → t env n R → ta σ H (OutA c M H R)) : FA X es t :=
  ⟨fun pos pins s σ H Q I ⟨c, M, env, n, R, S, ht, k⟩ => thn (h.run pos pins s σ H _ I (q c M σ H env n R S ht)) fun _ _ ⟨vs, H', I', r, d, n', e, w, m, z⟩ => ⟨vs, H', I', r, k vs H' d n' e w m z⟩⟩
theorem goE {t : DT} {c : Cw} {M : Addr → Prop} {σ : St} {H : Hp} {env : En} {n : Nat} {R : DV → Nat → Prop} {Q : VK} (S : Sta c M σ H env n) (h : t env n R)
    (k : ∀ v H' d n', Ext (dr c.ω) H H' → WR c.ω n' H' → VRep c.ω M H' v d → R d n' → Q v H') : cE t σ H Q := ⟨c, M, env, n, R, S, h, k⟩
theorem goT {t : DTB} {c : Cw} {M : Addr → Prop} {σ : St} {H : Hp} {env : En} {n : Nat} {R : Bool → Nat → Prop} {Q : Bool → Hp → Prop} (S : Sta c M σ H env n) (h : t env n R)
    (k : ∀ b H' n', Ext (dr c.ω) H H' → WR c.ω n' H' → R b n' → Q b H') : cT t σ H Q := ⟨c, M, env, n, R, S, h, k⟩
theorem goA {t : DTA} {c : Cw} {M : Addr → Prop} {σ : St} {H : Hp} {env : En} {n : Nat} {R : List DV → Nat → Prop} {Q : List V → Hp → Prop} (S : Sta c M σ H env n) (h : t env n R)
    (k : ∀ v H' d n', Ext (dr c.ω) H H' → WR c.ω n' H' → VReps c.ω M H' v d → R d n' → Q v H') : cA t σ H Q := ⟨c, M, env, n, R, S, h, k⟩
end
end Sx

set_option Elab.async false
set_option linter.all false
set_option maxRecDepth 100000
set_option maxHeartbeats 2000000
namespace Sx
open PySem L2
section
variable {X : Cx} {e a b : Expr} {es : List Expr} {pos : Pos} {ta tb tc : DT} {t u : DTB} {tl : DTA}

def dVar (i : Nat) : DT := fun env n R => match env[i]? with
  | some (some (.dat d)) => R (.dat d) n
  | some (some .draws) => R .draws n
  | _ => False
theorem fe_var {i : Nat} {x : Str} (h : PE X (.Name x pos) (tVar i)) : FE X (.Name x pos) (dVar i) := FE.of h fun c M σ H env n R S q => by
  have q' : dVar i env n R := q
  unfold dVar at q'
  cases z : env[i]? with
  | none => rw [z] at q'; exact q'.elim
  | some w =>
    cases w with
    | none => rw [z] at q'; exact q'.elim
    | some y =>
      rw [z] at q'
      obtain ⟨v, hv, rv⟩ := S.slot i y z
      cases y with
      | dat d => exact ⟨v, hv, .dat d, n, Ext.rfl' H, S.wr, rv, q'⟩
      | draws => exact ⟨v, hv, .draws, n, Ext.rfl' H, S.wr, rv, q'⟩
      | own ds => exact q'.elim
def dC (d : PyData) : DT := fun _ n R => R (.dat d) n
theorem fe_con {v : V} {d : PyData} (h : PE X e (tC v)) (r : ∀ M H, Dm M H v d) : FE X e (dC d) := FE.of h fun c M σ H env n R S q => ⟨.dat d, n, Ext.rfl' H, S.wr, r M H, q⟩
theorem fe_int {i j} : FE X (.Constant (.int i) j pos) (dC (.int i)) := fe_con pe_int fun _ _ => .int i
theorem fe_bl {i j} : FE X (.Constant (.bool i) j pos) (dC (.bool i)) := fe_con pe_bl fun _ _ => .bl i
abbrev DO2 := DV → DV → (DV → Prop) → Prop
abbrev DO1 := DV → (DV → Prop) → Prop
def OkO (r : R2) (o : DO2) : Prop := ∀ (c : Cw) (M : Addr → Prop) (H : Hp) (x y : V) (d f : DV) (n : Nat) (R : DV → Prop) (Q : VK), (∀ a, M a → H a ≠ none) → (∀ a, dr c.ω a → M a) → WR c.ω n H → VRep c.ω M H x d → VRep c.ω M H y f → o d f R →
  (∀ v H' z, Ext (dr c.ω) H H' → WR c.ω n H' → VRep c.ω M H' v z → R z → Q v H') → r x y H Q
def OkU (r : V → Hp → VK → Prop) (o : DO1) : Prop := ∀ (c : Cw) (M : Addr → Prop) (H : Hp) (x : V) (d : DV) (n : Nat) (R : DV → Prop) (Q : VK), (∀ a, M a → H a ≠ none) → (∀ a, dr c.ω a → M a) → WR c.ω n H → VRep c.ω M H x d → o d R →
  (∀ v H' z, Ext (dr c.ω) H H' → WR c.ω n H' → VRep c.ω M H' v z → R z → Q v H') → r x H Q
def dOp (o : DO2) (ta tb : DT) : DT := fun env n R => ta env n fun x n1 => tb env n1 fun y n2 => o x y fun z => R z n2
def dUn (o : DO1) (ta : DT) : DT := fun env n R => ta env n fun x n1 => o x fun z => R z n1
/-- two values in a row -/
theorem two {te : TE} {r : R2} {o : DO2} (k : OkO r o) (c : Cw) (M : Addr → Prop) (σ : St) (H : Hp) (env : En) (n : Nat) (R : DV → Nat → Prop) (S : Sta c M σ H env n) (h : dOp o ta tb env n R) : tOp r (cE ta) (cE tb) σ H (OutE c M H R) :=
  goE S h fun x H1 d1 n1 e1 w1 m1 q1 => goE (S.step e1 w1) q1 fun y H2 d2 n2 e2 w2 m2 q2 =>
    k c M H2 x y d1 d2 n2 (fun z => R z n2) (OutE c M H R) (S.step (e1.trans e2) w2).dom S.dM w2 (m1.mono (e2.weak S.dM)) m2 q2 fun v H' z e3 w3 m3 q3 => ⟨z, n2, (e1.trans e2).trans e3, w3, m3, q3⟩
theorem fe_op {op : Operator} {r : R2} {o : DO2} (ho : OpR X (binaryOp op) r) (k : OkO r o) (ha : FE X a ta) (hb : FE X b tb) : FE X (.BinOp a op b pos) (dOp o ta tb) := FE.of (pe_op ho ha hb) fun c M σ H env n R S h => two (te := cE ta) k c M σ H env n R S h
theorem fe_cmp {op : CmpOp} {r : R2} {o : DO2} (ho : OpR X (compareOp op) r) (k : OkO r o) (ha : FE X a ta) (hb : FE X b tb) (hm : behindInMarks op b = false) : FE X (.Compare a [op] [b] pos) (dOp o ta tb) := FE.of (pe_cmpR ho ha hb hm) fun c M σ H env n R S h => two (te := cE ta) k c M σ H env n R S h
def dTest (t : DT) : DTB := fun env n R => t env n fun z n' => match z with
  | .dat (.bool k) => R k n'
  | _ => False
theorem ft_cmp {op : CmpOp} {r : R2} {o : DO2} (ho : OpR X (compareOp op) r) (k : OkO r o) (ha : FE X a ta) (hb : FE X b tb) (hm : behindInMarks op b = false) : FT X (.Compare a [op] [b] pos) (dTest (dOp o ta tb)) := FT.of (pt_cmpR ho ha hb hm) fun c M σ H env n R S h =>
  goE S h fun x H1 d1 n1 e1 w1 m1 q1 => goE (S.step e1 w1) q1 fun y H2 d2 n2 e2 w2 m2 q2 =>
    k c M H2 x y d1 d2 n2 _ _ (S.step (e1.trans e2) w2).dom S.dM w2 (m1.mono (e2.weak S.dM)) m2 q2 fun v H' z e3 w3 m3 q3 => by
      cases z with
      | draws => exact q3.elim
      | own ds => exact q3.elim
      | dat d =>
        cases d with
        | bool k =>
          cases m3
          exact ⟨k, rfl, n2, (e1.trans e2).trans e3, w3, q3⟩
        | _ => exact q3.elim
theorem fe_un {op : UnaryOp} {r : V → Hp → VK → Prop} {o : DO1} (ho : UnR X (unaryOp op) r) (k : OkU r o) (ha : FE X a ta) : FE X (.UnaryOp op a pos) (dUn o ta) := FE.of (pe_un ho ha) fun c M σ H env n R S h =>
  goE S h fun x H1 d1 n1 e1 w1 m1 q1 => k c M H1 x d1 n1 (fun z => R z n1) _ (S.step e1 w1).dom S.dM w1 m1 q1 fun v H' z e3 w3 m3 q3 => ⟨z, n1, e1.trans e3, w3, m3, q3⟩

/-- ints in, under C -/
def oI (C : Int → Int → Prop) (g : Int → Int → PyData) : DO2 := fun x y R => match x, y with
  | .dat (.int i), .dat (.int j) => C i j ∧ R (.dat (g i j))
  | _, _ => False
def oI0 (g : Int → Int → PyData) : DO2 := fun x y R => match x, y with
  | .dat (.int i), .dat (.int j) => R (.dat (g i j))
  | _, _ => False
theorem oI_inv {C : Int → Int → Prop} {g : Int → Int → PyData} {x y : DV} {R : DV → Prop} (h : oI C g x y R) : ∃ i j, x = IV i ∧ y = IV j ∧ C i j ∧ R (.dat (g i j)) := by
  unfold oI at h
  split at h
  · exact ⟨_, _, rfl, rfl, h.1, h.2⟩
  · exact h.elim
theorem oI0_inv {g : Int → Int → PyData} {x y : DV} {R : DV → Prop} (h : oI0 g x y R) : ∃ i j, x = IV i ∧ y = IV j ∧ R (.dat (g i j)) := by
  unfold oI0 at h
  split at h
  · exact ⟨_, _, rfl, rfl, h⟩
  · exact h.elim
theorem ok_I {C : Int → Int → Prop} {gv : Int → Int → V} {g : Int → Int → PyData} (r : ∀ M H i j, Dm M H (gv i j) (g i j)) : OkO (rI C gv) (oI C g) := fun c M H x y d f n R Q hd hr w hx hy h k => by
  obtain ⟨i, j, rfl, rfl, hc, q⟩ := oI_inv h
  cases hx
  cases hy
  exact ⟨i, j, rfl, rfl, hc, k _ H (.dat (g i j)) (Ext.rfl' H) w (r M H i j) q⟩
theorem ok_I0 {gv : Int → Int → V} {g : Int → Int → PyData} (r : ∀ M H i j, Dm M H (gv i j) (g i j)) : OkO (rI0 gv) (oI0 g) := fun c M H x y d f n R Q hd hr w hx hy h k => by
  obtain ⟨i, j, rfl, rfl, q⟩ := oI0_inv h
  cases hx
  cases hy
  exact ⟨i, j, rfl, rfl, k _ H (.dat (g i j)) (Ext.rfl' H) w (r M H i j) q⟩
abbrev oAdd : DO2 := oI0 fun i j => .int (i + j)
abbrev oSub : DO2 := oI0 fun i j => .int (i - j)
abbrev oMul : DO2 := oI CMulW fun i j => .int (i * j)
abbrev oDiv : DO2 := oI CDivW fun i j => .int (i / j)
abbrev oMod : DO2 := oI (fun _ j => 0 < j) fun i j => .int (i % j)
abbrev oLt : DO2 := oI0 fun i j => .bool (decide (i < j))
abbrev oLe : DO2 := oI0 fun i j => .bool (decide (i ≤ j))
abbrev oGt : DO2 := oI0 fun i j => .bool (decide (j < i))
theorem fe_add (ha : FE X a ta) (hb : FE X b tb) : FE X (.BinOp a .Add b pos) (dOp oAdd ta tb) := fe_op op_add (ok_I0 fun _ _ _ _ => .int _) ha hb
theorem fe_sub (ha : FE X a ta) (hb : FE X b tb) : FE X (.BinOp a .Sub b pos) (dOp oSub ta tb) := fe_op op_sub (ok_I0 fun _ _ _ _ => .int _) ha hb
theorem fe_mul (ha : FE X a ta) (hb : FE X b tb) : FE X (.BinOp a .Mult b pos) (dOp oMul ta tb) := fe_op op_mulW (ok_I fun _ _ _ _ => .int _) ha hb
theorem fe_fdiv (ha : FE X a ta) (hb : FE X b tb) : FE X (.BinOp a .FloorDiv b pos) (dOp oDiv ta tb) := fe_op op_fdivW (ok_I fun _ _ _ _ => .int _) ha hb
theorem fe_mod (ha : FE X a ta) (hb : FE X b tb) : FE X (.BinOp a .Mod b pos) (dOp oMod ta tb) := fe_op op_mod (ok_I fun _ _ _ _ => .int _) ha hb
theorem ok_lt : OkO (rI0 fun i j => .bl (decide (i < j))) oLt := ok_I0 fun _ _ _ _ => .bl _
theorem ok_le : OkO (rI0 fun i j => .bl (decide (i ≤ j))) oLe := ok_I0 fun _ _ _ _ => .bl _
theorem ok_gt : OkO (rI0 fun i j => .bl (decide (j < i))) oGt := ok_I0 fun _ _ _ _ => .bl _
/-- == and != of data -/
def oEq : DO2 := fun x y R => match x, y with
  | .dat d, .dat f => SeqAt.shaped d = true ∧ SeqAt.shaped f = true ∧ R (BV (PyData.eqv d f))
  | _, _ => False
def oNe : DO2 := fun x y R => match x, y with
  | .dat d, .dat f => SeqAt.shaped d = true ∧ SeqAt.shaped f = true ∧ R (BV (!PyData.eqv d f))
  | _, _ => False
theorem ok_eq (K : PySem.W.Frag) : OkO (rEqD K) oEq := fun c M H x y d f n R Q hd hr w hx hy h k => by
  cases d with
  | dat d =>
    cases f with
    | dat f =>
      obtain ⟨h1, h2, h3⟩ := h
      exact ⟨d, f, Dm.dp K hx, Dm.dp K hy, h1, h2, k _ H (BV _) (Ext.rfl' H) w (Dm.bl _) h3⟩
    | _ => exact h.elim
  | _ => exact h.elim
theorem ok_ne (K : PySem.W.Frag) : OkO (rNeD K) oNe := fun c M H x y d f n R Q hd hr w hx hy h k => by
  cases d with
  | dat d =>
    cases f with
    | dat f =>
      obtain ⟨h1, h2, h3⟩ := h
      exact ⟨d, f, Dm.dp K hx, Dm.dp K hy, h1, h2, k _ H (BV _) (Ext.rfl' H) w (Dm.bl _) h3⟩
    | _ => exact h.elim
  | _ => exact h.elim
def oNeg : DO1 := fun x R => match x with
  | .dat (.int i) => R (IV (-i))
  | _ => False
theorem fe_neg (ha : FE X a ta) : FE X (.UnaryOp .USub a pos) (dUn oNeg ta) := fe_un un_neg (fun c M H x d n R Q hd hr w hx h k => by
  cases d with
  | dat d =>
    cases d with
    | int i =>
      cases hx
      exact ⟨i, rfl, k _ H (IV _) (Ext.rfl' H) w (Dm.int _) h⟩
    | _ => exact h.elim
  | _ => exact h.elim) ha

def dChain (o o' : DO2) (ta tb tc : DT) : DT := fun env n R => ta env n fun x n1 => tb env n1 fun y n2 => o x y fun z => match z with
  | .dat (.bool k) => if k = true then tc env n2 fun w n3 => o' y w fun q => R q n3 else R (BV false) n2
  | _ => False
theorem chain2 {r r' : R2} {o o' : DO2} (k : OkO r o) (k' : OkO r' o') (c : Cw) (M : Addr → Prop) (σ : St) (H : Hp) (env : En) (n : Nat) (R : DV → Nat → Prop) (S : Sta c M σ H env n) (h : dChain o o' ta tb tc env n R) :
    tChain r r' (cE ta) (cE tb) (cE tc) σ H (OutE c M H R) :=
  goE S h fun x H1 d1 n1 e1 w1 m1 q1 => goE (S.step e1 w1) q1 fun y H2 d2 n2 e2 w2 m2 q2 =>
    k c M H2 x y d1 d2 n2 _ _ (S.step (e1.trans e2) w2).dom S.dM w2 (m1.mono (e2.weak S.dM)) m2 q2 fun v H' z e3 w3 m3 q3 => by
      cases z with
      | draws => exact q3.elim
      | own ds => exact q3.elim
      | dat d =>
        cases d with
        | bool k =>
          cases m3
          refine ⟨k, rfl, ?_⟩
          cases k with
          | false =>
            rw [if_neg Bool.false_ne_true]
            exact ⟨BV false, n2, (e1.trans e2).trans e3, w3, Dm.bl _, q3⟩
          | true =>
            rw [if_pos rfl]
            exact goE (S.step ((e1.trans e2).trans e3) w3) q3 fun w4 H4 d4 n4 e4 w4' m4 q4 =>
              k' c M H4 y w4 d2 d4 n4 (fun q => R q n4) (OutE c M H R) (S.step (((e1.trans e2).trans e3).trans e4) w4').dom S.dM w4' (m2.mono ((e3.trans e4).weak S.dM)) m4 q4 fun v5 H5 z5 e5 w5 m5 q5 =>
                ⟨z5, n4, (((e1.trans e2).trans e3).trans e4).trans e5, w5, m5, q5⟩
        | _ => exact q3.elim
variable {x c' : Expr}
theorem fe_chain {op op' : CmpOp} {r r' : R2} {o o' : DO2} (ho : OpR X (compareOp op) r) (ho' : OpR X (compareOp op') r') (k : OkO r o) (k' : OkO r' o') (ha : FE X a ta) (hb : FE X b tb) (hc : FE X c' tc)
    (hm : lastMarks [op, op'] [b, c'] = false := by with_unfolding_all rfl) : FE X (.Compare a [op, op'] [b, c'] pos) (dChain o o' ta tb tc) := FE.of (pe_chain ho ho' ha hb hc hm) fun c M σ H env n R S h => chain2 k k' c M σ H env n R S h
/-- a value that is a bool, as a test -/
theorem ft_val {t : DT} (h : FE X e t) (he : ∀ whole, isTrue e X.env whole = (do let v ← whole; standAt e.pos; holding [v] (truthy v)) := by intro _; rfl) : FT X e (dTest t) := FT.of (pt_val h he) fun c M σ H env n R S q =>
  goE S q fun x H1 d1 n1 e1 w1 m1 q1 => by
    cases d1 with
    | draws => exact q1.elim
    | own ds => exact q1.elim
    | dat d =>
      cases d with
      | bool k =>
        cases m1
        exact ⟨k, rfl, n1, e1, w1, q1⟩
      | _ => exact q1.elim
theorem ft_chain {op op' : CmpOp} {r r' : R2} {o o' : DO2} (ho : OpR X (compareOp op) r) (ho' : OpR X (compareOp op') r') (k : OkO r o) (k' : OkO r' o') (ha : FE X a ta) (hb : FE X b tb) (hc : FE X c' tc)
    (hm : lastMarks [op, op'] [b, c'] = false := by with_unfolding_all rfl) : FT X (.Compare a [op, op'] [b, c'] pos) (dTest (dChain o o' ta tb tc)) := FT.of (pt_chain ho ho' ha hb hc hm) fun c M σ H env n R S h =>
  goE S h fun x H1 d1 n1 e1 w1 m1 q1 => goE (S.step e1 w1) q1 fun y H2 d2 n2 e2 w2 m2 q2 =>
    k c M H2 x y d1 d2 n2 _ _ (S.step (e1.trans e2) w2).dom S.dM w2 (m1.mono (e2.weak S.dM)) m2 q2 fun v H' z e3 w3 m3 q3 => by
      cases z with
      | draws => exact q3.elim
      | own ds => exact q3.elim
      | dat d =>
        cases d with
        | bool k =>
          cases m3
          refine ⟨k, rfl, ?_⟩
          cases k with
          | false =>
            rw [if_neg Bool.false_ne_true]
            exact ⟨false, rfl, n2, (e1.trans e2).trans e3, w3, q3⟩
          | true =>
            rw [if_pos rfl]
            exact goE (S.step ((e1.trans e2).trans e3) w3) q3 fun w4 H4 d4 n4 e4 w4' m4 q4 =>
              k' c M H4 y w4 d2 d4 n4 _ _ (S.step (((e1.trans e2).trans e3).trans e4) w4').dom S.dM w4' (m2.mono ((e3.trans e4).weak S.dM)) m4 q4 fun v5 H5 z5 e5 w5 m5 q5 => by
                cases z5 with
                | draws => exact q5.elim
                | own ds => exact q5.elim
                | dat d =>
                  cases d with
                  | bool k =>
                    cases m5
                    exact ⟨k, rfl, n4, (((e1.trans e2).trans e3).trans e4).trans e5, w5, q5⟩
                  | _ => exact q5.elim
        | _ => exact q3.elim

def dAnd (t u : DTB) : DTB := fun env n R => t env n fun k n1 => if k = true then u env n1 R else R false n1
def dOr (t u : DTB) : DTB := fun env n R => t env n fun k n1 => if k = true then R true n1 else u env n1 R
def dNot (t : DTB) : DTB := fun env n R => t env n fun k n1 => R (!k) n1
variable {rest : List Expr}
theorem fw_or1 (ha : FT X a t) : FW X (.BoolOp .Or [a] pos) t := pw_or1 ha
theorem fw_or (ha : FT X a t) (hb : FW X (.BoolOp .Or (b :: rest) pos) u) : FW X (.BoolOp .Or (a :: b :: rest) pos) (dOr t u) := FW.of (pw_or ha hb) fun c M σ H env n R S h =>
  goT S h fun k H1 n1 e1 w1 q1 => by
    cases k with
    | true =>
      rw [if_pos rfl] at q1 ⊢
      exact ⟨n1, e1, w1, q1⟩
    | false =>
      rw [if_neg Bool.false_ne_true] at q1 ⊢
      exact goT (S.step e1 w1) q1 fun k2 H2 n2 e2 w2 q2 => ⟨n2, e1.trans e2, w2, q2⟩
theorem ft_not (ha : FT X a t) : FT X (.UnaryOp .Not a pos) (dNot t) := FT.of (pt_not ha) fun c M σ H env n R S h => goT S h fun k H1 n1 e1 w1 q1 => ⟨n1, e1, w1, q1⟩
def dIf (t : DTB) (ta tb : DT) : DT := fun env n R => t env n fun k n1 => if k = true then ta env n1 R else tb env n1 R
theorem fe_if {q : Expr} (hc : FT X q t) (ha : FE X a ta) (hb : FE X b tb) : FE X (.IfExp q a b pos) (dIf t ta tb) := FE.of (pe_ifExp hc ha hb) fun c M σ H env n R S h =>
  goT S h fun k H1 n1 e1 w1 q1 => by
    cases k with
    | true =>
      rw [if_pos rfl] at q1 ⊢
      exact goE (S.step e1 w1) q1 fun v2 H2 d2 n2 e2 w2 m2 q2 => ⟨d2, n2, e1.trans e2, w2, m2, q2⟩
    | false =>
      rw [if_neg Bool.false_ne_true] at q1 ⊢
      exact goE (S.step e1 w1) q1 fun v2 H2 d2 n2 e2 w2 m2 q2 => ⟨d2, n2, e1.trans e2, w2, m2, q2⟩
/-- as values, bools -/
def dAndV (ta tb : DT) : DT := fun env n R => ta env n fun x n1 => match x with
  | .dat (.bool k) => if k = true then tb env n1 R else R (BV false) n1
  | _ => False
def dOrV (ta tb : DT) : DT := fun env n R => ta env n fun x n1 => match x with
  | .dat (.bool k) => if k = true then R (BV true) n1 else tb env n1 R
  | _ => False
def dNotV (ta : DT) : DT := fun env n R => ta env n fun x n1 => match x with
  | .dat (.bool k) => R (BV (!k)) n1
  | _ => False
theorem fe_one {op} (h : FE X a ta) : FE X (.BoolOp op [a] pos) ta := pe_one h
theorem fe_and (ha : FE X a ta) (hb : FE X (.BoolOp .And (b :: rest) pos) tb) : FE X (.BoolOp .And (a :: b :: rest) pos) (dAndV ta tb) := FE.of (pe_and ha hb) fun c M σ H env n R S h =>
  goE S h fun x H1 d1 n1 e1 w1 m1 q1 => by
    cases d1 with
    | draws => exact q1.elim
    | own ds => exact q1.elim
    | dat d =>
      cases d with
      | bool k =>
        cases m1
        refine ⟨k, rfl, ?_⟩
        cases k with
        | false =>
          rw [if_neg Bool.false_ne_true]
          exact ⟨BV false, n1, e1, w1, Dm.bl _, q1⟩
        | true =>
          rw [if_pos rfl]
          exact goE (S.step e1 w1) q1 fun v2 H2 d2 n2 e2 w2 m2 q2 => ⟨d2, n2, e1.trans e2, w2, m2, q2⟩
      | _ => exact q1.elim
theorem fe_not (ha : FE X a ta) : FE X (.UnaryOp .Not a pos) (dNotV ta) := FE.of (pe_not ha) fun c M σ H env n R S h =>
  goE S h fun x H1 d1 n1 e1 w1 m1 q1 => by
    cases d1 with
    | draws => exact q1.elim
    | own ds => exact q1.elim
    | dat d =>
      cases d with
      | bool k =>
        cases m1
        exact ⟨k, rfl, BV (!k), n1, e1, w1, Dm.bl _, q1⟩
      | _ => exact q1.elim

def dNil : DTA := fun _ n R => R [] n
def dCons (ta : DT) (tl : DTA) : DTA := fun env n R => ta env n fun x n1 => tl env n1 fun xs n2 => R (x :: xs) n2
theorem fa_nil : FA X [] dNil := FA.of pa_nil fun c M σ H env n R S h => ⟨[], n, Ext.rfl' H, S.wr, .nil, h⟩
theorem fa_cons (ha : FE X e ta) (hr : FA X es tl) (hs : starEach (e :: es) X.env = (false, eval e X.env) :: starEach es X.env := by rfl) : FA X (e :: es) (dCons ta tl) := FA.of (pa_cons ha hr hs) fun c M σ H env n R S h =>
  goE S h fun x H1 d1 n1 e1 w1 m1 q1 => goA (S.step e1 w1) q1 fun xs H2 d2 n2 e2 w2 m2 q2 => ⟨d1 :: d2, n2, e1.trans e2, w2, .cons (m1.mono (e2.weak S.dM)) m2, q2⟩
/-- data alone -/
def allD : List DV → Option (List PyData)
  | [] => some []
  | .dat d :: r => match allD r with
    | some ds => some (d :: ds)
    | none => none
  | _ :: _ => none
theorem allD_reps {ω : DrA} {M : Addr → Prop} {H : Hp} : ∀ {vs : List V} {xs : List DV} {ds : List PyData}, VReps ω M H vs xs → allD xs = some ds → DmA M H vs ds
  | _, [], _, .nil, h => by cases h; exact .nil
  | _, .dat d :: r, ds, .cons h t, e => by
    unfold allD at e
    cases z : allD r with
    | none => rw [z] at e; cases e
    | some q =>
      rw [z] at e
      cases e
      exact .cons h (allD_reps t z)
  | _, .draws :: _, _, .cons _ _, e => by cases e
  | _, .own _ :: _, _, .cons _ _, e => by cases e
def dTup (tl : DTA) : DT := fun env n R => tl env n fun xs n1 => match allD xs with
  | some ds => ds.length ≤ 1000 ∧ R (TV ds) n1
  | none => False
def dLst (tl : DTA) : DT := fun env n R => tl env n fun xs n1 => match allD xs with
  | some ds => ds.length ≤ 1000 ∧ R (LV ds) n1
  | none => False
theorem sz1000 {k : Nat} (h : k ≤ 1000) : k ≤ sizeLine := Nat.le_trans h (by decide)
theorem fe_tup {x1} (h : FA X es tl) : FE X (.Tuple es x1 pos) (dTup tl) := FE.of (pe_tup h) fun c M σ H env n R S h =>
  goA S h fun vs H1 d1 n1 e1 w1 m1 q1 => by
    cases z : allD d1 with
    | none => rw [z] at q1; exact q1.elim
    | some ds =>
      rw [z] at q1
      have m2 := allD_reps m1 z
      have S1 := S.step e1 w1
      refine ⟨by rw [m2.length]; exact sz1000 q1.1, fun p hp => ⟨TV ds, n1, e1.trans (Ext.new hp), w1.new hp, ?_, q1.2⟩⟩
      exact Dm.tup (fun hm => S1.dom p hm hp) upd_same (m2.mono (Ext.new hp))
theorem fe_lst (h : FA X es tl) : FE X (.List es pos) (dLst tl) := FE.of (pe_lst h) fun c M σ H env n R S h =>
  goA S h fun vs H1 d1 n1 e1 w1 m1 q1 => by
    cases z : allD d1 with
    | none => rw [z] at q1; exact q1.elim
    | some ds =>
      rw [z] at q1
      have m2 := allD_reps m1 z
      have S1 := S.step e1 w1
      refine ⟨by rw [m2.length]; exact sz1000 q1.1, fun p hp => ⟨LV ds, n1, e1.trans (Ext.new hp), w1.new hp, ?_, q1.2⟩⟩
      exact Dm.lst (fun hm => S1.dom p hm hp) upd_same (m2.mono (Ext.new hp))

def oIxT : DO2 := fun x y R => match x, y with
  | .dat (.tuple ds), .dat (.int i) => match atI ds i with
    | some d => R (.dat d)
    | none => False
  | _, _ => False
def oIxL : DO2 := fun x y R => match x, y with
  | .dat (.list ds), .dat (.int i) => match atI ds i with
    | some d => R (.dat d)
    | none => False
  | _, _ => False
theorem DmA.atI {M : Addr → Prop} {H : Hp} {vs : List V} {ds : List PyData} {i : Int} {d : PyData} (h : DmA M H vs ds) (e : L2.atI ds i = some d) : ∃ v, L2.atI vs i = some v ∧ Dm M H v d := by
  unfold L2.atI at e ⊢
  rw [h.length]
  cases z : ixN ds.length i with
  | none => rw [z] at e; cases e
  | some j =>
    rw [z] at e
    exact h.get e
theorem ok_ixT (K : PySem.W.Frag) : OkO (rIxT K) oIxT := fun c M H x y d f n R Q hd hr w hx hy h k => by
  unfold oIxT at h
  split at h
  · rename_i ds i
    split at h
    · rename_i q e
      cases hx with
      | tup hm ha hds =>
        cases hy
        obtain ⟨v, h1, h2⟩ := hds.atI e
        exact ⟨_, _, i, v, rfl, rfl, SqT.of ha, h1, k v H (.dat q) (Ext.rfl' H) w h2 h⟩
    · exact h.elim
  · exact h.elim
theorem ok_ixL (K : PySem.W.Frag) : OkO (rIxL K) oIxL := fun c M H x y d f n R Q hd hr w hx hy h k => by
  unfold oIxL at h
  split at h
  · rename_i ds i
    split at h
    · rename_i q e
      cases hx with
      | lst hm ha hds =>
        cases hy
        obtain ⟨v, h1, h2⟩ := hds.atI e
        exact ⟨_, _, i, v, rfl, rfl, SqL.of ha, h1, k v H (.dat q) (Ext.rfl' H) w h2 h⟩
    · exact h.elim
  · exact h.elim
theorem fe_ixT (ha : FE X a ta) (hb : FE X b tb) (hs : PlainIx b) : FE X (.Subscript a b pos) (dOp oIxT ta tb) := FE.of (pe_ix ix_tup ha hb hs) fun c M σ H env n R S h => two (te := cE ta) (ok_ixT X.K) c M σ H env n R S h
theorem fe_ixL (ha : FE X a ta) (hb : FE X b tb) (hs : PlainIx b) : FE X (.Subscript a b pos) (dOp oIxL ta tb) := FE.of (pe_ix ix_list ha hb hs) fun c M σ H env n R S h => two (te := cE ta) (ok_ixL X.K) c M σ H env n R S h
end
end Sx

set_option Elab.async false
set_option linter.all false
set_option maxRecDepth 100000
set_option maxHeartbeats 2000000
namespace Sx
open PySem L2
theorem get_set {α : Type} {l : List α} {i j : Nat} {x y : α} (h : (l.set i x)[j]? = some y) : (j = i ∧ y = x ∧ i < l.length) ∨ (j ≠ i ∧ l[j]? = some y) := by
  by_cases e : j = i
  · subst e
    left
    rw [List.getElem?_set] at h
    simp only [if_true] at h
    split at h
    · exact ⟨rfl, (Option.some.inj h).symm, by assumption⟩
    · cases h
  · exact .inr ⟨e, by rwa [List.getElem?_set_ne (Ne.symm e)] at h⟩
/-- a slot is set to a value -/
theorem Sta.set {c : Cw} {M : Addr → Prop} {σ : St} {H : Hp} {env : En} {n : Nat} (S : Sta c M σ H env n) (i : Nat) {v : V} {d : DV} (h : VRep c.ω M H v d) : Sta c M (σ.set i (some v)) H (env.set i (some d)) n where
  m0 := S.m0
  d0 := S.d0
  dom := S.dom
  wr := S.wr
  keep := S.keep
  len := by rw [List.length_set, List.length_set]; exact S.len
  gh := S.gh
  gr := S.gr
  slot := fun j x e => by
    rcases get_set e with ⟨rfl, q, hl⟩ | ⟨ne, q⟩
    · cases q
      refine ⟨v, by rw [List.getElem?_set_self (by rw [S.len]; exact hl)], ?_⟩
      cases d with
      | own ds => exact h.elim
      | _ => exact h
    · obtain ⟨u, h1, h2⟩ := S.slot j x q
      exact ⟨u, by rw [List.getElem?_set_ne (Ne.symm ne)]; exact h1, h2⟩
  own := fun j k xs ys u e1 e2 e3 e4 => by
    have nown : ∀ {j : Nat} {xs : List PyData}, (env.set i (some d))[j]? = some (some (.own xs)) → j ≠ i ∧ env[j]? = some (some (.own xs)) := fun {j xs} e => by
      rcases get_set e with ⟨rfl, q, hl⟩ | q
      · cases q
        exact h.elim
      · exact q
    obtain ⟨n1, q1⟩ := nown e1
    obtain ⟨n2, q2⟩ := nown e2
    rw [List.getElem?_set_ne (Ne.symm n1)] at e3
    rw [List.getElem?_set_ne (Ne.symm n2)] at e4
    exact S.own j k xs ys u q1 q2 e3 e4

def SlotV.growM {c : Cw} {M : Addr → Prop} {H : Hp} {v : V} {x : DV} {p : Addr} (hp : H p = none) (h : SlotV c M H v x) : SlotV c (fun a => M a ∨ a = p) H v x := by
  cases x with
  | dat d => exact Dm.more hp h
  | draws => exact h
  | own ds =>
    obtain ⟨a, xs, h1, h2, h3, h4, h5, h6⟩ := h
    exact ⟨a, xs, h1, .inl h2, h3, h4, h5, h6.more hp⟩

section
variable {X : Cx} {e a b : Expr} {es : List Expr} {pos : Pos} {ta tb : DT} {t u : DTB} {tl : DTA} {st : Stmt} {rest ss ss' : List Stmt} {ts us : DTS}

theorem FS.of {te : TS} (h : PS X st te) (q : ∀ c M σ H env n F E, Sta c M σ H env n → ts F env n → Leads c F E → te E σ H) : FS X st ts :=
  ⟨fun pins s σ H D I ⟨c, M, env, n, F, S, ht, k⟩ => h.run pins s σ H D I (q c M σ H env n F D S ht k)⟩
theorem FSs.of {te : TS} (h : PSs X ss te) (q : ∀ c M σ H env n F E, Sta c M σ H env n → ts F env n → Leads c F E → te E σ H) : FSs X ss ts :=
  ⟨fun pins s σ H D I ⟨c, M, env, n, F, S, ht, k⟩ => h.run pins s σ H D I (q c M σ H env n F D S ht k)⟩
theorem goS {c : Cw} {M : Addr → Prop} {σ : St} {H : Hp} {env : En} {n : Nat} {F : DEnds} {E : Ends} (S : Sta c M σ H env n) (h : ts F env n) (k : Leads c F E) : cS ts E σ H := ⟨c, M, env, n, F, S, h, k⟩

def dNext : DTS := fun F env n => F.nx env n
def dSeq (t u : DTS) : DTS := fun F env n => t { F with nx := u F } env n
theorem fss_nil : FSs X [] dNext := FSs.of pss_nil fun c M σ H env n F E S h k => k.nx M σ H env n S h
theorem fss_cons (h1 : FS X st ts) (h2 : FSs X rest us) : FSs X (st :: rest) (dSeq ts us) := FSs.of (pss_cons h1 h2) fun c M σ H env n F E S h k =>
  goS (E := { E with nx := cS us E }) (F := { F with nx := us F }) S h ⟨fun M' σ' H' env' n' S' h' => goS S' h' k, k.bk, k.ct, k.rt⟩
theorem fss_one (h1 : FS X st ts) : FSs X [st] ts := pss_one h1
def dBreak : DTS := fun F env n => F.bk env n
def dCont : DTS := fun F env n => F.ct env n
def dNever : DTS := fun _ _ _ => False
theorem fs_never : FS X st dNever := FS.of ps_never fun c M σ H env n F E S h k => h
def dRet (t : DT) : DTS := fun F env n => t env n F.rt
theorem fs_ret (he : FE X e ta) : FS X (.Return (some e) pos) (dRet ta) := FS.of (ps_ret he) fun c M σ H env n F E S h k =>
  goE S h fun v H' d n' e1 w1 m1 q1 => k.rt v H' d n' (S.keep.trans e1) w1 (m1.weak S.m0) q1
def dRetN : DTS := fun F _ n => F.rt (.dat .none) n
def dIfS (c : DTB) (t u : DTS) : DTS := fun F env n => c env n fun k n1 => if k = true then t F env n1 else u F env n1
theorem fs_if {q : Expr} (hc : FT X q t) (ha : FSs X ss ts) (hb : FSs X ss' us) : FS X (.If q ss ss' pos) (dIfS t ts us) := FS.of (ps_if hc ha hb) fun c M σ H env n F E S h k =>
  goT S h fun b H1 n1 e1 w1 q1 => by
    cases b with
    | true =>
      rw [if_pos rfl] at q1 ⊢
      exact goS (S.step e1 w1) q1 k
    | false =>
      rw [if_neg Bool.false_ne_true] at q1 ⊢
      exact goS (S.step e1 w1) q1 k
def dDrop (t : DT) : DTS := fun F env n => t env n fun _ n1 => F.nx env n1
theorem fs_expr (he : FE X e ta) (hs : swapsWith e none pos.line X.env = pure false := by rfl) : FS X (.Expr e pos) (dDrop ta) := FS.of (ps_expr he hs) fun c M σ H env n F E S h k =>
  goE S h fun v H1 d n1 e1 w1 m1 q1 => k.nx M σ H1 env n1 (S.step e1 w1) q1
def dAsg (i : Nat) (t : DT) : DTS := fun F env n => t env n fun d n1 => F.nx (env.set i (some d)) n1
theorem fs_set {i : Nat} {st : Stmt} (h : PS X st (tAsg (cE ta) (gName i))) : FS X st (dAsg i ta) := FS.of h fun c M σ H env n F E S h k =>
  goE S h fun v H1 d n1 e1 w1 m1 q1 => k.nx M _ H1 _ n1 ((S.step e1 w1).set i m1) q1
/-- a list of its own: x = [..], to be appended to -/
def dAsgOwn (i : Nat) (tl : DTA) : DTS := fun F env n => tl env n fun xs n1 => match allD xs with
  | some ds => ds.length ≤ 1000 ∧ F.nx (env.set i (some (.own ds))) n1
  | none => False
/-- from now on read, no longer written -/
def dFreeze (i : Nat) (ts : DTS) : DTS := fun F env n => match env[i]? with
  | some (some (.own ds)) => ts F (env.set i (some (LV ds))) n
  | _ => False
/-- x.append(e) -/
def dAppend (i : Nat) (ta : DT) : DTS := fun F env n => match env[i]? with
  | some (some (.own _)) => ta env n fun d n1 => match env[i]?, d with
    | some (some (.own ds)), .dat y => ds.length < 5000 ∧ F.nx (env.set i (some (.own (ds ++ [y])))) n1
    | _, _ => False
  | _ => False
end
end Sx

set_option Elab.async false
set_option linter.all false
set_option maxRecDepth 100000
set_option maxHeartbeats 2000000
namespace Sx
open PySem L2
section
variable {X : Cx} {e a b : Expr} {es : List Expr} {pos : Pos} {ta tb : DT} {t u : DTB} {tl : DTA} {st : Stmt} {rest ss ss' : List Stmt} {ts us : DTS}

def setAll (env : En) : List Nat → List PyData → En
  | i :: is, d :: ds => setAll (env.set i (some (.dat d))) is ds
  | _, _ => env
def gAll : List Nat → TGs
  | [] => gNil
  | i :: is => gCons (gName i) (gAll is)
def dUnp (is : List Nat) (t : DT) : DTS := fun F env n => t env n fun d n1 => match d with
  | .dat (.tuple ds) => ds.length = is.length ∧ F.nx (setAll env is ds) n1
  | _ => False
theorem gAll_go {c : Cw} {M : Addr → Prop} {H : Hp} {n : Nat} {Q : St → Hp → Prop} {P : En → Prop} (k : ∀ σ env, Sta c M σ H env n → P env → Q σ H) : ∀ (is : List Nat) (vs : List V) (ds : List PyData) (σ : St) (env : En), Sta c M σ H env n → DmA M H vs ds → ds.length = is.length → P (setAll env is ds) → gAll is vs σ H Q
  | [], _, [], σ, env, S, .nil, _, p => ⟨rfl, k σ env S p⟩
  | i :: is, _, d :: ds, σ, env, S, .cons h t, l, p => ⟨_, _, rfl, gAll_go k is _ ds _ _ (S.set i (d := .dat d) h) t (Nat.succ.inj l) p⟩
theorem fs_unp {is : List Nat} {k : Nat} {st : Stmt} (hk : is.length = k) (h : PS X st (tAsg (cE ta) (gTup X.K k (gAll is)))) : FS X st (dUnp is ta) := FS.of h fun c M σ H env n F E S q k' =>
  goE S q fun v H1 d n1 e1 w1 m1 q1 => by
    subst hk
    cases d with
    | draws => exact q1.elim
    | own ds => exact q1.elim
    | dat d =>
      cases d with
      | tuple ds =>
        cases m1 with
        | tup hm ha hd =>
          refine ⟨_, _, rfl, SqT.of ha, by rw [hd.length]; exact q1.1, ?_⟩
          exact gAll_go (P := fun env' => F.nx env' n1) (fun σ' env' S' p => k'.nx M σ' H1 env' n1 S' p) is _ ds σ env (S.step e1 w1) hd q1.1 q1.2
      | _ => exact q1.elim
/-- a, b = x, y written out: no tuple is made -/
def dPar (i j : Nat) (tl : DTA) : DTS := fun F env n => tl env n fun xs n1 => match xs with
  | [x, y] => F.nx ((env.set i (some x)).set j (some y)) n1
  | _ => False
theorem fs_par {i j : Nat} {st : Stmt} (h : PS X st (tPar i j (cA tl))) : FS X st (dPar i j tl) := FS.of h fun c M σ H env n F E S q k =>
  goA S q fun vs H1 xs n1 e1 w1 m1 q1 => by
    unfold dPar at q
    cases m1 with
    | nil => exact q1.elim
    | cons h1 t1 =>
      cases t1 with
      | nil => exact q1.elim
      | cons h2 t2 =>
        cases t2 with
        | cons _ _ => exact q1.elim
        | nil => exact ⟨_, _, rfl, k.nx M _ H1 _ n1 (((S.step e1 w1).set i h1).set j h2) q1⟩

def dForR (i : Nat) (ta : DT) (tb : DTS) : DTS := fun F env n => ta env n fun d n1 => match d with
  | .dat (.int j) => (-(2 ^ 62) ≤ j ∧ j < 2 ^ 62) ∧ ∃ I : Nat → En → Nat → Prop, I 0 env n1 ∧
      (∀ k env n, k < j.toNat → I k env n → tb { F with nx := I (k + 1), ct := I (k + 1), bk := F.nx } (env.set i (some (IV (k : Int)))) n) ∧ (∀ env n, I j.toNat env n → F.nx env n)
  | _ => False
theorem fs_forR {i : Nat} {st : Stmt} (h : PS X st (tFor (iRng1 (tCons (cE ta) tNil)) (gName i) (cS ts))) : FS X st (dForR i ta ts) := FS.of h fun c M σ H env n F E S q k =>
  goE S q fun v H1 d n1 e1 w1 m1 q1 => by
    cases d with
    | draws => exact q1.elim
    | own ds => exact q1.elim
    | dat d =>
      cases d with
      | int j =>
        cases m1
        obtain ⟨⟨b1, b2⟩, I, i0, iS, iE⟩ := q1
        refine ⟨j, rfl, b1, b2, for_range (lo := 0) (n := j.toNat) (fun k σ H => ∃ M env n, Sta c M σ H env n ∧ I k env n) ⟨M, env, n1, S.step e1 w1, i0⟩ ?_ ?_⟩
        · rintro k' σ' H' hk ⟨M', env', n', S', q'⟩
          have z := iS k' env' n' hk q'
          show cS ts _ (σ'.set i (some (.int (0 + (k' : Int))))) H'
          rw [Int.zero_add]
          exact goS (S'.set i (d := IV (k' : Int)) (Dm.int _)) z ⟨fun M2 σ2 H2 env2 n2 S2 h2 => ⟨M2, env2, n2, S2, h2⟩, k.nx, fun M2 σ2 H2 env2 n2 S2 h2 => ⟨M2, env2, n2, S2, h2⟩, k.rt⟩
        · rintro σ' H' ⟨M', env', n', S', q'⟩
          exact k.nx M' σ' H' env' n' S' (iE env' n' q')
      | _ => exact q1.elim
def Cw.hold (c : Cw) (p : V × PyData) (r : Addr × HO) : Cw := { c with gh := p :: c.gh, gr := r :: c.gr }
theorem Sta.hold {c : Cw} {M : Addr → Prop} {σ : St} {H : Hp} {env : En} {n : Nat} (S : Sta c M σ H env n) {p : V × PyData} {r : Addr × HO} (h : Dm M H p.1 p.2) (h2 : ¬ M r.1 ∧ H r.1 = some r.2) : Sta (c.hold p r) M σ H env n :=
  ⟨S.m0, S.d0, S.dom, S.wr, S.keep, S.len, fun q hq => (List.mem_cons.mp hq).elim (fun e => e ▸ h) (S.gh q), fun q hq => (List.mem_cons.mp hq).elim (fun e => e ▸ h2) (S.gr q), fun i x e => by
    obtain ⟨v, h1, h2⟩ := S.slot i x e
    exact ⟨v, h1, by cases x <;> exact h2⟩, S.own⟩
theorem Sta.drop {c : Cw} {M : Addr → Prop} {σ : St} {H : Hp} {env : En} {n : Nat} {p : V × PyData} {r : Addr × HO} (S : Sta (c.hold p r) M σ H env n) : Sta c M σ H env n :=
  ⟨S.m0, S.d0, S.dom, S.wr, S.keep, S.len, fun q hq => S.gh q (List.mem_cons_of_mem _ hq), fun q hq => S.gr q (List.mem_cons_of_mem _ hq), fun i x e => by
    obtain ⟨v, h1, h2⟩ := S.slot i x e
    exact ⟨v, h1, by cases x <;> exact h2⟩, S.own⟩
end
end Sx

set_option Elab.async false
set_option linter.all false
set_option maxRecDepth 100000
set_option maxHeartbeats 2000000
namespace Sx
open PySem PySem.Spec L2
open PyProof.Rows hiding St

structure RoomG (k : Nat) (A : Around) : Prop where
  rm : Room k A
  gd : A.guards = some []
theorem RoomG.mono {j k : Nat} {A : Around} (r : RoomG k A) (h : j ≤ k) : RoomG j A := ⟨r.rm.mono h, r.gd⟩
theorem guards_deeper (A : Around) (env : Env) : (A.deeper env).guards = A.guards := by first | rfl | simp [Around.deeper]
theorem RoomG.deeper {k : Nat} {A : Around} (r : RoomG (k + 1) A) (env : Env) : RoomG k (A.deeper env) := ⟨r.rm.deeper env, (guards_deeper A env).trans r.gd⟩

structure FnG (P : Program) (w : World) (K : PySem.W.Frag) (mg : Str → Option Value) (base : Heap) (CX : CXT) (k : Nat) (f : Addr) (fd : FuncData) (ps : List Str) (sp : Sp) : Prop where
  len : ∀ vs H Q E, sp vs H Q E → vs.length = ps.length
  go : ∀ (A : Around) (out : List Env) (s : Shared) (H : Hp) (ar : Args) (us : List Value) (vs : List V) (Q : VK) (E : XK), RoomG k A → Env0 P w K mg base A out s H → BindsTo s fd ar (ps.zip us) → Vals vs us →
    sp vs H Q E → codeAny (model P w) A (.call (.ref f) ar) (CR CX out P w H s Q E) s
section
variable {P : Program} {w : World} {K : PySem.W.Frag} {mg : Str → Option Value} {base : Heap} {CX : CXT} {k : Nat} {f : Addr} {fd : FuncData} {ps N : List Str} {sp : Sp}
theorem FnG.mono {j : Nat} (F : FnG P w K mg base CX j f fd ps sp) (h : j ≤ k) : FnG P w K mg base CX k f fd ps sp :=
  ⟨F.len, fun A out s H ar us vs Q E hr => F.go A out s H ar us vs Q E (hr.mono h)⟩
/-- a def of the text by its body -/
theorem fnG_of {x qual : Str} {st : Stmt} (F : Fun K x qual st f fd) (Sc : FnScope N ps (defScope st)) (len : ∀ vs H Q E, sp vs H Q E → vs.length = ps.length)
    (hb : ∀ (cdv : Value) (A : Around) (out : List Env) (s : Shared) (H : Hp) (vs : List V) (Q : VK) (E : XK), RoomG k (A.deeper (envOfC qual (defScope st) s.heap.objs.size f cdv)) → sp vs H Q E →
      ∃ t, PSs (cxOf CX P w K mg base N qual (defScope st) f cdv A out s H E) (defBody st) t ∧ t { nx := fun _ H' => Q .non H', rt := Q } (start N vs) H) : FnG P w K mg base CX (k + 1) f fd ps sp := by
  obtain ⟨oc, od, kV, doc, pm, an, cdv, ct, osl, rfl, lk, hcd⟩ := F.ex
  refine ⟨len, ?_⟩
  intro A out s H ar us vs Q E rg e0 bt rel hsp
  have nvs := len _ _ _ _ hsp
  have kin : K.In s.heap := e0.mod.kin.keeps (fun b o z => (e0.bs b o z).1)
  have lim : s.heap.NoLimit := e0.mod.nolimit.keeps (fun b o z => (e0.bs b o z).1)
  refine codeAny_call_function rg.rm.depth (kin _ _ lk) rfl Sc.co Sc.gen rfl (PySem.W.codeRec_of kin hcd) (bt _ _ _ _ (wpAny_newFunctionEnv_cells Sc.kind ?kd fun env he s1 ic => ?bd))
  case kd =>
    rintro ⟨n, v⟩ hy
    have q := Sc.par n (List.of_mem_zip hy).1
    exact q.imp id fun q => ⟨q, PySem.W.cellsFrom_some _ _ _ (Or.inl q)⟩
  case bd =>
    subst he
    refine ⟨lim.keeps ic.toInCall.keep, codeAny_func ?_⟩
    obtain ⟨t, ht, hq⟩ := hb cdv A out s H vs Q E (rg.deeper _) hsp
    have I := inv_start (CX := CX) (N := N) (qual := qual) (f := f) (cd := cdv) (E := E) Sc rg.rm.hd e0 nvs rel ic
    refine wpAny_mono (ht.run [] s1 (start N vs) H _ I hq) ?_ (fun _ _ z => z)
    intro fl s' hs
    cases fl with
    | brk => exact False.elim hs.choose_spec.choose_spec.2
    | cont => exact False.elim hs.choose_spec.choose_spec.2
    | ret u =>
      obtain ⟨v, σ', H', J, rv, q⟩ := hs
      exact ⟨v, H', J.os, J.bare, J.base, J.hok, rv, q⟩
    | next =>
      obtain ⟨σ', H', J, q⟩ := hs
      exact ⟨V.non, H', J.os, J.bare, J.base, J.hok, rfl, q⟩

abbrev DSp := List DV → Nat → (DV → Nat → Prop) → Prop
def cSp (S : DSp) : Sp := fun vs H Q _ => ∃ ω M ds n R, (∀ a, dr ω a → M a) ∧ (∀ a, M a → H a ≠ none) ∧ WR ω n H ∧ VReps ω M H vs ds ∧ S ds n R ∧
  ∀ v H' d n', Ext (dr ω) H H' → WR ω n' H' → VRep ω M H' v d → R d n' → Q v H'
theorem VReps.length {ω : DrA} {M : Addr → Prop} {H : Hp} : ∀ {vs : List V} {ds : List DV}, VReps ω M H vs ds → vs.length = ds.length
  | _, _, .nil => rfl
  | _, _, .cons _ t => congrArg (· + 1) (VReps.length t)
theorem cSp_len {S : DSp} (h : ∀ ds n R, S ds n R → ds.length = ps.length) : ∀ vs H Q E, cSp S vs H Q E → vs.length = ps.length := fun vs H Q E ⟨ω, M, ds, n, R, _, _, _, r, q, _⟩ => r.length.trans (h ds n R q)
/-- the slots at the entry -/
def entry (m : Nat) (ds : List DV) : En := ds.map some ++ List.replicate (m - ds.length) none
def Plain : DV → Prop
  | .own _ => False
  | _ => True
theorem VRep.plain {ω : DrA} {M : Addr → Prop} {H : Hp} {v : V} {d : DV} (h : VRep ω M H v d) : Plain d := by
  cases d with
  | own _ => exact h.elim
  | _ => trivial
theorem reps_get {ω : DrA} {M : Addr → Prop} {H : Hp} : ∀ {vs : List V} {ds : List DV} {i : Nat} {d : DV}, VReps ω M H vs ds → ds[i]? = some d → ∃ v, vs[i]? = some v ∧ VRep ω M H v d
  | _, _, _, _, .nil, e => by simp at e
  | _, _, 0, _, .cons h _, e => by simp at e; subst e; exact ⟨_, rfl, h⟩
  | _, _, i + 1, d, .cons _ t, e => by
    obtain ⟨u, h1, h2⟩ := reps_get (i := i) (d := d) t (by simpa using e)
    exact ⟨u, by simpa using h1, h2⟩
theorem entry_get {m : Nat} {ds : List DV} {i : Nat} {x : DV} (e : (entry m ds)[i]? = some (some x)) : ds[i]? = some x := by
  unfold entry at e
  by_cases hi : i < ds.length
  · rw [List.getElem?_append_left (by simpa using hi), List.getElem?_map] at e
    cases z : ds[i]? with
    | none => rw [z] at e; cases e
    | some y => rw [z] at e; cases e; rfl
  · rw [List.getElem?_append_right (by simpa using hi), List.getElem?_replicate] at e
    split at e <;> cases e
theorem sta_entry {ω : DrA} {M : Addr → Prop} {H : Hp} {n : Nat} {vs : List V} {ds : List DV} (N : List Str) (d0 : ∀ a, dr ω a → M a) (dom : ∀ a, M a → H a ≠ none) (w : WR ω n H) (r : VReps ω M H vs ds) :
    Sta ⟨ω, H, M, [], []⟩ M (start N vs) H (entry N.length ds) n where
  m0 := fun _ h => h
  d0 := d0
  dom := dom
  wr := w
  keep := Ext.rfl' H
  len := by unfold L2.start entry; simp [r.length]
  gh := fun p hp => (nomatch hp)
  gr := fun p hp => (nomatch hp)
  slot := fun i x e => by
    have e2 := entry_get e
    obtain ⟨v, hv, rv⟩ := reps_get r e2
    have hi : i < vs.length := (List.getElem?_eq_some_iff.mp hv).1
    refine ⟨v, ?_, ?_⟩
    · unfold L2.start
      rw [List.getElem?_append_left (by simpa using hi), List.getElem?_map, hv]; rfl
    · cases x with
      | own _ => exact rv.elim
      | _ => exact rv
  own := fun i j xs ys v e _ _ _ => by
    obtain ⟨v, hv, rv⟩ := reps_get r (entry_get e)
    exact rv.elim
/-- a def of the text, its promise over data -/
theorem fnD_of {x qual : Str} {st : Stmt} {S : DSp} {t : DTS} (F : Fun K x qual st f fd) (Sc : FnScope N ps (defScope st)) (len : ∀ ds n R, S ds n R → ds.length = ps.length)
    (hb : ∀ (cdv : Value) (A : Around) (out : List Env) (s : Shared) (H : Hp) (E : XK), RoomG k (A.deeper (envOfC qual (defScope st) s.heap.objs.size f cdv)) → FSs (cxOf CX0 P w K mg base N qual (defScope st) f cdv A out s H E).nox (defBody st) t)
    (pure : ∀ ds n R, S ds n R → t { nx := fun _ n => R (.dat .none) n, rt := R } (entry N.length ds) n) : FnG P w K mg base CX0 (k + 1) f fd ps (cSp S) :=
  fnG_of F Sc (cSp_len len) fun cdv A out s H vs Q E hr ⟨ω, M, ds, n, R, d0, dom, wr, r, hs, kQ⟩ => by
    refine ⟨_, (hb cdv A out s H E hr).nox, ?_⟩
    refine goS (sta_entry N d0 dom wr r) (pure ds n R hs) ⟨fun M' σ' H' env' n' S' q => ?_, fun _ _ _ _ _ _ q => q.elim, fun _ _ _ _ _ _ q => q.elim, fun v H' d n' e1 w1 m1 q1 => kQ v H' d n' e1 w1 m1 q1⟩
    exact kQ .non H' (.dat .none) n' S'.keep S'.wr Dm.non q
end

section
variable {X : Cx} {k : Nat} {f : Addr} {fd : FuncData} {ps : List Str} {S : DSp} {x : Str} {p pos : Pos} {e : Expr} {es : List Expr} {tl : DTA}
def dCall (S : DSp) (tl : DTA) : DT := fun env n R => tl env n fun ds n1 => S ds n1 R
theorem run_fnG {pins : List (Addr × Obj)} {σ : L2.St} {H : Hp} {s : Shared} {Q : VK} {us : List Value} {vs : List V} {sp : Sp} (F : FnG X.prog X.w X.K X.mg X.base CX0 k f fd ps sp) (hr : RoomG k X.A) (hb : Binds X.K fd ps [])
    (I : Inv X pins σ H s) (r : Vals vs us) (h : sp vs H Q E0) : wpAny (model X.prog X.w) X.A (call (.ref f) us) (EP X pins σ Q) X.xe s := by
  have hl : (us ++ []).length = ps.length := by rw [List.append_nil, ← r.length]; exact F.len _ _ _ _ h
  have hb' := hb s us I.kIn hl
  rw [List.append_nil] at hb'
  refine wpAny_call (codeAny_mono (F.go X.A X.stack s H ⟨us, []⟩ us vs Q E0 hr I.env0 hb' r h) ?_)
  intro r s' hq
  match r, hq with
  | .ok (.ret u), hq => exact I.after hq
theorem peG_call {sp : Sp} {ta : TA} (F : FnG X.prog X.w X.K X.mg X.base CX0 k f fd ps sp) (hr : RoomG k X.A) (hg : Gl X x) (hm : X.mg x = some (.ref f)) (hk : PySem.W.keepIn X.K (.ref f) = true) (hb : Binds X.K fd ps [])
    (ha : PA X (e :: es) ta) (hdb : (x == ("__debug__" : Str)) = false := by decide) (he : starEach (e :: es) X.env = (false, eval e X.env) :: starEach es X.env := by rfl)
    (hpl : (backTo pos (starEach es X.env)).any (·.1) = false := by rfl) : PE X (.Call (.Name x p) (e :: es) [] pos) (fun σ H Q => ta σ H fun vs H1 => sp vs H1 Q E0) :=
  ⟨fun pins s σ H Q I h => wpAny_Call_Name_kw (ld_glob I hg hm (PySem.W.callWith_K (h₀ := X.base) I.ok.mod.kin hk (thn (ha.run pos pins s σ H _ I h) fun us s1 ⟨vs, H1, I1, r, q⟩ => ⟨I1.kIn, run_fnG F hr hb I1 r q⟩) he hpl) hdb)⟩
theorem call_go {ta : TA} {c : Cw} {M : Addr → Prop} {σ : L2.St} {H : Hp} {env : En} {n : Nat} {R : DV → Nat → Prop} (St : Sta c M σ H env n) (h : dCall S tl env n R) : cA tl σ H fun vs H1 => cSp S vs H1 (OutE c M H R) E0 :=
  goA St h fun vs H1 ds n1 e1 w1 m1 q1 => ⟨c.ω, M, ds, n1, R, St.dM, (St.step e1 w1).dom, w1, m1, q1, fun v H' d n' e2 w2 m2 q2 => ⟨d, n', e1.trans e2, w2, m2, q2⟩⟩
theorem fe_call (F : FnG X.prog X.w X.K X.mg X.base CX0 k f fd ps (cSp S)) (hr : RoomG k X.A) (hg : Gl X x) (hm : X.mg x = some (.ref f)) (hk : PySem.W.keepIn X.K (.ref f) = true) (hb : Binds X.K fd ps [])
    (ha : FA X (e :: es) tl) (hdb : (x == ("__debug__" : Str)) = false := by decide) (he : starEach (e :: es) X.env = (false, eval e X.env) :: starEach es X.env := by rfl)
    (hpl : (backTo pos (starEach es X.env)).any (·.1) = false := by rfl) : FE X (.Call (.Name x p) (e :: es) [] pos) (dCall S tl) :=
  FE.of (peG_call F hr hg hm hk hb ha hdb he hpl) fun c M σ H env n R St h => call_go (ta := cA tl) St h
end
end Sx

set_option Elab.async false
set_option linter.all false
set_option maxRecDepth 100000
set_option maxHeartbeats 2000000
namespace Sx
open PySem PySem.Spec L2
open PyProof.Rows hiding St
section
variable {K : PySem.W.Frag}
def rLen (K : PySem.W.Frag) : List V → Hp → VK → Prop := fun xs H Q => ∃ p ys, xs = [.ref p] ∧ (SqL K H p ys ∨ SqT K H p ys) ∧ Q (.int ys.length) H
def rInt : List V → Hp → VK → Prop := fun xs H Q => (∃ i, xs = [.int i] ∧ Q (.int i) H) ∨ ∃ k, xs = [.bl k] ∧ Q (.int (if k then 1 else 0)) H
def aAdd : R2 := rI0 fun i j => .int (i + j)
def aMul : R2 := rI CMulW fun i j => .int (i * j)
def aDiv : R2 := rI CDivW fun i j => .int (i / j)
def aMod : R2 := rI (fun _ j => 0 < j) fun i j => .int (i % j)
def aGt : R2 := rI0 fun i j => .bl (decide (j < i))
def kS (x : Str) : TE := tC (.str x)
def one1 (t : TE) : TA := tCons t tNil
def two2 (t u : TE) : TA := tCons t (tCons u tNil)
/-- left = draws_so['lefts'][place] is positive: it is divided -/
def tDrawB (K : PySem.W.Frag) : TS := tSeq (tAsg (tOp aDiv (tVar 4) (tVar 1)) (gSub (tDGet (tVar 0) (kS "lefts")) (tVar 3) rSetL)) (tRet (tOp aMod (tCB rInt (one1 (tVar 4))) (tVar 1)))
def tMix (spM : Sp) (a b : TE) : TE := fun σ H Q => two2 a b σ H fun vs H1 => spM vs H1 Q E0
def tDraw (K : PySem.W.Frag) (spM : Sp) : TS :=
  tSeq (tAsg (tDGet (tVar 0) (kS "at")) (gName 2))
  (tSeq (sDPut (tVar 0) (kS "at") (tOp aAdd (tVar 2) (tC (.int 1))))
  (tSeq (tAsg (tOp aMod (tCB rInt (one1 (tVar 2))) (tCB (rLen K) (one1 (tDGet (tVar 0) (kS "cells"))))) (gName 3))
  (tSeq (tAsg (tOp (rIxL K) (tDGet (tVar 0) (kS "lefts")) (tVar 3)) (gName 4))
  (tSeq (tIfS (tTest (tOp aGt (tVar 4) (tC (.int 0)))) (tDrawB K) tNext)
  (tSeq (tAsg (tMix spM (tMix spM (tOp (rIxL K) (tDGet (tVar 0) (kS "cells")) (tVar 3)) (tVar 2)) (tOp aAdd (tC (.int 40)) (tVar 2))) (gName 5))
  (tRet (tOp aMod (tOp aDiv (tCB rInt (one1 (tOp aAdd (tOp aMul (tVar 5) (tC (.int 2147483647))) (tMix spM (tVar 5) (tOp aAdd (tC (.int 7)) (tVar 2)))))) (tC (.int 64))) (tVar 1))))))))
end
end Sx

set_option Elab.async false
set_option linter.all false
set_option maxRecDepth 100000
set_option maxHeartbeats 2000000
namespace Sx
open PySem PySem.Spec L2
open PyProof.Rows hiding St
abbrev LIM : Nat := 1073741824
/-- _law_mixed(cell, k): some number -/
def sMixed : DSp := fun ds n R => ∃ c k, ds = [IV c, IV k] ∧ 0 ≤ k ∧ k < 2147483648 ∧ ∀ r, 0 ≤ r → r < 2147483629 → R (IV r) n
/-- _law_draw(draws_so, limit): some number from 0 on, below limit -/
def sDraw : DSp := fun ds n R => ∃ lim, ds = [.draws, IV lim] ∧ 0 < lim ∧ lim.natAbs.log2 < 9000 ∧ n < LIM ∧ ∀ k, 0 ≤ k → k < lim → R (IV k) (n + 1)
abbrev kC : Key := Sum.inr ("cells" : Str)
abbrev kL : Key := Sum.inr ("lefts" : Str)
abbrev kA : Key := Sum.inr ("at" : Str)
def kvsOf (c l : Addr) (t : Int) : List (Key × V) := [(kC, .ref c), (kL, .ref l), (kA, .int t)]
theorem key_ne1 : ¬ (kC = kA) := by decide +kernel
theorem key_ne2 : ¬ (kL = kA) := by decide +kernel
theorem key_ne3 : ¬ (kC = kL) := by decide +kernel
theorem kvs_at (c l : Addr) (t : Int) : valV (kvsOf c l t) kA = some (.int t) := by
  unfold kvsOf
  rw [valV_neg key_ne1, valV_neg key_ne2, valV_pos rfl]
theorem kvs_lefts (c l : Addr) (t : Int) : valV (kvsOf c l t) kL = some (.ref l) := by
  unfold kvsOf
  rw [valV_neg key_ne3, valV_pos rfl]
theorem kvs_cells (c l : Addr) (t : Int) : valV (kvsOf c l t) kC = some (.ref c) := by
  unfold kvsOf
  rw [valV_pos rfl]
theorem kvs_put (c l : Addr) (t u : Int) : putK (kvsOf c l t) kA (.int u) = kvsOf c l u := by
  have a : ¬ Str.ofString "cells" = Str.ofString "at" := by decide +kernel
  have b : ¬ Str.ofString "lefts" = Str.ofString "at" := by decide +kernel
  unfold kvsOf putK
  simp [a, b]
theorem get_at {H : Hp} {d c l : Addr} {t : Int} (h : H d = some (.dK (kvsOf c l t))) : DGet H d (.str "at") (some (.int t)) := by
  have z := DGet.k (k := kA) h
  rw [kvs_at] at z
  exact z
theorem get_lefts {H : Hp} {d c l : Addr} {t : Int} (h : H d = some (.dK (kvsOf c l t))) : DGet H d (.str "lefts") (some (.ref l)) := by
  have z := DGet.k (k := kL) h
  rw [kvs_lefts] at z
  exact z
theorem get_cells {H : Hp} {d c l : Addr} {t : Int} (h : H d = some (.dK (kvsOf c l t))) : DGet H d (.str "cells") (some (.ref c)) := by
  have z := DGet.k (k := kC) h
  rw [kvs_cells] at z
  exact z
theorem put_at {H : Hp} {d c l : Addr} {t u : Int} (h : H d = some (.dK (kvsOf c l t))) : DPut H d (.str "at") (.int u) (upd H d (.dK (kvsOf c l u))) := by
  have z := DPut.k (k := kA) (v := .int u) h (show 3 < sizeLine by decide)
  rw [kvs_put] at z
  exact z
theorem log_small {j : Int} (h0 : 0 ≤ j) (h : j < 2 ^ 63) : j.natAbs.log2 < 64 := by
  by_cases z : j.natAbs = 0
  · rw [z]; decide
  · exact (Nat.log2_lt z).2 (by omega)
theorem mulW_small {i j : Int} (h1 : 0 ≤ i) (h2 : i < 2 ^ 63) (h3 : 0 ≤ j) (h4 : j < 2 ^ 63) : CMulW i j := by
  have a := log_small h1 h2
  have b := log_small h3 h4
  unfold CMulW
  omega
section
variable {K : PySem.W.Frag}
theorem dr_ne {H : Hp} {d l c : Addr} {n : Nat} (h : Draws H d l c n) : d ≠ l ∧ d ≠ c ∧ l ≠ c := by
  obtain ⟨cs, ls, t, h1, h2, h3, h4, _⟩ := h
  exact ⟨ne_of h1 h2 (by intro z; cases z), ne_of h1 h3 (by intro z; cases z), h4⟩
/-- a call of the mixing def -/
theorem mix_go {ω : DrA} {M : Addr → Prop} {H : Hp} {n : Nat} {c k : Int} {Q : VK} (d0 : ∀ a, dr ω a → M a) (dom : ∀ a, M a → H a ≠ none) (w : WR ω n H) (h0 : 0 ≤ k) (h1 : k < 2147483648)
    (q : ∀ r H', 0 ≤ r → r < 2147483629 → Ext (dr ω) H H' → WR ω n H' → Q (.int r) H') : cSp sMixed [.int c, .int k] H Q E0 :=
  ⟨ω, M, [IV c, IV k], n, fun d m => ∃ r, d = IV r ∧ 0 ≤ r ∧ r < 2147483629 ∧ m = n, d0, dom, w, .cons (Dm.int _) (.cons (Dm.int _) .nil), ⟨c, k, rfl, h0, h1, fun r a b => ⟨r, rfl, a, b, rfl⟩⟩, fun v H' d m e w' m' ⟨r, e1, a, b, e2⟩ => by
    subst e1
    subst e2
    cases m'
    exact q r H' a b e w'⟩
theorem pure_draw (vs : List V) (H : Hp) (Q : VK) (E : XK) (h : cSp sDraw vs H Q E) : tDraw K (cSp sMixed) { nx := fun _ H' => Q .non H', rt := Q } (L2.start ["draws_so", "limit", "at", "place", "left", "mixed"] vs) H := by
  obtain ⟨ω, M, ds, n, R, d0, dom, wr, rp, ⟨lim, rfl, l0, l9, nL, kR⟩, kQ⟩ := h
  cases rp with
  | cons r1 rp =>
  cases rp with
  | cons r2 rp =>
  cases rp
  cases r2
  obtain ⟨d, l, c, rfl, rfl⟩ := r1
  have wr0 : Draws H d l c n := wr
  obtain ⟨cs, ls, t, h1, h2, h3, h4, h5, h6, h7, h8⟩ := wr
  obtain ⟨ne1, ne2, ne3⟩ := dr_ne wr0
  have h1' : H d = some (.dK (kvsOf c l t)) := h1
  obtain ⟨H1, eH1⟩ : ∃ H1, H1 = upd H d (.dK (kvsOf c l (t + 1))) := ⟨_, rfl⟩
  have g1 : H1 d = some (.dK (kvsOf c l (t + 1))) := by rw [eH1, upd_same]
  have g2 : H1 l = some (.lst (ls.map V.int)) := by rw [eH1, upd_ne (Ne.symm ne1)]; exact h2
  have g3 : H1 c = some (.lst (cs.map V.int)) := by rw [eH1, upd_ne (Ne.symm ne2)]; exact h3
  have x1 : Ext (dr (some (d, l, c))) H H1 := fun a o e z => by rw [eH1, upd_ne fun y => z (.inl y)]; exact e
  have w1 : WR (some (d, l, c)) (n + 1) H1 := ⟨cs, ls, t + 1, g1, g2, g3, h4, h5, h6, by omega, by omega⟩
  have dom1 : ∀ a, M a → H1 a ≠ none := fun a ha => by
    by_cases z : a = d
    · subst z; rw [g1]; simp
    · rw [eH1, upd_ne z]; exact dom a ha
  -- at = draws_so['at']; draws_so['at'] = at + 1
  refine ⟨_, rfl, _, _, rfl, get_at h1', _, rfl, _, _, rfl, rfl, _, rfl, _, _, rfl, put_at h1', ?_⟩
  rw [← eH1]
  -- place = int(at) % len(draws_so['cells'])
  have lenP : (0 : Int) < ((cs.map V.int).length : Int) := by rw [List.length_map]; omega
  refine ⟨_, rfl, .inl ⟨_, rfl, _, rfl, _, _, rfl, get_cells g1, c, _, rfl, .inl (SqL.of g3), _, _, rfl, rfl, lenP, ?_⟩⟩
  obtain ⟨pl, epl⟩ : ∃ pl : Int, pl = t % ((cs.map V.int).length : Int) := ⟨_, rfl⟩
  have p0 : 0 ≤ pl := by rw [epl]; exact Int.emod_nonneg _ (by omega)
  have p1 : pl < (cs.length : Int) := by
    have z := Int.emod_lt_of_pos t lenP
    rw [← epl, List.length_map] at z
    exact z
  show gName 3 (V.int (t % ((cs.map V.int).length : Int))) _ _ _
  rw [← epl]
  obtain ⟨pn, rfl⟩ : ∃ pn : Nat, pl = (pn : Int) := ⟨pl.toNat, by omega⟩
  have pn1 : pn < ls.length := by omega
  have pn2 : pn < cs.length := by omega
  -- left = draws_so['lefts'][place]
  have iL : (ls.map V.int)[pn]? = some (.int ls[pn]) := by rw [List.getElem?_map, List.getElem?_eq_getElem pn1]; rfl
  have iC : (cs.map V.int)[pn]? = some (.int cs[pn]) := by rw [List.getElem?_map, List.getElem?_eq_getElem pn2]; rfl
  refine ⟨_, rfl, _, _, rfl, get_lefts g1, ?_⟩
  obtain ⟨left, eleft⟩ : ∃ left, left = ls[pn] := ⟨_, rfl⟩
  rw [← eleft] at iL
  refine ⟨_, rfl, ?_⟩
  refine ⟨l, _, _, _, rfl, rfl, SqL.of g2, atI_nat iL, ?_⟩
  -- if left > 0
  refine ⟨_, rfl, _, _, rfl, rfl, _, rfl, ite2 (fun cL => ?_) (fun cL => ?_)⟩
  · have c2 : 0 < left := of_decide_eq_true cL
    refine ⟨_, rfl, _, rfl, _, _, rfl, rfl, ⟨l0, l9⟩, _, rfl, _, _, rfl, get_lefts g1, _, rfl, ?_⟩
    have ixn : ixN (ls.map V.int).length (pn : Int) = some pn := by
      unfold ixN
      rw [List.length_map, if_pos (by omega), if_pos (by omega)]; simp
    refine ⟨l, _, _, pn, rfl, rfl, g2, ixn, ?_⟩
    refine ⟨_, rfl, .inl ⟨_, rfl, _, rfl, _, _, rfl, rfl, l0, ?_⟩⟩
    have em : (ls.map V.int).set pn (.int (left / lim)) = (ls.set pn (left / lim)).map V.int := by rw [List.map_set]
    refine kQ _ _ (IV (left % lim)) (n + 1) ?_ ?_ (Dm.int _) (kR _ (Int.emod_nonneg _ (by omega)) (Int.emod_lt_of_pos _ l0))
    · exact fun a o e z => by rw [upd_ne fun y => z (.inr (.inl y))]; exact x1 a o e z
    · refine ⟨cs, ls.set pn (left / lim), t + 1, ?_, ?_, ?_, h4, by rw [List.length_set]; exact h5, h6, by omega, by omega⟩
      · rw [upd_ne ne1]; exact g1
      · rw [upd_same, em]
      · rw [upd_ne (Ne.symm ne3)]; exact g3
  · -- mixed = ..
    refine ⟨_, rfl, _, _, rfl, get_cells g1, _, rfl, ?_⟩
    refine ⟨c, _, _, _, rfl, rfl, SqL.of g3, atI_nat iC, _, rfl, ?_⟩
    refine mix_go d0 dom1 w1 h7 (by have : LIM = 1073741824 := rfl; omega) fun m1 H2 m10 m11 x2 w2 => ?_
    refine ⟨_, rfl, _, _, rfl, rfl, ?_⟩
    have dom2 : ∀ a, M a → H2 a ≠ none := fun a ha => by
      by_cases z : dr (some (d, l, c)) a
      · exact w2.dom z
      · cases y : H1 a with
        | none => exact absurd y (dom1 a ha)
        | some o => rw [x2 a o y z]; simp
    refine mix_go d0 dom2 w2 (by omega) (by have : LIM = 1073741824 := rfl; omega) fun m2 H3 m20 m21 x3 w3 => ?_
    have dom3 : ∀ a, M a → H3 a ≠ none := fun a ha => by
      by_cases z : dr (some (d, l, c)) a
      · exact w3.dom z
      · cases y : H2 a with
        | none => exact absurd y (dom2 a ha)
        | some o => rw [x3 a o y z]; simp
    refine ⟨_, rfl, _, _, rfl, rfl, mulW_small m20 (by omega) (by decide) (by decide), _, rfl, _, rfl, _, _, rfl, rfl, ?_⟩
    refine mix_go d0 dom3 w3 (by omega) (by have : LIM = 1073741824 := rfl; omega) fun m3 H4 m30 m31 x4 w4 => ?_
    refine ⟨_, _, rfl, rfl, .inl ⟨_, rfl, _, _, rfl, rfl, ⟨by decide, by decide⟩, _, rfl, _, _, rfl, rfl, l0, ?_⟩⟩
    refine kQ _ _ (IV _) (n + 1) (((x1.trans x2).trans x3).trans x4) w4 (Dm.int _) (kR _ (Int.emod_nonneg _ (by omega)) (Int.emod_lt_of_pos _ l0))
end
end Sx

set_option Elab.async false
set_option linter.all false
set_option maxRecDepth 100000
set_option maxHeartbeats 2000000
namespace Sx
open PySem PySem.Spec L2
open PyProof.Rows hiding St
section
variable {K : PySem.W.Frag}
def aGe : R2 := rI0 fun i j => .bl (decide (j ≤ i))
def aPow : R2 := rI CPow fun i j => .int (i ^ j.toNat)
def rListOf (K : PySem.W.Frag) : List V → Hp → VK → Prop := fun xs H Q => ∃ p ys, xs = [.ref p] ∧ (SqL K H p ys ∨ SqT K H p ys) ∧ ∀ l, H l = none → Q (.ref l) (upd H l (.lst ys))
/-- cell if cell >= 10 ** 18 else 0 -/
def tKeep : TE := tIf (tTest (tOp aGe (tVar 2) (tOp aPow (tC (.int 10)) (tC (.int 18))))) (tVar 2) (tC (.int 0))
/-- slots: script, cells_so, cell -/
def tBegin (K : PySem.W.Frag) : TS :=
  tSeq (tAsg (tIf (tTest (tOp (rNeD K) (tVar 0) (tLst tNil))) (tCB (rListOf K) (one1 (tVar 0))) (tLst (one1 (tC (.int 0))))) (gName 1))
  (tRet (tDisp [(kS "cells", tVar 1), (kS "lefts", tLc (iList K (tVar 1)) (gName 2) tYes tKeep [2]), (kS "at", tC (.int 0))]))
def spBegin (K : PySem.W.Frag) : Sp := fun vs H Q _ => ∃ (a : Addr) (ns : List Int), vs = [.ref a] ∧ SqL K H a (ns.map V.int) ∧ ns.length ≤ 63 ∧
  ∀ d l c H', H d = none → H l = none → H c = none → Ext (fun _ => False) H H' → Draws H' d l c 0 → Q (.ref d) H'
theorem dp_ints (K : PySem.W.Frag) (H : Hp) : ∀ ns : List Int, DpAll K H (ns.map V.int) (ns.map PyData.int)
  | [] => .nil
  | n :: r => .cons (.int n) (dp_ints K H r)
theorem lay_ints : ∀ ns : List Int, PyData.canLayAll0 (ns.map PyData.int) = true
  | [] => by simp only [List.map_nil, PyData.canLayAll0]
  | n :: r => by simp only [List.map_cons, PyData.canLayAll0, PyData.canLay0, Bool.true_and]; exact lay_ints r
theorem dep_ints : ∀ ns : List Int, PyData.depthAll (ns.map PyData.int) = 0
  | [] => by simp only [List.map_nil, PyData.depthAll]
  | n :: r => by simp only [List.map_cons, PyData.depthAll, PyData.depth, dep_ints r]; rfl
theorem shaped_ints (ns : List Int) : SeqAt.shaped (.list (ns.map PyData.int)) = true := by
  unfold SeqAt.shaped
  simp only [PyData.canLay0, lay_ints ns, PyData.depth, dep_ints ns]
  decide
theorem eqv_nil (ns : List Int) : PyData.eqv (.list (ns.map PyData.int)) (.list []) = ns.isEmpty := by
  cases ns with
  | nil => simp only [List.map_nil, PyData.eqv, PyData.eqvAll, List.isEmpty]
  | cons n r => simp only [List.map_cons, PyData.eqv, PyData.eqvAll, List.isEmpty]
/-- behind cells_so: a new list of at least one int -/
theorem begin_rest {H0 H : Hp} {Q : VK} {c a : Addr} {cs : List Int} (hc0 : H0 c = none) (x0 : Ext (fun _ => False) H0 H) (hc : H c = some (.lst (cs.map V.int))) (hl : 0 < cs.length) (hl2 : cs.length ≤ 100)
    (k : ∀ d l c H', H0 d = none → H0 l = none → H0 c = none → Ext (fun _ => False) H0 H' → Draws H' d l c 0 → Q (.ref d) H') :
    tDisp [(kS "cells", tVar 1), (kS "lefts", tLc (iList K (tVar 1)) (gName 2) tYes tKeep [2]), (kS "at", tC (.int 0))] [some (.ref a), some (.ref c), none] H Q := by
  intro d hd
  have ncd : c ≠ d := ne_of_none hc hd
  have fresh : ∀ {p : Addr} {H' : Hp}, (∀ b o, H b = some o → H' b = some o) → H' p = none → H0 p = none := fun {p H'} e z => by
    cases y : H0 p with
    | none => rfl
    | some o => rw [e p o (x0 p o y id)] at z; cases z
  have hd0 : H0 d = none := fresh (fun _ _ h => h) hd
  obtain ⟨H1, e1⟩ : ∃ H1, H1 = upd H d (.dK []) := ⟨_, rfl⟩
  have k1 : ∀ b o, H b = some o → H1 b = some o := fun b o h => by rw [e1, upd_ne (ne_of_none h hd)]; exact h
  show tPairs _ _ (upd H d (.dK [])) _
  rw [← e1]
  refine ⟨_, rfl, _, rfl, c, rfl, ⟨_, SqL.of (k1 _ _ hc)⟩, fun l hl0 => ?_⟩
  have hd1 : H1 d = some (.dK []) := by rw [e1, upd_same]
  have nld : l ≠ d := fun z => by subst z; rw [hd1] at hl0; cases hl0
  have nlc : c ≠ l := ne_of_none (k1 _ _ hc) hl0
  refine lc_list (K := K) (a := c) (xs := cs.map V.int) (fun i H' => ∃ ls : List Int, ls.length = i ∧ (∀ b o, H1 b = some o → H' b = some o) ∧ H' l = some (.lst (ls.map V.int))) ⟨[], rfl, fun b o h => by rw [upd_ne (ne_of_none h hl0)]; exact h, upd_same⟩ ?_ ?_ ?_
  · rintro i H' _ ⟨ls, _, kp, _⟩
    exact SqL.of (kp _ _ (k1 _ _ hc))
  · rintro i x H' hx ⟨ls, e, kp, hl'⟩
    obtain ⟨z, hz, rfl⟩ : ∃ z, cs[i]? = some z ∧ x = V.int z := by
      rw [List.getElem?_map] at hx
      cases y : cs[i]? with
      | none => rw [y] at hx; cases hx
      | some z => rw [y] at hx; exact ⟨z, rfl, (Option.some.inj hx).symm⟩
    have hi : i < cs.length := (List.getElem?_eq_some_iff.mp hz).1
    refine ⟨rfl, ?_⟩
    unfold tYes
    refine iteT ?_
    have fin : ∀ w : Int, ∃ acc, H' l = some (.lst acc) ∧ acc.length < sizeLine ∧ ∃ ls2 : List Int, ls2.length = i + 1 ∧ (∀ b o, H1 b = some o → upd H' l (.lst (acc ++ [V.int w])) b = some o) ∧ upd H' l (.lst (acc ++ [V.int w])) l = some (.lst (ls2.map V.int)) := fun w =>
      ⟨_, hl', by rw [List.length_map, e]; exact Nat.lt_of_lt_of_le (Nat.lt_of_lt_of_le hi hl2) (by decide), ls ++ [w], by simp [e], fun b o h => by rw [upd_ne (ne_of_none h hl0)]; exact kp b o h, by rw [upd_same]; simp⟩
    refine ⟨_, rfl, _, _, rfl, rfl, ⟨by decide, by decide, by decide⟩, _, _, rfl, rfl, _, rfl, ite2 (fun _ => ?_) (fun _ => ?_)⟩
    · exact ⟨_, rfl, fin z⟩
    · exact fin 0
  · rintro H2 ⟨ls, e, kp, hl'⟩
    rw [List.length_map] at e
    refine ⟨kp _ _ hd1, [(kC, .ref c), (kL, .ref l), (kA, .int 0)], rfl, by show 3 ≤ 15; decide, ?_⟩
    have em : mergeK [] [(kC, V.ref c), (kL, .ref l), (kA, .int 0)] = kvsOf c l 0 := by
      have a : ¬ Str.ofString "cells" = Str.ofString "at" := by decide +kernel
      have b : ¬ Str.ofString "lefts" = Str.ofString "at" := by decide +kernel
      have c' : ¬ Str.ofString "cells" = Str.ofString "lefts" := by decide +kernel
      simp [mergeK, putK, kvsOf, a, b, c']
    rw [em]
    have kpd : ∀ b o, H b = some o → upd H2 d (.dK (kvsOf c l 0)) b = some o := fun b o h => by rw [upd_ne (ne_of_none h hd)]; exact kp b o (k1 b o h)
    refine k d l c _ hd0 (fresh k1 hl0) hc0 (fun b o h _ => kpd b o (x0 b o h id)) ⟨cs, ls, 0, upd_same, ?_, kpd c _ hc, Ne.symm nlc, e, hl, Int.le_refl _, Int.le_refl _⟩
    rw [upd_ne nld]
    exact hl'
theorem pure_begin (vs : List V) (H : Hp) (Q : VK) (E : XK) (h : spBegin K vs H Q E) : tBegin K { nx := fun _ H' => Q .non H', rt := Q } (L2.start ["script", "cells_so", "cell"] vs) H := by
  obtain ⟨a, ns, rfl, hS, hn, k⟩ := h
  have z1000 : ([] : List V).length ≤ sizeLine := by show 0 ≤ sizeLine; decide
  refine ⟨_, rfl, z1000, fun p hp => ?_⟩
  have xp : Ext (fun _ => False) H (upd H p (.lst [])) := Ext.new hp
  have hS2 : SqL K (upd H p (.lst [])) a (ns.map V.int) := by
    rcases hS with (h | ⟨o, h⟩) | h
    · exact .inl (.inl (xp _ _ h id))
    · exact .inl (.inr ⟨o, xp _ _ h id⟩)
    · exact .inr h
  refine ⟨.list (ns.map PyData.int), .list [], .lst hS2 (dp_ints K _ ns), .lst (SqL.of upd_same) .nil, shaped_ints ns, by decide, ?_⟩
  rw [eqv_nil]
  refine ⟨_, rfl, ?_⟩
  cases ns with
  | nil =>
    refine iteF ?_
    refine ⟨by show 1 ≤ sizeLine; decide, fun c hc => ?_⟩
    have hc0 : H c = none := by
      cases y : H c with
      | none => rfl
      | some o => rw [xp c o y id] at hc; cases hc
    exact begin_rest (K := K) (cs := [0]) hc0 (xp.trans (Ext.new hc)) upd_same (by decide) (by decide) k
  | cons n r =>
    refine iteT ?_
    refine ⟨_, rfl, a, _, rfl, .inl hS2, fun c hc => ?_⟩
    have hc0 : H c = none := by
      cases y : H c with
      | none => rfl
      | some o => rw [xp c o y id] at hc; cases hc
    exact begin_rest (K := K) (cs := n :: r) hc0 (xp.trans (Ext.new hc)) upd_same (by simp) (by have : (n :: r).length ≤ 63 := hn; omega) k

def spLaw (K : PySem.W.Frag) : Sp := fun vs H Q _ => ∃ (a : Addr) (ns : List Int), vs = [.ref a] ∧ SqL K H a (ns.map V.int) ∧ ns.length ≤ 63 ∧ ∀ H', Q (.bl true) H'
def tLawOf (K : PySem.W.Frag) (t : DTS) : TS := tSeq (tAsg (fun σ H Q => one1 (tVar 0) σ H fun vs H1 => spBegin K vs H1 Q E0) (gName 1)) (cS t)
theorem pure_law {t : DTS} {N : List Str} {m : Nat} (hN : N.length = m + 2) (h : t { nx := fun _ _ => False, rt := fun d _ => d = BV true } (none :: some .draws :: List.replicate m none) 0) (vs : List V) (H : Hp) (Q : VK) (E : XK) (hs : spLaw K vs H Q E) :
    tLawOf K t { nx := fun _ H' => Q .non H', rt := Q } (L2.start N vs) H := by
  obtain ⟨a, ns, rfl, hS, hn, k⟩ := hs
  have e0 : L2.start N [V.ref a] = some (.ref a) :: none :: List.replicate m none := by
    unfold L2.start
    rw [hN]
    show some (V.ref a) :: List.replicate (m + 2 - 1) none = _
    rw [show m + 2 - 1 = m + 1 from by omega, List.replicate_succ]
  rw [e0]
  refine ⟨_, rfl, a, ns, rfl, hS, hn, fun d l c H' hd hl hc x D => ?_⟩
  show cS t _ (some (V.ref a) :: some (.ref d) :: List.replicate m none) H'
  have neq := dr_ne D
  refine goS (c := ⟨some (d, l, c), H', fun a => a = d ∨ a = l ∨ a = c, [], []⟩) (M := fun a => a = d ∨ a = l ∨ a = c) ⟨fun _ z => z, fun _ z => z, fun b z => WR.dom (ω := some (d, l, c)) (n := 0) D z, D, Ext.rfl' H', by simp, fun p hp => (nomatch hp), fun p hp => (nomatch hp), ?_, ?_⟩ h ⟨fun _ _ _ _ _ _ z => z.elim, fun _ _ _ _ _ _ z => z.elim, fun _ _ _ _ _ _ z => z.elim, fun v H2 y n2 _ _ r z => ?_⟩
  · intro i x e
    match i, e with
    | 0, e => cases e
    | 1, e => cases e; exact ⟨_, rfl, d, l, c, rfl, rfl⟩
    | i + 2, e =>
      have e' : (List.replicate m (none : Option DV))[i]? = some (some x) := e
      rw [List.getElem?_replicate] at e'
      split at e' <;> cases e'
  · intro i j xs ys v e _ _ _
    match i, e with
    | 0, e => cases e
    | 1, e => cases e
    | i + 2, e =>
      have e' : (List.replicate m (none : Option DV))[i]? = some (some (.own xs)) := e
      rw [List.getElem?_replicate] at e'
      split at e' <;> cases e'
  · subst z
    cases r
    exact k H2
end
end Sx

set_option Elab.async false
set_option linter.all false
set_option maxRecDepth 100000
set_option maxHeartbeats 2000000
namespace Sx
open PySem PySem.Spec L2
open PyProof.Rows hiding St
section
variable {P : Program} {w : World} {K : PySem.W.Frag} {mg mb : Str → Option Value} {k : Nat} {fa a : Addr} {fd : FuncData} {x : Str} {s : Shared} {vs : List Value} {ns : List Int}
/-- from an abstract heap that tracks the script at most -/
theorem law_from {H : Hp} (kx : K.In s.heap) (gl : s.heap.Ns mainGlobals mg) (bl : s.heap.Ns builtinsNs mb) (bb : ∀ y : Str, y ≠ "__name__" → mb y = bootBuiltins y) (lim : s.heap.NoLimit) (gens : s.gens = #[])
    (ha : s.heap.get? a = some { cls := .type "list", data := .seq vs.toArray }) (rm : RoomG k callerA) (F : ∀ base : Heap, K.In base → base.Ns mainGlobals mg → FnG P w K mg base CX0 k fa fd [x] (spLaw K))
    (bt : ∀ (s : Shared) (u : Value), BindsTo s fd ⟨[u], []⟩ [(x, u)]) (hS : SqL K H a (ns.map V.int)) (hn : ns.length ≤ 63) (hok : HOk P w H s.heap) (only : ∀ b, H b ≠ none → b = a) (out : H a ≠ none → K.lookup a = none)
    (froz : ∀ b u, H b = some u → ∃ o z, H b = some (.frz o z)) :
    codeAny (model P w) callerA (.call (.ref fa) ⟨[.ref a], []⟩) (fun r s' => r = .ok (.ret (.bool true)) ∧ OldK s.heap s'.heap ∧ s'.os = s.os ∧ AllBare s'.gens) s := by
  have vis : ∀ {b : Addr} {o : Obj}, s.heap.get? b = some o → H b = none → (hidT s.heap H).get? b = some o := fun e n => hidT_get e n
  have dict_off : ∀ {b : Addr} {o : Obj} {es : Array DictEntry} {n : Nat}, s.heap.get? b = some o → o.data = .dict es n → H b = none := by
    intro b o es n e d
    cases q : H b with
    | none => rfl
    | some u =>
      have eb := only b (by rw [q]; exact fun z => nomatch z)
      rw [eb, ha] at e
      cases e
      exact absurd d (fun z => nomatch z)
  have nsH : ∀ {b : Addr} {m : Str → Option Value}, s.heap.Ns b m → (hidT s.heap H).Ns b m := by
    rintro b m ⟨o, es, n, e, d, r⟩
    exact ⟨o, es, n, vis e (dict_off e d), d, r⟩
  have kH : K.In (hidT s.heap H) := by
    intro b o e
    refine vis (kx b o e) ?_
    cases q : H b with
    | none => rfl
    | some u =>
      have eb := only b (by rw [q]; exact fun z => nomatch z)
      rw [eb, out (by rw [← eb, q]; exact fun z => nomatch z)] at e
      cases e
  obtain ⟨ml, l1, l2⟩ := lim
  have md : Mod K mg (hidT s.heap H) := ⟨kH, nsH gl, ⟨mb, nsH bl, bb⟩, ⟨ml, nsH l1, l2⟩⟩
  have e0 : Env0 P w K mg (hidT s.heap H) callerA [] s H := ⟨rfl, md, fun b o e => of_hidT e, Nat.le_of_eq (hidT_size _ _), trivial, fun b hb => (nomatch hb), hok, .of_eq gens⟩
  refine codeAny_mono ((F _ kH (nsH gl)).go callerA [] s H ⟨[.ref a], []⟩ [.ref a] [.ref a] (fun v _ => v = .bl true) E0 rm e0 (bt s (.ref a)) (.cons rfl .nil) ⟨a, ns, rfl, hS, hn, fun _ => rfl⟩) ?_
  intro r s' h
  match r, h with
  | .ok (.ret u), ⟨v, H', os, bare, un, hok', rv, q⟩ =>
    have q' : v = .bl true := q
    subst q'
    cases rv
    refine ⟨rfl, OldK.of_keep (fun b o e => ?_), os, bare⟩
    cases y : H b with
    | none => exact un.keep b o e y (fun z => nomatch z) (by simp)
    | some u =>
      obtain ⟨ob, z, fz⟩ := froz b u y
      have f1 := (hok b _ fz).1
      have f2 := (hok' b _ (un.frzs b ob z fz)).1
      rw [e] at f1
      rw [f2, ← f1]
theorem law_callG (kx : K.In s.heap) (gl : s.heap.Ns mainGlobals mg) (bl : s.heap.Ns builtinsNs mb) (bb : ∀ y : Str, y ≠ "__name__" → mb y = bootBuiltins y) (lim : s.heap.NoLimit) (gens : s.gens = #[])
    (ha : s.heap.get? a = some { cls := .type "list", data := .seq vs.toArray }) (hints : IntsAre vs ns) (hn : ns.length ≤ 63) (rm : RoomG k callerA) (F : ∀ base : Heap, K.In base → base.Ns mainGlobals mg → FnG P w K mg base CX0 k fa fd [x] (spLaw K))
    (bt : ∀ (s : Shared) (u : Value), BindsTo s fd ⟨[u], []⟩ [(x, u)]) :
    codeAny (model P w) callerA (.call (.ref fa) ⟨[.ref a], []⟩) (fun r s' => r = .ok (.ret (.bool true)) ∧ OldK s.heap s'.heap ∧ s'.os = s.os ∧ AllBare s'.gens) s := by
  have rv := vals_ints hints
  have sz : (ns.map V.int).length ≤ sizeLine := by rw [List.length_map]; exact Nat.le_trans hn (by decide)
  cases hk : K.lookup a with
  | some o =>
    have e := kx a o hk
    rw [ha] at e
    cases e
    have hsz : vs.toArray.size ≤ sizeLine := by rw [List.size_toArray, ← rv.length]; exact sz
    exact law_from (H := fun _ => none) kx gl bl bb lim gens ha rm F bt (Or.inr ⟨_, vs.toArray, _, hk, rfl, rfl, rfl, hsz, by simpa using rv⟩) hn (fun b u z => nomatch z) (fun b z => absurd rfl z) (fun z => absurd rfl z) (fun b u z => nomatch z)
  | none =>
    obtain ⟨ob, eob⟩ : ∃ ob : Obj, ob = { cls := .type "list", data := .seq vs.toArray } := ⟨_, rfl⟩
    obtain ⟨H, eH⟩ : ∃ H : Hp, H = fun b => if b = a then some (.frz ob (.lst (ns.map V.int))) else none := ⟨_, rfl⟩
    have at_a : H a = some (.frz ob (.lst (ns.map V.int))) := by rw [eH]; exact if_pos rfl
    have off : ∀ b, b ≠ a → H b = none := fun b nb => by rw [eH]; exact if_neg nb
    have onl : ∀ b, H b ≠ none → b = a := fun b z => Decidable.byContradiction fun nb => z (off b nb)
    refine law_from (H := H) kx gl bl bb lim gens ha rm F bt (Or.inl (Or.inr ⟨ob, at_a⟩)) hn ?_ onl (fun _ => hk) ?_
    · intro b u z
      have eb := onl b (by rw [z]; exact fun y => nomatch y)
      subst eb
      rw [at_a] at z
      cases z
      rw [← eob] at ha
      exact ⟨ha, sz, vs, 0, rv, by rw [ha, eob]⟩
    · intro b u z
      have eb := onl b (by rw [z]; exact fun y => nomatch y)
      subst eb
      exact ⟨_, _, at_a⟩
end
/-- the goal that k_head leaves, from the law's promise; what the head says of loose names is handed on -/
theorem walkG {l : PySem.W.OpenLaw} {k : Nat} {q : Program} {loose : List Str} {XP : (Str → Option Value) → Heap → Prop} {YP : World → Heap → Prop} {d : DefRec} {K : Params → PySem.W.Frag} {x : Str}
    (hn : l.most = some 63) (hdf : d.params.defaults = []) (rm : RoomG k callerA) (hY : ∀ (w : World) (h : Heap), YP w h → (K w.params).In h)
    (F : ∀ (w : World) (mg : Str → Option Value) (fa : Addr) (h : Heap), (K w.params).In h → h.Ns mainGlobals mg → XP mg h → mg d.name = some (.ref fa) →
      ∃ fd : FuncData, (∀ (s : Shared) (u : Value), BindsTo s fd ⟨[u], []⟩ [(x, u)]) ∧ ∀ base : Heap, (K w.params).In base → base.Ns mainGlobals mg → FnG l.prog w (K w.params) mg base CX0 k fa fd [x] (spLaw (K w.params))) :
    PySem.W.WalkO q loose XP YP l.row.toRowW d [] (fun f vs => PySem.call f vs) :=
  Att.attach_call hn hdf fun w s₀ s₁ mg mb fa o pm cd doc a vs ns G Y ho hd hcd hmg hobj hints hlen hg => by
    have kx := hY w _ Y
    obtain ⟨fd, bt, hF⟩ := F w mg fa _ kx G.T.g G.X hmg
    exact law_callG kx G.T.g G.T.b G.T.builtins G.T.nolimit hg hobj hints hlen rm hF bt
theorem loose_int {lv : List (Str × PySem.W.WData)} {mg : Str → Option Value} {h : Heap} (L : PySem.W.LooseAre lv mg h) {x : Str} {i : Int} (m : (x, PySem.W.WData.int i) ∈ lv) : ∃ t, mg x = some (.int i t) := by
  obtain ⟨v, e, r⟩ := L.val _ m
  cases r
  exact ⟨_, e⟩
theorem room_caller (k : Nat) (h : k ≤ 40) : RoomG k callerA := ⟨(show Room 40 callerA from ⟨rfl, by decide, by decide⟩).mono h, rfl⟩
end Sx

set_option Elab.async false
set_option linter.all false
set_option maxRecDepth 100000
set_option maxHeartbeats 2000000
namespace Sx
open PySem PySem.Spec L2
open PyProof.Rows hiding St
section
variable {X : Cx} {e a b : Expr} {es : List Expr} {pos : Pos} {ta tb : DT} {tl : DTA}

abbrev DOC := List DV → (DV → Prop) → Prop
def OkC (r : List V → Hp → VK → Prop) (o : DOC) : Prop := ∀ (c : Cw) (M : Addr → Prop) (H : Hp) (vs : List V) (ds : List DV) (n : Nat) (R : DV → Prop) (Q : VK), (∀ a, M a → H a ≠ none) → (∀ a, dr c.ω a → M a) → WR c.ω n H → VReps c.ω M H vs ds → o ds R →
  (∀ v H' z, Ext (dr c.ω) H H' → WR c.ω n H' → VRep c.ω M H' v z → R z → Q v H') → r vs H Q
def dCB (o : DOC) (tl : DTA) : DT := fun env n R => tl env n fun ds n1 => o ds fun z => R z n1
theorem fe_cb {r : List V → Hp → VK → Prop} {o : DOC} (h : PE X e (tCB r (cA tl))) (k : OkC r o) : FE X e (dCB o tl) := FE.of h fun c M σ H env n R S q =>
  goA S q fun vs H1 ds n1 e1 w1 m1 q1 => k c M H1 vs ds n1 (fun z => R z n1) (OutE c M H R) (S.step e1 w1).dom S.dM w1 m1 q1 fun v H' z e2 w2 m2 q2 => ⟨z, n1, e1.trans e2, w2, m2, q2⟩
def oLen : DOC := fun xs R => match xs with
  | [.dat (.tuple ds)] => R (IV ds.length)
  | [.dat (.list ds)] => R (IV ds.length)
  | _ => False
def oAbs : DOC := fun xs R => match xs with
  | [.dat (.int i)] => R (IV (if i < 0 then -i else i))
  | _ => False
def oInt : DOC := fun xs R => match xs with
  | [.dat (.int i)] => R (IV i)
  | _ => False
def oGcd : DOC := fun xs R => match xs with
  | [.dat (.int i), .dat (.int j)] => R (IV ((Nat.gcd i.natAbs j.natAbs : Nat) : Int))
  | _ => False
def oList : DOC := fun xs R => match xs with
  | [.dat (.tuple ds)] => R (LV ds)
  | [.dat (.list ds)] => R (LV ds)
  | _ => False
theorem ok_len (K : PySem.W.Frag) : OkC (rLen K) oLen := fun c M H vs ds n R Q hd hr w m h k => by
  unfold oLen at h
  split at h
  · cases m with
    | cons m1 m2 =>
      cases m2
      cases m1 with
      | tup hm ha hds => exact ⟨_, _, rfl, .inr (SqT.of ha), by rw [hds.length]; exact k _ H (IV _) (Ext.rfl' H) w (Dm.int _) h⟩
  · cases m with
    | cons m1 m2 =>
      cases m2
      cases m1 with
      | lst hm ha hds => exact ⟨_, _, rfl, .inl (SqL.of ha), by rw [hds.length]; exact k _ H (IV _) (Ext.rfl' H) w (Dm.int _) h⟩
  · exact h.elim
theorem ok_abs : OkC (fun xs H Q => ∃ i, xs = [V.int i] ∧ Q (.int (if i < 0 then -i else i)) H) oAbs := fun c M H vs ds n R Q hd hr w m h k => by
  unfold oAbs at h
  split at h
  · cases m with
    | cons m1 m2 =>
      cases m2
      cases m1
      exact ⟨_, rfl, k _ H (IV _) (Ext.rfl' H) w (Dm.int _) h⟩
  · exact h.elim
theorem ok_int : OkC (fun xs H Q => (∃ i, xs = [V.int i] ∧ Q (.int i) H) ∨ ∃ k, xs = [V.bl k] ∧ Q (.int (if k then 1 else 0)) H) oInt := fun c M H vs ds n R Q hd hr w m h k => by
  unfold oInt at h
  split at h
  · cases m with
    | cons m1 m2 =>
      cases m2
      cases m1
      exact .inl ⟨_, rfl, k _ H (IV _) (Ext.rfl' H) w (Dm.int _) h⟩
  · exact h.elim
theorem ok_gcd : OkC rGcd oGcd := fun c M H vs ds n R Q hd hr w m h k => by
  unfold oGcd at h
  split at h
  · cases m with
    | cons m1 m2 =>
      cases m2 with
      | cons m3 m4 =>
        cases m4
        cases m1
        cases m3
        exact ⟨_, _, rfl, k _ H (IV _) (Ext.rfl' H) w (Dm.int _) h⟩
  · exact h.elim
mutual
/-- ints of fewer than 1900 bits, no dict, texts of plain signs -/
def tame : PyData → Prop
  | .none | .bool _ => True
  | .int i => i.natAbs < 2 ^ 1900
  | .str x => x.cps.toList.all (fun c => decide (c < 16 ^ 8)) = true
  | .list xs | .tuple xs => tameA xs
  | .dict _ => False
def tameA : List PyData → Prop
  | [] => True
  | x :: xs => tame x ∧ tameA xs
end
mutual
theorem tame_show : ∀ d : PyData, tame d → d.showable = true
  | .none, _ => by simp only [PyData.showable]
  | .bool _, _ => by simp only [PyData.showable]
  | .str _, _ => by simp only [PyData.showable]
  | .int i, h => by
    simp only [PyData.showable, decide_eq_true_eq]
    refine PySem.Spec.log2_small (Nat.lt_of_lt_of_le (show i.natAbs < 2 ^ 1900 from h) (Nat.pow_le_pow_right (by decide) (by decide)))
  | .list xs, h => by
    simp only [PyData.showable]
    exact tame_showA xs h
  | .tuple xs, h => by
    simp only [PyData.showable]
    exact tame_showA xs h
  | .dict _, h => h.elim
theorem tame_showA : ∀ ds : List PyData, tameA ds → PyData.showableAll ds = true
  | [], _ => by simp only [PyData.showableAll]
  | x :: xs, h => by
    simp only [PyData.showableAll, Bool.and_eq_true]
    exact ⟨tame_show x h.1, tame_showA xs h.2⟩
end
mutual
theorem tame_nod : ∀ d : PyData, tame d → d.hasDict = false
  | .none, _ => by simp only [PyData.hasDict]
  | .bool _, _ => by simp only [PyData.hasDict]
  | .str _, _ => by simp only [PyData.hasDict]
  | .int i, h => by simp only [PyData.hasDict]
  | .list xs, h => by
    simp only [PyData.hasDict]
    exact tame_nodA xs h
  | .tuple xs, h => by
    simp only [PyData.hasDict]
    exact tame_nodA xs h
  | .dict _, h => h.elim
theorem tame_nodA : ∀ ds : List PyData, tameA ds → PyData.hasDictAll ds = false
  | [], _ => by simp only [PyData.hasDictAll]
  | x :: xs, h => by
    simp only [PyData.hasDictAll, Bool.or_eq_false_iff]
    exact ⟨tame_nod x h.1, tame_nodA xs h.2⟩
end
theorem shown_big {i : Int} (h : i.natAbs < 2 ^ 1900) : (PyData.shown (.int i)).length ≤ 2000 := by
  simp only [PyData.shown]
  have z : (PySem.Str.ofString (toString i)).length ≤ 1921 := PyProof.Rows.int_text_len_1921 (PySem.Spec.log2_small (Nat.lt_of_lt_of_le h (Nat.pow_le_pow_right (by decide) (by decide))))
  exact Nat.le_trans z (by decide)
mutual
theorem tame_leaf : ∀ d : PyData, tame d → d.leavesShort 2000 = true
  | .none, _ => by simp only [PyData.leavesShort]
  | .bool _, _ => by simp only [PyData.leavesShort]
  | .str x, h => by
    simp only [PyData.leavesShort]
    exact h
  | .int i, h => by
    simp only [PyData.leavesShort, decide_eq_true_eq]
    exact shown_big h
  | .list xs, h => by
    simp only [PyData.leavesShort]
    exact tame_leafA xs h
  | .tuple xs, h => by
    simp only [PyData.leavesShort]
    exact tame_leafA xs h
  | .dict _, h => h.elim
theorem tame_leafA : ∀ ds : List PyData, tameA ds → PyData.leavesShortAll 2000 ds = true
  | [], _ => by simp only [PyData.leavesShortAll]
  | x :: xs, h => by
    simp only [PyData.leavesShortAll, Bool.and_eq_true]
    exact ⟨tame_leaf x h.1, tame_leafA xs h.2⟩
end
theorem tame_len {d : PyData} (h : tame d) (hb : d.bulk ≤ 5000) : d.shown.length ≤ sizeLine := by
  have z := PyData.shown_le_bulk 2000 (by decide) d (tame_leaf d h)
  have e : sizeLine = 16777216 := sizeLine_eq
  rw [e]
  have z2 : (2000 + 2) * d.bulk ≤ 2002 * 5000 := Nat.mul_le_mul (Nat.le_refl _) hb
  omega
/-- what repr is asked of -/
structure Tidy (d : PyData) : Prop where
  tm : tame d
  bk : d.bulk ≤ 5000
  dp : d.depth ≤ 60
def rRep1 : List V → Hp → VK → Prop := fun vs H Q => ∃ (a : Addr) (d : PyData) (M : Addr → Prop), vs = [.ref a] ∧ Dm M H (.ref a) d ∧ Tidy d ∧ Q (.str d.shown) H
def rRep : List V → Hp → VK → Prop := fun vs H Q => rRep1 vs H Q ∨ (∃ i, vs = [.int i] ∧ Tidy (.int i) ∧ Q (.str (PyData.shown (.int i))) H) ∨ (∃ b, vs = [.bl b] ∧ Q (.str (PyData.shown (.bool b))) H)
theorem cr_repr {k : Nat} (hr : RoomG k X.A) : CallR X (.builtin "repr") rRep := by
  intro pins s σ H vs us Q I r h
  rcases h with h | h | h
  · obtain ⟨a, d, M, rfl, hd, hT, q⟩ := h
    cases r with
    | cons r1 r2 =>
      cases r2
      cases r1
      obtain ⟨as, rd⟩ := Dp.reads I d (.ref a) (.ref a) (Dm.dp X.K hd) rfl
      have un := hr.rm.un
      refine repr_of_reads' rd (tame_show d hT.tm) (fun z => absurd z (by rw [tame_nod d hT.tm]; exact Bool.false_ne_true)) hr.gd ?_ (fun _ _ z => z) (fun h' u tk kp => ?_) (tame_len hT.tm hT.bk)
      · have := hT.dp
        omega
      · exact ⟨.str d.shown, H, I.kept kp, ⟨u, rfl⟩, q⟩
  · obtain ⟨i, rfl, hT, q⟩ := h
    obtain ⟨u, rfl, t, rfl⟩ := vals1 r
    have e : PyData.shown (.int i) = Str.ofString (toString i) := by simp only [PyData.shown]
    rw [e] at q
    have hz : i.natAbs.log2 < 1920 := PySem.Spec.log2_small (Nat.lt_of_lt_of_le hT.tm (Nat.pow_le_pow_right (by decide) (by decide)))
    exact PySem.P.repr_of_int hz ⟨.str _, H, I.tok _, ⟨_, rfl⟩, q⟩
  · obtain ⟨b, rfl, q⟩ := h
    obtain ⟨u, rfl, t, rfl⟩ := vals1 r
    cases b
    · have e : PyData.shown (.bool false) = Str.ofString "False" := by simp only [PyData.shown] <;> rfl
      rw [e] at q
      exact PySem.P.repr_of_bool ⟨.str _, H, I.tok _, ⟨_, rfl⟩, q⟩
    · have e : PyData.shown (.bool true) = Str.ofString "True" := by simp only [PyData.shown] <;> rfl
      rw [e] at q
      exact PySem.P.repr_of_bool ⟨.str _, H, I.tok _, ⟨_, rfl⟩, q⟩
def oRepr : DOC := fun xs R => match xs with
  | [.dat (.list ds)] => Tidy (.list ds) ∧ R (.dat (.str (PyData.shown (.list ds))))
  | [.dat (.tuple ds)] => Tidy (.tuple ds) ∧ R (.dat (.str (PyData.shown (.tuple ds))))
  | [.dat (.int i)] => Tidy (.int i) ∧ R (.dat (.str (PyData.shown (.int i))))
  | [.dat (.bool b)] => Tidy (.bool b) ∧ R (.dat (.str (PyData.shown (.bool b))))
  | _ => False
theorem ok_repr : OkC rRep oRepr := fun c M H vs ds n R Q hd hr w m h k => by
  unfold oRepr at h
  split at h
  · cases m with
    | cons m1 m2 =>
      cases m2
      have m1' : Dm M H _ _ := m1
      cases m1 with
      | lst hm ha hds => exact .inl ⟨_, _, M, rfl, m1', h.1, k _ H (.dat (.str _)) (Ext.rfl' H) w (Dm.str _) h.2⟩
  · cases m with
    | cons m1 m2 =>
      cases m2
      have m1' : Dm M H _ _ := m1
      cases m1 with
      | tup hm ha hds => exact .inl ⟨_, _, M, rfl, m1', h.1, k _ H (.dat (.str _)) (Ext.rfl' H) w (Dm.str _) h.2⟩
  · cases m with
    | cons m1 m2 =>
      cases m2
      cases m1
      exact .inr (.inl ⟨_, rfl, h.1, k _ H (.dat (.str _)) (Ext.rfl' H) w (Dm.str _) h.2⟩)
  · cases m with
    | cons m1 m2 =>
      cases m2
      cases m1
      exact .inr (.inr ⟨_, rfl, k _ H (.dat (.str _)) (Ext.rfl' H) w (Dm.str _) h.2⟩)
  · exact h.elim
/-- == of two texts -/
def oEqS : DO2 := fun x y R => match x, y with
  | .dat (.str s), .dat (.str t) => R (BV (decide (s = t)))
  | _, _ => False
theorem ok_eqS : OkO rEq oEqS := fun c M H x y d f n R Q hd hr w hx hy h k => by
  unfold oEqS at h
  split at h
  · cases hx
    cases hy
    refine ⟨rfl, k _ H (BV _) (Ext.rfl' H) w (Dm.bl _) ?_⟩
    rename_i s t
    have z : decide (V.str s = V.str t) = decide (s = t) := by
      by_cases q : s = t
      · rw [decide_eq_true q, q]; simp
      · rw [decide_eq_false q, decide_eq_false (fun z => q (V.str.inj z))]
    rw [z]
    exact h
  · exact h.elim

def tyD : PyData → String
  | .none => "NoneType"
  | .bool _ => "bool"
  | .int _ => "int"
  | .str _ => "str"
  | .list _ => "list"
  | .tuple _ => "tuple"
  | .dict _ => "dict"
def cutD (xs : List PyData) (lo hi : Option Int) : List PyData := (xs.drop (HT.sIx xs.length 0 lo)).take (HT.sIx xs.length xs.length hi - HT.sIx xs.length 0 lo)
abbrev DTO := En → Nat → (Option Int → Nat → Prop) → Prop
def cO (t : DTO) : TO := fun σ H Q => ∃ c M env n R, Sta c M σ H env n ∧ t env n R ∧ ∀ b H' n', Ext (dr c.ω) H H' → WR c.ω n' H' → R b n' → Q b H'
abbrev FO (X : Cx) (e : Option Expr) (t : DTO) : Prop := PO X e (cO t)
def dNoPart : DTO := fun _ n R => R none n
def dPart (t : DT) : DTO := fun env n R => t env n fun z n' => match z with
  | .dat (.int i) => R (some i) n'
  | _ => False
theorem FO.of {e : Option Expr} {te : TO} {t : DTO} (h : PO X e te) (q : ∀ c M σ H env n R, Sta c M σ H env n → t env n R → te σ H (fun b H' => ∃ n', Ext (dr c.ω) H H' ∧ WR c.ω n' H' ∧ R b n')) : FO X e t :=
  ⟨fun pins s σ H Q I ⟨c, M, env, n, R, S, ht, k⟩ => thn (h.run pins s σ H _ I (q c M σ H env n R S ht)) fun b _ ⟨o, H', I', ip, n', e, w, z⟩ => ⟨o, H', I', ip, k o H' n' e w z⟩⟩
theorem fo_none : FO X none dNoPart := FO.of po_none fun c M σ H env n R S h => ⟨n, Ext.rfl' H, S.wr, h⟩
theorem fo_some (h : FE X e ta) : FO X (some e) (dPart ta) := FO.of (po_some h) fun c M σ H env n R S q =>
  goE S q fun x H1 d1 n1 e1 w1 m1 q1 => by
    unfold dPart at q
    split at q1
    · cases m1
      exact ⟨_, rfl, n1, e1, w1, q1⟩
    · exact q1.elim
def dSliceL (t : DT) (lo hi : DTO) : DT := fun env n R => t env n fun d n1 => lo env n1 fun l n2 => hi env n2 fun u n3 => match d with
  | .dat (.list ds) => R (LV (cutD ds l u)) n3
  | _ => False
theorem DmA.cut {M : Addr → Prop} {H : Hp} {xs : List V} {ds : List PyData} (h : DmA M H xs ds) (l u : Option Int) : DmA M H (cutV xs l u) (cutD ds l u) := by
  unfold cutV cutD
  rw [h.length]
  exact (h.drop _).take _
variable {lo hi : Option Expr} {p2 : Pos} {dl du : DTO}
theorem fe_sliceL (he : FE X e ta) (hl : FO X lo dl) (hu : FO X hi du) : FE X (.Subscript e (.Slice lo hi none p2) pos) (dSliceL ta dl du) := FE.of (pe_slice sl_list he hl hu) fun c M σ H env n R S q =>
  goE S q fun x H1 d1 n1 e1 w1 m1 q1 => ⟨c, M, env, n1, _, S.step e1 w1, q1, fun l H2 n2 e2 w2 q2 => ⟨c, M, env, n2, _, S.step (e1.trans e2) w2, q2, fun u H3 n3 e3 w3 q3 => by
    split at q3
    · have m3 : Dm M H3 x _ := Dm.mono ((e2.trans e3).weak S.dM) m1
      cases m3 with
      | lst hm ha hd =>
        have S3 := S.step ((e1.trans e2).trans e3) w3
        exact ⟨_, _, rfl, SqL.of ha, fun p hp => ⟨LV _, n3, ((e1.trans e2).trans e3).trans (Ext.new hp), w3.new hp, Dm.lst (fun z => S3.dom p z hp) upd_same ((hd.cut l u).mono (Ext.new hp)), q3⟩⟩
    · exact q3.elim⟩⟩
def oRepL : DO2 := fun x y R => match x, y with
  | .dat (.list ds), .dat (.int k) => 0 ≤ k ∧ k ≤ 1000 ∧ ds.length ≤ 1000 ∧ R (LV (List.replicate k.toNat ds).flatten)
  | _, _ => False
def oCat : DO2 := fun x y R => match x, y with
  | .dat (.list ds), .dat (.list fs) => ds.length ≤ 100000 ∧ fs.length ≤ 100000 ∧ R (LV (ds ++ fs))
  | _, _ => False
abbrev FK (X : Cx) (kws : List Keyword) (t : DTA) : Prop := PK X kws (cA t)
theorem FK.of {kws : List Keyword} {ta : TA} {t : DTA} (h : PK X kws ta) (q : ∀ c M σ H env n R, Sta c M σ H env n → t env n R → ta σ H (OutA c M H R)) : FK X kws t :=
  ⟨fun pos pins s σ H Q I ⟨c, M, env, n, R, S, ht, k⟩ => thn (h.run pos pins s σ H _ I (q c M σ H env n R S ht)) fun _ _ ⟨vs, H', I', r, d, n', e, w, m, z⟩ => ⟨vs, H', I', r, k vs H' d n' e w m z⟩⟩
variable {kws : List Keyword} {nm : Option Str} {kpos : Pos}
theorem fk_nil : FK X [] dNil := FK.of pk_nil fun c M σ H env n R S h => ⟨[], n, Ext.rfl' H, S.wr, .nil, h⟩
theorem fk_cons (ha : FE X e ta) (hr : FK X kws tl) : FK X (⟨nm, e, kpos⟩ :: kws) (dCons ta tl) := FK.of (pk_cons ha hr) fun c M σ H env n R S h =>
  goE S h fun x H1 d1 n1 e1 w1 m1 q1 => goA (S.step e1 w1) q1 fun xs H2 d2 n2 e2 w2 m2 q2 => ⟨d1 :: d2, n2, e1.trans e2, w2, .cons (m1.mono (e2.weak S.dM)) m2, q2⟩
/-- the parameters' order -/
structure Perm' (g : {α : Type} → List α → List α) : Prop where
  rel : ∀ {α β : Type} {R : α → β → Prop} {l : List α} {m : List β}, Paired R l m → Paired R (g l) (g m)
def pId {α : Type} (l : List α) : List α := l
def pRev {α : Type} : List α → List α
  | [a, b] => [b, a]
  | l => l
theorem prev_ok : Perm' @pRev := ⟨fun h => by
  cases h with
  | nil => exact .nil
  | cons h1 t =>
    cases t with
    | nil => exact .cons h1 .nil
    | cons h2 t =>
      cases t with
      | nil => exact .cons h2 (.cons h1 .nil)
      | cons h3 t => exact .cons h1 (.cons h2 (.cons h3 t))⟩
variable {k : Nat} {f : Addr} {fd : FuncData} {ps ks : List Str} {S : DSp} {x : Str} {p : Pos}
def dCallK (S : DSp) (g : {α : Type} → List α → List α) (tl : DTA) : DT := fun env n R => tl env n fun ds n1 => S (g ds) n1 R
theorem fe_callK {g : {α : Type} → List α → List α} (F : FnG X.prog X.w X.K X.mg X.base CX0 k f fd ps (cSp S)) (hr : RoomG k X.A) (hg : Gl X x) (hm : X.mg x = some (.ref f)) (hk : PySem.W.keepIn X.K (.ref f) = true)
    (hp : Perm' g) (hb : ∀ (s : Shared) (ws : List Value), (g ws).length = ps.length → BindsTo s fd ⟨[], ks.zip ws⟩ (ps.zip (g ws))) (ha : FK X kws tl) (hdb : (x == ("__debug__" : Str)) = false := by decide)
    (hall : (backToKw pos (keywordEach kws X.env)).all (·.1.isSome) = true := by rfl) (hks : (backToKw pos (keywordEach kws X.env)).filterMap (·.1) = ks := by rfl)
    (hpl : ((backTo pos (starEach [] X.env)).any (·.1) || (backToKw pos (keywordEach kws X.env)).any (·.1.isNone)) = false := by rfl) : FE X (.Call (.Name x p) [] kws pos) (dCallK S @g tl) :=
  ⟨fun pins s σ H Q I ⟨c, M, env, n, R, St, ht, kk⟩ => by
    refine wpAny_Call_Name_kw (ld_glob I hg hm (PySem.W.callWith_KW0 (h₀ := X.base) I.ok.mod.kin hk hall (thn (ha.run pos pins s σ H (OutA c M H fun ds n1 => S (g ds) n1 R) I (goA St ht fun vs H1 ds n1 e1 w1 m1 q1 => ⟨ds, n1, e1, w1, m1, q1⟩)) fun ws s1 hq => ?_) hpl) hdb)
    obtain ⟨vs, H1, I1, r, ds, n1, e1, w1, m1, q1⟩ := hq
    refine ⟨I1.kIn, ?_⟩
    rw [hks]
    have hsp : cSp S (g vs) H1 Q E0 := ⟨c.ω, M, g ds, n1, R, St.dM, (St.step e1 w1).dom, w1, hp.rel m1, q1, fun v H' d n' e2 w2 m2 q2 => kk v H' d n' (e1.trans e2) w2 m2 q2⟩
    have hl : (g ws).length = ps.length := by rw [← (hp.rel r : Vals (g vs) (g ws)).length]; exact F.len _ _ _ _ hsp
    refine wpAny_call (codeAny_mono (F.go X.A X.stack s1 H1 ⟨[], ks.zip ws⟩ (g ws) (g vs) Q E0 hr I1.env0 (hb s1 ws hl) (hp.rel r) hsp) ?_)
    intro r s' hq
    match r, hq with
    | .ok (.ret u), hq => exact I1.after hq⟩
end
end Sx

set_option Elab.async false
set_option linter.all false
set_option maxRecDepth 100000
set_option maxHeartbeats 2000000
namespace Sx
open PySem PySem.Spec L2
open PyProof.Rows hiding St
theorem slot_ne : Slot "type" (cmpInfo .NotEq).2.1 "object.__ne__" :=
  Slot.of (owner := "object") (n := "__ne__") (by rw [typeLookup_type]; rw [builtinLookup_eq_fast]; kernel_rfl) (by decide +kernel) (by decide +kernel) (by decide +kernel)
    (by first | exact Or.inl (by decide +kernel) | exact Or.inr (by decide +kernel)) (by rw [isSubtype_type]; kernel_rfl)
section
variable {prog : Program} {w : World} {A : Around} {E : Value → Shared → Prop} {s : Shared} {Q : Value → Shared → Prop}
theorem slot_eqn : Slot "type" (Str.ofString "__eq__") "object.__eq__" := by
  have h := PySem.TypeEq.slot_type_eq
  have e : (cmpInfo .Eq).2.1 = Str.ofString "__eq__" := by first | rfl | decide +kernel
  rw [e] at h
  exact h
theorem ne_type_same {T : String} (hT : ∀ s' : Shared, s'.TypeIs (.type T) "type") (hu : A.units + 4 < cLine) (h : Q (.bool false) s) : wpAny (model prog w) A (compareOp .NotEq (.type T) (.type T)) Q E s := by
  show wpAny _ A (richCompare .NotEq _ _) Q E s
  refine wpAny_richCompare_same (T := "type") (hT s) (hT s) slot_ne (wpAny_call (codeAny_call_builtin slot_ne.plain F.entry_object_ne (slot_ne.check _ _ _ _ _ _ _ _ (hT s) (F.args_object_ne_2 _ _) ?_)))
  unfold Builtin.«object.__ne__»
  repeat (first
    | with_reducible refine wpAny_cRoomFor (by show A.units + 1 < cLine; omega) ?_
    | (refine wpAny_bind (m := callSpecialIfBound? (.type T) (Str.ofString "__eq__") [.type T]) (wpAny_callSpecialIfBound?_slot (hT s) slot_eqn
        (call_gives slot_eqn (hT s) F.entry_object_eq (F.args_object_eq_2 _ _) (PySem.TypeEq.object_eq_same rfl (by simp)) ?_)))
    | wp_step)
  exact wpAny_bind (wpAny_truthy_bool (wpAny_pure ⟨(fun e => nomatch e), h⟩))
end
/-- a type that may be compared -/
def metaT (T : String) : Prop := ∀ s' : Shared, s'.TypeIs (.type T) "type"
theorem mInt : metaT "int" := PySem.TypeEq.meta_int
theorem mTuple : metaT "tuple" := PySem.TypeEq.meta_tuple
section
variable {X : Cx} {e a : Expr} {pos p1 p2 p3 : Pos} {ta : DT} {T : String}
theorem op_eqTy (hT : metaT T) : OpR X (compareOp .Eq) (fun x y H Q => x = .ty T ∧ y = .ty T ∧ Q (.bl true) H) := by
  intro pins s σ H x y v u Q I rx ry h
  obtain ⟨rfl, rfl, q⟩ := h
  cases rx
  cases ry
  exact PySem.TypeEq.eq_type_same hT ⟨.bl true, H, I, rfl, q⟩
theorem op_neTy {k : Nat} (hr : RoomG k X.A) (hT : metaT T) : OpR X (compareOp .NotEq) (fun x y H Q => x = .ty T ∧ y = .ty T ∧ Q (.bl false) H) := by
  intro pins s σ H x y v u Q I rx ry h
  obtain ⟨rfl, rfl, q⟩ := h
  cases rx
  cases ry
  have := hr.rm.un
  exact ne_type_same hT (by omega) ⟨.bl false, H, I, rfl, q⟩
theorem ty_of {M : Addr → Prop} {H : Hp} {v : V} {d : PyData} (h : Dm M H v d) : zTyV v H = some (tyD d) := by
  cases h with
  | non => rfl
  | bl b => rfl
  | int i => rfl
  | str x => rfl
  | lst hm ha hd => simp only [zTyV, ha, tyD]
  | tup hm ha hd => simp only [zTyV, ha, tyD]
/-- of the type T: what is told then -/
def dTy (T : String) (k : Bool) (ta : DT) : DT := fun env n R => ta env n fun d n1 => match d with
  | .dat d => tyD d = T ∧ R (BV k) n1
  | _ => False
theorem ty_go {c : Cw} {M : Addr → Prop} {σ : L2.St} {H : Hp} {env : En} {n : Nat} {R : DV → Nat → Prop} {k : Bool} {Q : VK} (St : Sta c M σ H env n) (h : dTy T k ta env n R)
    (kk : ∀ H' n', Ext (dr c.ω) H H' → WR c.ω n' H' → R (BV k) n' → Q (.bl k) H') : tOp (fun x y H Q => x = .ty T ∧ y = .ty T ∧ Q (.bl k) H) (tThenZ (cE ta) kTyp) (tC (.ty T)) σ H Q :=
  goE St h fun v H1 d n1 e1 w1 m1 q1 => by
    cases d with
    | draws => exact q1.elim
    | own _ => exact q1.elim
    | dat d => exact ⟨_, ty_of m1, by rw [q1.1], rfl, kk H1 n1 e1 w1 q1.2⟩
theorem fe_tyEq (hT : metaT T) (h : PE X e (tThenZ (cE ta) kTyp)) (ht : PE X a (tC (.ty T))) (hm : behindInMarks .Eq a = false) : FE X (.Compare e [.Eq] [a] pos) (dTy T true ta) :=
  FE.of (pe_cmpR (op_eqTy hT) h ht hm) fun c M σ H env n R St q => ty_go St q fun H' n' e w r => ⟨BV true, n', e, w, Dm.bl _, r⟩
theorem ft_tyNe {k : Nat} (hr : RoomG k X.A) (hT : metaT T) (h : PE X e (tThenZ (cE ta) kTyp)) (ht : PE X a (tC (.ty T))) (hm : behindInMarks .NotEq a = false) : FT X (.Compare e [.NotEq] [a] pos) (dTest (dTy T false ta)) :=
  FT.of (pt_cmpR (op_neTy hr hT) h ht hm) fun c M σ H env n R St q =>
    ty_go (R := fun z n' => match z with | .dat (.bool k) => R k n' | _ => False) St q fun H' n' e w r => ⟨false, rfl, n', e, w, r⟩
end
end Sx

set_option Elab.async false
set_option linter.all false
set_option maxRecDepth 100000
set_option maxHeartbeats 2000000
namespace Sx
open PySem PySem.Spec L2
open PyProof.Rows hiding St
section
variable {X : Cx} {e a b c d : Expr} {es : List Expr} {pos : Pos} {ta tb tc td : DT} {tl : DTA}
/-- a module's int -/
theorem fe_cint {x : Str} {i : Int} (hg : Gl X x) (hm : ∃ t, X.mg x = some (.int i t)) (hd : (x == ("__debug__" : Str)) = false := by decide) : FE X (.Name x pos) (dC (.int i)) := by
  obtain ⟨t, ht⟩ := hm
  exact fe_con (v := .int i) (pe_glob hg ht ⟨t, rfl⟩ hd) fun _ _ => .int i
def tChain3 (r r' r'' : R2) (ta tb tc td : TE) : TE := fun σ H Q => ta σ H fun x H1 => tb σ H1 fun y H2 => r x y H2 fun z H3 => ∃ k, z = .bl k ∧
  (if k = true then tc σ H3 fun u H4 => r' y u H4 fun z' H5 => ∃ k', z' = .bl k' ∧ (if k' = true then td σ H5 fun w H6 => r'' u w H6 Q else Q (.bl false) H5) else Q (.bl false) H3)
theorem pe_chain3 {o o' o'' : CmpOp} {r r' r'' : R2} {sa sb sc sd : TE} (h1 : OpR X (compareOp o) r) (h2 : OpR X (compareOp o') r') (h3 : OpR X (compareOp o'') r'') (ha : PE X a sa) (hb : PE X b sb) (hc : PE X c sc) (hd : PE X d sd)
    (hm : lastMarks [o, o', o''] [b, c, d] = false := by with_unfolding_all rfl) : PE X (.Compare a [o, o', o''] [b, c, d] pos) (tChain3 r r' r'' sa sb sc sd) := by
  refine ⟨fun pins s σ H Q I h => Compare_chain (thn (ha.run pins s σ H _ I h) fun v s1 ⟨x, H1, I1, r1, q1⟩ => chain_link (thn (hb.run pins s1 σ H1 _ I1 q1) fun u s2 ⟨y, H2, I2, r2, q2⟩ =>
    thn (h1 pins s2 σ H2 x y v u _ I2 r1 r2 q2) fun d0 s3 ⟨z, H3, I3, r3, k, e, q3⟩ => ?_)) hm⟩
  subst e
  cases r3
  refine wpAny_truthy_bool ?_
  cases k with
  | false => exact ite_ff ⟨.bl false, H3, I3, rfl, q3⟩
  | true =>
    refine ite_tt (chain_link (thn (hc.run pins s3 σ H3 _ I3 q3) fun w s4 ⟨z', H4, I4, r4, q4⟩ => thn (h2 pins s4 σ H4 y z' u w _ I4 r2 r4 q4) fun d1 s5 ⟨z2, H5, I5, r5, k2, e2, q5⟩ => ?_))
    subst e2
    cases r5
    refine wpAny_truthy_bool ?_
    cases k2 with
    | false => exact ite_ff ⟨.bl false, H5, I5, rfl, q5⟩
    | true => exact ite_tt (chain_last (thn (hd.run pins s5 σ H5 _ I5 q5) fun w2 s6 ⟨z3, H6, I6, r6, q6⟩ => h3 pins s6 σ H6 z' z3 w w2 Q I6 r4 r6 q6))
def dChain3 (o o' o'' : DO2) (ta tb tc td : DT) : DT := fun env n R => ta env n fun x n1 => tb env n1 fun y n2 => o x y fun z => match z with
  | .dat (.bool k) => if k = true then tc env n2 fun u n3 => o' y u fun z' => match z' with
      | .dat (.bool k') => if k' = true then td env n3 fun w n4 => o'' u w fun q => R q n4 else R (BV false) n3
      | _ => False
    else R (BV false) n2
  | _ => False
theorem fe_chain3 {o o' o'' : CmpOp} {r r' r'' : R2} {p p' p'' : DO2} (h1 : OpR X (compareOp o) r) (h2 : OpR X (compareOp o') r') (h3 : OpR X (compareOp o'') r'') (k1 : OkO r p) (k2 : OkO r' p') (k3 : OkO r'' p'')
    (ha : FE X a ta) (hb : FE X b tb) (hc : FE X c tc) (hd : FE X d td) (hm : lastMarks [o, o', o''] [b, c, d] = false := by with_unfolding_all rfl) : FE X (.Compare a [o, o', o''] [b, c, d] pos) (dChain3 p p' p'' ta tb tc td) :=
  FE.of (pe_chain3 h1 h2 h3 ha hb hc hd hm) fun cw M σ H env n R S h =>
  goE S h fun x H1 d1 n1 e1 w1 m1 q1 => goE (S.step e1 w1) q1 fun y H2 d2 n2 e2 w2 m2 q2 =>
    k1 cw M H2 x y d1 d2 n2 _ _ (S.step (e1.trans e2) w2).dom S.dM w2 (m1.mono (e2.weak S.dM)) m2 q2 fun v H' z e3 w3 m3 q3 => by
      split at q3
      · cases m3
        refine ⟨_, rfl, ?_⟩
        split at q3
        · rename_i hk
          rw [if_pos hk]
          exact goE (S.step ((e1.trans e2).trans e3) w3) q3 fun u H4 d4 n4 e4 w4 m4 q4 =>
            k2 cw M H4 y u d2 d4 n4 _ _ (S.step (((e1.trans e2).trans e3).trans e4) w4).dom S.dM w4 (m2.mono ((e3.trans e4).weak S.dM)) m4 q4 fun v5 H5 z5 e5 w5 m5 q5 => by
              split at q5
              · cases m5
                refine ⟨_, rfl, ?_⟩
                split at q5
                · rename_i hk5
                  rw [if_pos hk5]
                  exact goE (S.step ((((e1.trans e2).trans e3).trans e4).trans e5) w5) q5 fun w H6 d6 n6 e6 w6 m6 q6 =>
                    k3 cw M H6 u w d4 d6 n6 (fun q => R q n6) (OutE cw M H R) (S.step (((((e1.trans e2).trans e3).trans e4).trans e5).trans e6) w6).dom S.dM w6 (m4.mono ((e5.trans e6).weak S.dM)) m6 q6 fun v7 H7 z7 e7 w7 m7 q7 =>
                      ⟨z7, n6, (((((e1.trans e2).trans e3).trans e4).trans e5).trans e6).trans e7, w7, m7, q7⟩
                · rename_i hk5
                  rw [if_neg hk5]
                  exact ⟨BV false, n4, (((e1.trans e2).trans e3).trans e4).trans e5, w5, Dm.bl _, q5⟩
              · exact q5.elim
        · rename_i hk
          rw [if_neg hk]
          exact ⟨BV false, n2, (e1.trans e2).trans e3, w3, Dm.bl _, q3⟩
      · exact q3.elim
def dPar3 (i j l : Nat) (tl : DTA) : DTS := fun F env n => tl env n fun xs n1 => match xs with
  | [x, y, z] => F.nx (((env.set i (some x)).set j (some y)).set l (some z)) n1
  | _ => False
end
end Sx

set_option Elab.async false
set_option linter.all false
set_option maxRecDepth 100000
set_option maxHeartbeats 2000000
namespace Sx
open PySem PySem.Spec L2
open PyProof.Rows hiding St
section
variable {X : Cx} {e a b : Expr} {pos p2 : Pos} {ta tb : DT} {lo hi : Option Expr} {dl du : DTO}
def dSliceT (t : DT) (lo hi : DTO) : DT := fun env n R => t env n fun d n1 => lo env n1 fun l n2 => hi env n2 fun u n3 => match d with
  | .dat (.tuple ds) => ¬ (HT.sIx ds.length 0 l = 0 ∧ HT.sIx ds.length ds.length u = ds.length) ∧ R (TV (cutD ds l u)) n3
  | _ => False
def oCatT : DO2 := fun x y R => match x, y with
  | .dat (.tuple ds), .dat (.tuple fs) => (ds ≠ [] ∧ fs ≠ []) ∧ ds.length ≤ 100000 ∧ fs.length ≤ 100000 ∧ R (TV (ds ++ fs))
  | _, _ => False
def isNone : PyData → Bool
  | .none => true
  | _ => false
def oIsN : DO2 := fun x y R => match x, y with
  | .dat d, .dat .none => R (BV (isNone d))
  | _, _ => False
def oNotN : DO2 := fun x y R => match x, y with
  | .dat d, .dat .none => R (BV (!isNone d))
  | _, _ => False
end
end Sx

set_option Elab.async false
set_option linter.all false
set_option maxRecDepth 100000
set_option maxHeartbeats 2000000
namespace Sx
open PySem L2
/-- a new list, kept apart -/
theorem Sta.fresh {c : Cw} {M : Addr → Prop} {σ : St} {H : Hp} {env : En} {n : Nat} (S : Sta c M σ H env n) {p : Addr} {o : HO} (hp : H p = none) : Sta c (fun a => M a ∨ a = p) σ (upd H p o) env n := by
  have ep : Ext (dr c.ω) H (upd H p o) := Ext.new hp
  have epM : Ext M H (upd H p o) := Ext.new hp
  refine ⟨fun a ha => .inl (S.m0 a ha), S.d0, fun a ha => ?_, S.wr.new hp, S.keep.trans ep, S.len, fun q hq => ?_, fun q hq => ⟨fun z => z.elim (S.gr q hq).1 fun y => ne_of_none (S.gr q hq).2 hp y, by rw [upd_ne (ne_of_none (S.gr q hq).2 hp)]; exact (S.gr q hq).2⟩, fun j x ej => ?_, S.own⟩
  · rcases ha with ha | rfl
    · intro y
      by_cases ea : a = p
      · subst ea; exact S.dom _ ha hp
      · rw [upd_ne ea] at y; exact S.dom a ha y
    · rw [upd_same]; simp
  · exact ((S.gh q hq).more hp).mono (Ext.new hp)
  · obtain ⟨u, h1, h2⟩ := S.slot j x ej
    exact ⟨u, h1, (h2.growM hp).step (fun a ha => .inl (S.dM a ha)) S.d0 ep⟩
/-- a write to what is kept apart and in no slot -/
theorem Sta.wrD {c : Cw} {M : Addr → Prop} {σ : St} {H : Hp} {env : En} {n : Nat} (S : Sta c M σ H env n) {p : Addr} {o : HO} (hm : M p) (nd : ¬ dr c.ω p) (h0 : c.H0 p = none)
    (hs : ∀ (j : Nat) (xs : List PyData), env[j]? = some (some (DV.own xs)) → σ[j]? ≠ some (some (V.ref p))) : Sta c M σ (upd H p o) env n := by
  have em : Ext M H (upd H p o) := fun z o' g nz => by
    rw [upd_ne fun w => nz (by subst w; exact hm)]; exact g
  refine ⟨S.m0, S.d0, fun z hz => ?_, S.wr.wr nd, fun z o' g nz => ?_, S.len, fun p hp => (S.gh p hp).mono em, fun p hp => ⟨(S.gr p hp).1, em _ _ (S.gr p hp).2 (S.gr p hp).1⟩, fun j x ej => ?_, S.own⟩
  · by_cases za : z = p
    · subst za; rw [upd_same]; simp
    · rw [upd_ne za]; exact S.dom z hz
  · have : z ≠ p := fun w => by subst w; rw [h0] at g; cases g
    rw [upd_ne this]
    exact S.keep z o' g nz
  · obtain ⟨u, h1, h2⟩ := S.slot j x ej
    refine ⟨u, h1, ?_⟩
    cases x with
    | dat d => exact Dm.mono em h2
    | draws => exact h2
    | own ds2 =>
      obtain ⟨a2, xs2, rfl, g2, g3, g4, g5, g6⟩ := h2
      have ne : a2 ≠ p := fun w => hs j _ ej (by rw [h1, w])
      exact ⟨a2, xs2, rfl, g2, g3, g4, by rw [upd_ne ne]; exact g5, g6.mono em⟩
def dLcStep (I : List PyData → Nat → Prop) (J : List PyData → Nat → Prop) (tt : DTB) (tb : DT) (env : En) : Prop := ∀ acc m, I acc m → tt env m fun b m1 => if b = true then tb env m1 fun y m2 => match y with
  | .dat y => J (acc ++ [y]) m2
  | _ => False
  else J acc m1
def dYes : DTB := fun _ n R => R true n
section
variable {X : Cx} {e : Expr} {ta tb : DT} {tt : DTB}
/-- what a piece asks, told over data -/
def RdE (te : TE) (t : DT) : Prop := ∀ (c : Cw) (M : Addr → Prop) (σ : St) (H : Hp) (env : En) (n : Nat) (R : DV → Nat → Prop), Sta c M σ H env n → t env n R → te σ H (OutE c M H R)
/-- the state of a comprehension -/
def LcP (c : Cw) (M : Addr → Prop) (σ : St) (env : En) (D : Addr) (H1 : Hp) (I : Nat → List PyData → Nat → Prop) (k : Nat) (H : Hp) : Prop :=
  ∃ acc accv m, H D = some (.lst accv) ∧ DmA (fun a => M a ∨ a = D) H accv acc ∧ acc.length ≤ k ∧ I k acc m ∧ Sta c (fun a => M a ∨ a = D) σ H env m ∧ Ext (fun a => dr c.ω a ∨ a = D) H1 H
theorem lc_step {c : Cw} {M : Addr → Prop} {σ : St} {env : En} {D : Addr} {H1 : Hp} {I : Nat → List PyData → Nat → Prop} {k i : Nat} {H : Hp} {x : V} {d : DV}
    (nd : ¬ dr c.ω D) (h0 : c.H0 D = none) (hs : ∀ (j : Nat) (xs : List PyData), env[j]? = some (some (DV.own xs)) → σ[j]? ≠ some (some (V.ref D))) (hk : k < 1000)
    (P : LcP c M σ env D H1 I k H) (hd : VRep c.ω (fun a => M a ∨ a = D) H x d) (q : dLcStep (I k) (I (k + 1)) tt tb (env.set i (some d))) :
    gName i x (wipe σ [i]) H fun σ2 H2 => wipe σ2 [i] = wipe σ [i] ∧ cT tt σ2 H2 fun b H3 =>
      if b = true then cE tb σ2 H3 fun y H4 => ∃ acc, H4 D = some (.lst acc) ∧ acc.length < sizeLine ∧ LcP c M σ env D H1 I (k + 1) (upd H4 D (.lst (acc ++ [y]))) else LcP c M σ env D H1 I (k + 1) H3 := by
  obtain ⟨acc, accv, m, hD, ha, hl, hi, S, hE⟩ := P
  have ew : (wipe σ [i]).set i (some x) = σ.set i (some x) := List.set_set ..
  unfold gName
  rw [ew]
  refine ⟨by show (σ.set i (some x)).set i none = σ.set i none; rw [List.set_set], ?_⟩
  have S2 := S.set i hd
  refine goT S2 (q acc m hi) fun b H3 n3 e3 w3 q3 => ?_
  have D3 : H3 D = some (.lst accv) := e3 _ _ hD nd
  have dM : ∀ a, dr c.ω a → M a ∨ a = D := fun a ha => S.dM a ha
  cases b with
  | false =>
    rw [if_neg Bool.false_ne_true] at q3 ⊢
    exact ⟨acc, accv, n3, D3, ha.mono (e3.weak dM), by omega, q3, S.step e3 w3, hE.trans (e3.weak fun a h => .inl h)⟩
  | true =>
    rw [if_pos rfl] at q3 ⊢
    refine goE (S2.step e3 w3) q3 fun y H4 yd n4 e4 w4 m4 q4 => ?_
    have D4 : H4 D = some (.lst accv) := e4 _ _ D3 nd
    cases yd with
    | draws => exact q4.elim
    | own ds => exact q4.elim
    | dat yd =>
      have em : Ext (fun a => M a ∨ a = D) H4 (upd H4 D (.lst (accv ++ [y]))) := fun z o g nz => by
        rw [upd_ne fun w => nz (.inr w)]; exact g
      have a4 := ha.mono ((e3.trans e4).weak dM)
      refine ⟨accv, D4, by rw [a4.length]; exact Nat.lt_of_le_of_lt hl (Nat.lt_of_lt_of_le hk (by decide)), acc ++ [yd], accv ++ [y], n4, upd_same, (a4.mono em).append (.cons (Dm.mono em m4) .nil), by rw [List.length_append]; exact Nat.succ_le_succ hl, q4, ((S.step e3 w3).step e4 w4).wrD (.inr rfl) nd h0 hs, ?_⟩
      intro z o g nz
      rw [upd_ne fun w => nz (.inr w)]
      exact e4 _ _ (e3 _ _ (hE _ _ g nz) fun w => nz (.inl w)) fun w => nz (.inl w)
theorem lc_end {c : Cw} {M : Addr → Prop} {σ : St} {env : En} {D : Addr} {H0 H1 : Hp} {I : Nat → List PyData → Nat → Prop} {k : Nat} {H : Hp} {R : DV → Nat → Prop} {n1 : Nat}
    (S1 : Sta c M σ H1 env n1) (hn : H1 D = none) (e1 : Ext (dr c.ω) H0 H1) (P : LcP c M σ env D H1 I k H) (q : ∀ acc m, I k acc m → R (LV acc) m) : OutE c M H0 R (.ref D) H := by
  obtain ⟨acc, accv, m, hD, ha, hl, hi, S, hE⟩ := P
  refine ⟨LV acc, m, e1.trans fun z o g nz => ?_, S.wr, Dm.lst (fun z => S1.dom D z hn) hD (ha.weak fun a z => .inl z), q acc m hi⟩
  exact hE z o g fun w => w.elim nz fun y => ne_of_none g hn y
end
end Sx

set_option Elab.async false
set_option linter.all false
set_option maxRecDepth 100000
set_option maxHeartbeats 2000000
namespace Sx
open PySem L2
section
variable {X : Cx} {e : Expr} {ta : DT} {t : DTB} {st : Stmt}
/-- a test that reads the own list i -/
def dPeekT (i : Nat) (t : DTB) : DTB := fun env n R => match env[i]? with
  | some (some (.own ds)) => t (env.set i (some (LV ds))) n R
  | _ => False
/-- a number read out of the own list i -/
def dPeekI (i : Nat) (t : DT) : DT := fun env n R => match env[i]? with
  | some (some (.own ds)) => t (env.set i (some (LV ds))) n fun d n1 => match d with
    | .dat (.int j) => R (IV j) n1
    | _ => False
  | _ => False
/-- x, y = [], [] -/
def dParO2 (i j : Nat) : DTS := fun F env n => i ≠ j ∧ F.nx ((env.set i (some (.own []))).set j (some (.own []))) n
theorem slots_ne {c : Cw} {M : Addr → Prop} {σ : St} {H : Hp} {env : En} {n : Nat} (S : Sta c M σ H env n) {p : Addr} (hp : H p = none) : ∀ (j : Nat) (xs : List PyData), env[j]? = some (some (DV.own xs)) → σ[j]? ≠ some (some (V.ref p)) := fun j xs ej z => by
  obtain ⟨u, h1, a, _, rfl, _, _, _, h5, _⟩ := S.slot j _ ej
  rw [h1] at z
  cases z
  rw [h5] at hp; cases hp
/-- x, y, z = [], [], e -/
def dParO3 (i j l : Nat) (ta : DT) : DTS := fun F env n => i ≠ j ∧ ta env n fun d n1 => F.nx (((env.set i (some (.own []))).set j (some (.own []))).set l (some d)) n1
end
def oSum : DOC := fun xs R => match xs with
  | [.dat (.list ds)] => ∃ ns : List Int, ds = ns.map .int ∧ R (IV ns.sum)
  | _ => False
/-- tests of a comprehension -/
theorem ptd_nil {X : Cx} : PTs X [] (cT dYes) := ⟨fun pins s σ H Q I h => pts_nil.run pins s σ H Q I (by
  obtain ⟨c, M, env, n, R, S, q, k⟩ := h
  exact k true H n (Ext.rfl' H) S.wr q)⟩
end Sx

set_option Elab.async false
set_option linter.all false
set_option maxRecDepth 100000
set_option maxHeartbeats 2000000
namespace Sx
open PySem L2
def dForT (i : Nat) (ta : DT) (tb : DTS) : DTS := fun F env n => ta env n fun d n1 => match d with
  | .dat (.tuple ds) => ∃ I : Nat → En → Nat → Prop, I 0 env n1 ∧
      (∀ k d env n, ds[k]? = some d → I k env n → tb { F with nx := I (k + 1), ct := I (k + 1), bk := F.nx } (env.set i (some (.dat d))) n) ∧ (∀ env n, I ds.length env n → F.nx env n)
  | _ => False
/-- for i in range(a, b) -/
def dForR2 (i : Nat) (tl : DTA) (tb : DTS) : DTS := fun F env n => tl env n fun xs n1 => match xs with
  | [.dat (.int a), .dat (.int b)] => (-(2 ^ 62) ≤ a ∧ a < 2 ^ 62 ∧ -(2 ^ 62) ≤ b ∧ b < 2 ^ 62) ∧ ∃ I : Nat → En → Nat → Prop, I 0 env n1 ∧
      (∀ k env n, k < (b - a).toNat → I k env n → tb { F with nx := I (k + 1), ct := I (k + 1), bk := F.nx } (env.set i (some (IV (a + (k : Int))))) n) ∧ (∀ env n, I (b - a).toNat env n → F.nx env n)
  | _ => False
/-- [tb for i in range(a, b) if tt] -/
def dLcR2 (i : Nat) (tl : DTA) (tt : DTB) (tb : DT) : DT := fun env n R => tl env n fun xs n1 => match xs with
  | [.dat (.int a), .dat (.int b)] => b - a ≤ 1000 ∧ (-(2 ^ 62) ≤ a ∧ a < 2 ^ 62 ∧ -(2 ^ 62) ≤ b ∧ b < 2 ^ 62) ∧ ∃ I : Nat → List PyData → Nat → Prop, I 0 [] n1 ∧
      (∀ k : Nat, k < (b - a).toNat → dLcStep (I k) (I (k + 1)) tt tb (env.set i (some (IV (a + (k : Int)))))) ∧ (∀ acc m, I (b - a).toNat acc m → R (LV acc) m)
  | _ => False
theorem two_ints {c : Cw} {M : Addr → Prop} {H : Hp} {vs : List V} {a b : Int} (m : VReps c.ω M H vs [IV a, IV b]) : vs = [.int a, .int b] := by
  cases m with
  | cons m1 m2 =>
    cases m2 with
    | cons m3 m4 =>
      cases m4
      cases m1
      cases m3
      rfl
section
variable {X : Cx} {e : Expr} {ta tb : DT} {tt : DTB} {tl : DTA} {ts : DTS}
theorem fs_forT {i : Nat} {st : Stmt} (h : PS X st (tFor (iTup X.K (cE ta)) (gName i) (cS ts))) : FS X st (dForT i ta ts) := FS.of h fun c M σ H env n F E S q k =>
  goE S q fun v H1 d n1 e1 w1 m1 q1 => by
    cases d with
    | draws => exact q1.elim
    | own ds => exact q1.elim
    | dat d =>
      cases d with
      | tuple ds =>
        obtain ⟨I, i0, iS, iE⟩ := q1
        have m1' : Dm M H1 v (.tuple ds) := m1
        cases m1' with
        | tup hm ha hd =>
          rename_i p xs
          obtain ⟨c', hc'⟩ : ∃ c', c' = c.hold (.ref p, .tuple ds) (p, .tup xs) := ⟨_, rfl⟩
          have S1 : Sta c' M σ H1 env n1 := hc' ▸ (S.step e1 w1).hold (Dm.tup hm ha hd) ⟨hm, ha⟩
          have back : ∀ {M' σ' H' env' n'}, Sta c' M' σ' H' env' n' → H' p = some (.tup xs) ∧ DmA M' H' xs ds := fun S' => by
            subst hc'
            have z := S'.gh (.ref p, .tuple ds) List.mem_cons_self
            have z2 := (S'.gr (p, .tup xs) List.mem_cons_self).2
            cases z with
            | tup _ y2 y3 =>
              have y4 := y2.symm.trans z2
              cases y4
              exact ⟨y2, y3⟩
          have out : ∀ {M' σ' H' env' n'}, Sta c' M' σ' H' env' n' → Sta c M' σ' H' env' n' := fun S' => by
            subst hc'
            exact S'.drop
          have ω' : c'.ω = c.ω := by rw [hc']; rfl
          have h0' : c'.H0 = c.H0 := by rw [hc']; rfl
          have m0' : c'.M0 = c.M0 := by rw [hc']; rfl
          refine ⟨p, rfl, ⟨xs, SqT.of ha⟩, for_tup (K := X.K) (a := p) (xs := xs) (fun k σ H => ∃ M env n, Sta c' M σ H env n ∧ I k env n) ⟨M, env, n1, S1, i0⟩ ?_ ?_ ?_⟩
          · rintro k' σ' H' _ ⟨_, _, _, z, _⟩
            exact SqT.of (back z).1
          · rintro k' x σ' H' hx ⟨M', env', n', S', q'⟩
            obtain ⟨d, hd1, hd2⟩ := (back S').2.getV hx
            have z := iS k' d env' n' hd1 q'
            show cS ts _ (σ'.set i (some x)) H'
            exact goS (S'.set i (d := .dat d) hd2) z ⟨fun M2 σ2 H2 env2 n2 S2 h2 => ⟨M2, env2, n2, S2, h2⟩, fun M2 σ2 H2 env2 n2 S2 h2 => k.nx M2 σ2 H2 env2 n2 (out S2) h2, fun M2 σ2 H2 env2 n2 S2 h2 => ⟨M2, env2, n2, S2, h2⟩, by rw [ω', h0', m0']; exact k.rt⟩
          · rintro σ' H' ⟨M', env', n', S', q'⟩
            rw [hd.length] at q'
            exact k.nx M' σ' H' env' n' (out S') (iE env' n' q')
      | _ => exact q1.elim
theorem fs_forR2 {i : Nat} {st : Stmt} (h : PS X st (tFor (iRng2 (cA tl)) (gName i) (cS ts))) : FS X st (dForR2 i tl ts) := FS.of h fun c M σ H env n F E S q k =>
  goA S q fun vs H1 xs n1 e1 w1 m1 q1 => by
    split at q1
    · rename_i a b
      have ev := two_ints m1
      subst ev
      obtain ⟨⟨b1, b2, b3, b4⟩, I, i0, iS, iE⟩ := q1
      refine ⟨a, b, rfl, ⟨b1, b2, b3, b4⟩, for_range (lo := a) (n := (b - a).toNat) (fun k σ H => ∃ M env n, Sta c M σ H env n ∧ I k env n) ⟨M, env, n1, S.step e1 w1, i0⟩ ?_ ?_⟩
      · rintro k' σ' H' hk ⟨M', env', n', S', q'⟩
        have z := iS k' env' n' hk q'
        show cS ts _ (σ'.set i (some (.int (a + (k' : Int))))) H'
        exact goS (S'.set i (d := IV (a + (k' : Int))) (Dm.int _)) z ⟨fun M2 σ2 H2 env2 n2 S2 h2 => ⟨M2, env2, n2, S2, h2⟩, k.nx, fun M2 σ2 H2 env2 n2 S2 h2 => ⟨M2, env2, n2, S2, h2⟩, k.rt⟩
      · rintro σ' H' ⟨M', env', n', S', q'⟩
        exact k.nx M' σ' H' env' n' S' (iE env' n' q')
    · exact q1.elim
theorem rd_lcR2 {K0 : PySem.W.Frag} {i : Nat} : RdE (tLc (iRng2 (cA tl)) (gName i) (cT tt) (cE tb) [i]) (dLcR2 i tl tt tb) := fun c M σ H env n R S q =>
  goA S q fun vs H1 xs n1 e1 w1 m1 q1 => by
    split at q1
    · rename_i a b
      have ev := two_ints m1
      subst ev
      obtain ⟨hb, ⟨b1, b2, b3, b4⟩, I, i0, iS, iE⟩ := q1
      have S1 := S.step e1 w1
      refine ⟨a, b, rfl, ⟨b1, b2, b3, b4⟩, fun D hD => ?_⟩
      have nd : ¬ dr c.ω D := fun z => w1.dom z hD
      have h0 : c.H0 D = none := by
        cases y : c.H0 D with
        | none => rfl
        | some o => rw [S1.keep D o y nd] at hD; cases hD
      have hs := slots_ne S1 hD
      refine lc_range (lo := a) (n := (b - a).toNat) (LcP c M σ env D H1 I) ⟨[], [], n1, upd_same, .nil, Nat.le_refl _, i0, S1.fresh hD, Ext.new hD⟩ (fun k H' hk P => ?_) fun H' P => lc_end S1 hD e1 P iE
      exact lc_step (d := IV (a + (k : Int))) nd h0 hs (by omega) P (Dm.int _) (iS k hk)
    · exact q1.elim
theorem fe_lcR2 {i : Nat} (h : PE X e (tLc (iRng2 (cA tl)) (gName i) (cT tt) (cE tb) [i])) : FE X e (dLcR2 i tl tt tb) := FE.of h fun c M σ H env n R S q => rd_lcR2 (K0 := X.K) c M σ H env n R S q
end
def oTupOf : DOC := fun xs R => match xs with
  | [.dat (.tuple ds)] => R (TV ds)
  | [.dat (.list ds)] => R (TV ds)
  | _ => False
def oMin : DOC := fun xs R => match xs with
  | [.dat (.int i), .dat (.int j)] => R (IV (if j < i then j else i))
  | _ => False
def oIsB : DO2 := fun x y R => match x, y with
  | .dat (.bool a), .dat (.bool b) => R (BV (decide (a = b)))
  | _, _ => False
end Sx

set_option Elab.async false
set_option linter.all false
set_option maxRecDepth 100000
set_option maxHeartbeats 2000000
namespace Sx
open PySem L2
theorem LcP.ext {c : Cw} {M : Addr → Prop} {σ : St} {env : En} {D : Addr} {H1 : Hp} {I : Nat → List PyData → Nat → Prop} {k : Nat} {H : Hp} (P : LcP c M σ env D H1 I k H) {T : Addr} {o : HO} (hT : H T = none) : LcP c M σ env D H1 I k (upd H T o) := by
  obtain ⟨acc, accv, m, hD, ha, hl, hi, S, hE⟩ := P
  have e : Ext (fun a => M a ∨ a = D) H (upd H T o) := Ext.new hT
  have e2 : Ext (dr c.ω) H (upd H T o) := Ext.new hT
  have e3 : Ext (fun a => dr c.ω a ∨ a = D) H (upd H T o) := Ext.new hT
  exact ⟨acc, accv, m, by rw [upd_ne (ne_of_none hD hT)]; exact hD, ha.mono e, hl, hi, S.step e2 (S.wr.new hT), hE.trans e3⟩
end Sx

set_option Elab.async false
set_option linter.all false
set_option maxRecDepth 100000
set_option maxHeartbeats 2000000
namespace Sx
open PySem L2
section
variable {X : Cx} {ta : DT} {st : Stmt}
/-- x, y = [], e -/
def dParOD (i j : Nat) (ta : DT) : DTS := fun F env n => ta env n fun d n1 => F.nx ((env.set i (some (.own []))).set j (some d)) n1
/-- x, y = e, [] -/
def dParDO (i j : Nat) (ta : DT) : DTS := fun F env n => ta env n fun d n1 => F.nx ((env.set i (some d)).set j (some (.own []))) n1
end
def oNotB : DO2 := fun x y R => match x, y with
  | .dat (.bool a), .dat (.bool b) => R (BV (!decide (a = b)))
  | _, _ => False
def oMax : DOC := fun xs R => match xs with
  | [.dat (.list ds)] => ∃ (ns : List Int) (m : Int), ds = ns.map .int ∧ m ∈ ns ∧ (∀ y, y ∈ ns → y ≤ m) ∧ R (IV m)
  | _ => False
def oMinL : DOC := fun xs R => match xs with
  | [.dat (.list ds)] => ∃ (ns : List Int) (m : Int), ds = ns.map .int ∧ m ∈ ns ∧ (∀ y, y ∈ ns → m ≤ y) ∧ R (IV m)
  | _ => False
end Sx

set_option Elab.async false
set_option linter.all false
set_option maxRecDepth 100000
set_option maxHeartbeats 2000000
namespace Sx
open PySem L2
section
variable {X : Cx} {e : Expr} {tl : DTA} {tt : DTB} {tb : DT} {ts : DTS}
end
end Sx

set_option Elab.async false
set_option linter.all false
set_option maxRecDepth 100000
set_option maxHeartbeats 2000000
namespace Sx
open PySem L2
section
variable {X : Cx} {e : Expr} {ta : DT} {tt : DTB} {tb : DT}
end
end Sx

set_option Elab.async false
set_option linter.all false
set_option maxRecDepth 100000
set_option maxHeartbeats 2000000
namespace Sx
open PySem L2 PySem.Calls
def pR3 {α : Type} : List α → List α
  | [a, b, c] => [c, b, a]
  | l => l
def pR4 {α : Type} : List α → List α
  | [a, b, c, d] => [d, c, b, a]
  | l => l
def pR5 {α : Type} : List α → List α
  | [a, b, c, d, e] => [e, d, c, b, a]
  | l => l
section
variable {X : Cx} {e : Expr} {pos : Pos} {ta : DT} {T : String}
/-- yes: just of that class -/
def dIsi (T : String) (ta : DT) : DT := fun env n R => ta env n fun d n1 => match d with
  | .dat d => tyD d = T ∧ R (BV true) n1
  | _ => False
def L4 (a b c d : Int) : Nat := ((a.natAbs.lcm b.natAbs).lcm c.natAbs).lcm d.natAbs
def oLcm4 : DOC := fun xs R => match xs with
  | [.dat (.int a), .dat (.int b), .dat (.int c), .dat (.int d)] => (a.natAbs < 2 ^ 500 ∧ b.natAbs < 2 ^ 500 ∧ c.natAbs < 2 ^ 500 ∧ d.natAbs < 2 ^ 500) ∧ R (IV (L4 a b c d : Nat))
  | _ => False
end
end Sx

set_option Elab.async false
set_option linter.all false
set_option maxRecDepth 100000
set_option maxHeartbeats 2000000
namespace Sx
open PySem L2
section
variable {K : PySem.W.Frag} {ta : DT} {tl : DTA}
end
section
variable {X : Cx} {e a b : Expr} {pos p2 : Pos} {ta tb : DT} {lo hi : Option Expr} {dl du : DTO}
/-- any slice of a tuple -/
def dSliceA (t : DT) (lo hi : DTO) : DT := fun env n R => t env n fun d n1 => lo env n1 fun l n2 => hi env n2 fun u n3 => match d with
  | .dat (.tuple ds) => R (TV (cutD ds l u)) n3
  | _ => False
/-- the sum of any two tuples -/
def oCatA : DO2 := fun x y R => match x, y with
  | .dat (.tuple ds), .dat (.tuple fs) => ds.length ≤ 100000 ∧ fs.length ≤ 100000 ∧ R (TV (ds ++ fs))
  | _, _ => False
end
end Sx

set_option Elab.async false
set_option linter.all false
set_option maxRecDepth 100000
set_option maxHeartbeats 2000000
namespace Sx
open PySem L2 PySem.Spec
open PyProof.Rows hiding St
section
variable {X : Cx} {e : Expr} {tl : DTA} {tt : DTB} {tb : DT}
end
end Sx

set_option Elab.async false
set_option linter.all false
set_option maxRecDepth 100000
set_option maxHeartbeats 2000000
namespace Sx
open PySem L2
section
variable {X : Cx} {ta : DT} {tl : DTA} {st : Stmt}
/-- x, y = e, [..] -/
def dParDX (i j : Nat) (ta : DT) (tl : DTA) : DTS := fun F env n => ta env n fun d n1 => tl env n1 fun xs n2 => match allD xs with
  | some ds => ds.length ≤ 1000 ∧ F.nx ((env.set i (some d)).set j (some (.own ds))) n2
  | none => False
theorem dParDX_ap (i j : Nat) (ta : DT) (tl : DTA) (F : DEnds) (env : En) (n : Nat) : dParDX i j ta tl F env n = ta env n fun d n1 => tl env n1 fun xs n2 => match allD xs with
  | some ds => ds.length ≤ 1000 ∧ F.nx ((env.set i (some d)).set j (some (.own ds))) n2
  | none => False := propext Iff.rfl
end
end Sx

set_option Elab.async false
set_option linter.all false
set_option maxRecDepth 100000
set_option maxHeartbeats 2000000
namespace Sx
open PySem L2
section
variable {X : Cx} {e a b : Expr} {ta tb : DT} {st : Stmt} {pos : Pos}
/-- x = y = e -/
def dAsg2 (i j : Nat) (t : DT) : DTS := fun F env n => t env n fun d n1 => F.nx ((env.set i (some d)).set j (some d)) n1
theorem dAsg2_ap (i j : Nat) (t : DT) (F : DEnds) (env : En) (n : Nat) : dAsg2 i j t F env n = t env n fun d n1 => F.nx ((env.set i (some d)).set j (some d)) n1 := propext Iff.rfl
/-- a list, a tuple as a test -/
def dTru (t : DT) : DTB := fun env n R => t env n fun d n1 => match d with
  | .dat (.list ds) => R (!ds.isEmpty) n1
  | .dat (.tuple ds) => R (!ds.isEmpty) n1
  | _ => False
theorem dTruL_ap (t : DT) (env : En) (n : Nat) (R : Bool → Nat → Prop) : dTru t env n R = t env n fun d n1 => match d with
  | .dat (.list ds) => R (!ds.isEmpty) n1
  | .dat (.tuple ds) => R (!ds.isEmpty) n1
  | _ => False := propext Iff.rfl
/-- x = x + e, x an own list before and behind -/
def dCatOwn (i : Nat) (tb : DT) : DTS := fun F env n => match env[i]? with
  | some (some (.own ds)) => tb env n fun d n1 => match d with
    | .dat (.list es) => ds.length ≤ 100000 ∧ es.length ≤ 100000 ∧ F.nx (env.set i (some (.own (ds ++ es)))) n1
    | _ => False
  | _ => False
/-- a tuple told several times -/
def oRepT : DO2 := fun x y R => match x, y with
  | .dat (.tuple ds), .dat (.int k) => ds ≠ [] ∧ 2 ≤ k ∧ k ≤ 1000 ∧ ds.length ≤ 1000 ∧ R (TV (List.replicate k.toNat ds).flatten)
  | _, _ => False
theorem oRepT_ap (ds : List PyData) (k : Int) (R : DV → Prop) : oRepT (.dat (.tuple ds)) (.dat (.int k)) R = (ds ≠ [] ∧ 2 ≤ k ∧ k ≤ 1000 ∧ ds.length ≤ 1000 ∧ R (TV (List.replicate k.toNat ds).flatten)) := propext Iff.rfl
theorem dCatOwn_ap (i : Nat) (tb : DT) (F : DEnds) (env : En) (n : Nat) : dCatOwn i tb F env n = (match env[i]? with
  | some (some (.own ds)) => tb env n fun d n1 => match d with
    | .dat (.list es) => ds.length ≤ 100000 ∧ es.length ≤ 100000 ∧ F.nx (env.set i (some (.own (ds ++ es)))) n1
    | _ => False
  | _ => False) := propext Iff.rfl
end
end Sx

set_option Elab.async false
set_option linter.all false
set_option maxRecDepth 100000
set_option maxHeartbeats 2000000
namespace Sx
open PySem L2 PySem.Spec
open PyProof.Rows hiding St
set_option maxHeartbeats 1000000 in
section
variable {X : Cx} {e : Expr} {tl : DTA} {tt : DTB} {tb : DT}
end
end Sx

set_option Elab.async false
set_option linter.all false
set_option maxRecDepth 100000
set_option maxHeartbeats 2000000
namespace Sx
open PySem L2
/-- while tt: tb, a measure going down -/
def dWhile (tt : DTB) (tb : DTS) : DTS := fun F env n => ∃ I : Nat → En → Nat → Prop, (∃ m, I m env n) ∧
  ∀ m env n, I m env n → tt env n fun b n1 => if b = true then tb { F with nx := fun env' n' => ∃ m', m' < m ∧ I m' env' n', ct := fun env' n' => ∃ m', m' < m ∧ I m' env' n', bk := F.nx } env n1 else F.nx env n1
section
variable {X : Cx} {tt : DTB} {ts : DTS}
theorem fs_while {st : Stmt} (h : PS X st (tWhile (cT tt) (cS ts))) : FS X st (dWhile tt ts) := FS.of h fun c M σ H env n F E S q k => by
  obtain ⟨I, ⟨m0, i0⟩, iS⟩ := q
  refine ⟨fun m σ H => ∃ M env n, Sta c M σ H env n ∧ I m env n, ⟨m0, M, env, n, S, i0⟩, ?_⟩
  rintro m σ' H' ⟨M', env', n', S', hI⟩
  refine goT S' (iS m env' n' hI) fun b H1 n1 e1 w1 q1 => ?_
  cases b with
  | true =>
    rw [if_pos rfl] at q1 ⊢
    refine ⟨fun σ2 H2 => ∃ m', m' < m ∧ ∃ M env n, Sta c M σ2 H2 env n ∧ I m' env n, fun σ2 H2 h => h, ?_⟩
    exact goS (S'.step e1 w1) q1 ⟨fun M2 σ2 H2 env2 n2 S2 ⟨m', hm, h2⟩ => ⟨m', hm, M2, env2, n2, S2, h2⟩, k.nx, fun M2 σ2 H2 env2 n2 S2 ⟨m', hm, h2⟩ => ⟨m', hm, M2, env2, n2, S2, h2⟩, k.rt⟩
  | false =>
    rw [if_neg Bool.false_ne_true] at q1 ⊢
    exact k.nx M' σ' H1 env' n1 (S'.step e1 w1) q1
end
def oOdd : DO2 := fun x y R => match x, y with
  | .dat (.int i), .dat (.int j) => 0 ≤ i ∧ j = 1 ∧ R (IV (i % 2))
  | _, _ => False
def oHalf : DO2 := fun x y R => match x, y with
  | .dat (.int i), .dat (.int j) => 0 ≤ i ∧ j = 1 ∧ R (IV (i / 2))
  | _, _ => False
theorem ok_odd : OkO (fun x y H Q => ∃ n : Nat, x = .int (n : Int) ∧ y = .int 1 ∧ Q (.int ((n % 2 : Nat) : Int)) H) oOdd := fun c M H x y d f n R Q hd hr w hx hy h k => by
  unfold oOdd at h
  split at h
  · rename_i i j
    cases hx
    cases hy
    obtain ⟨h0, rfl, q⟩ := h
    obtain ⟨m, rfl⟩ := Int.eq_ofNat_of_zero_le h0
    exact ⟨m, rfl, rfl, k _ H (IV ((m % 2 : Nat) : Int)) (Ext.rfl' H) w (.int _) (by rw [Int.natCast_emod]; exact q)⟩
  · exact h.elim
theorem ok_half : OkO (fun x y H Q => ∃ n : Nat, x = .int (n : Int) ∧ y = .int 1 ∧ Q (.int ((n / 2 : Nat) : Int)) H) oHalf := fun c M H x y d f n R Q hd hr w hx hy h k => by
  unfold oHalf at h
  split at h
  · rename_i i j
    cases hx
    cases hy
    obtain ⟨h0, rfl, q⟩ := h
    obtain ⟨m, rfl⟩ := Int.eq_ofNat_of_zero_le h0
    exact ⟨m, rfl, rfl, k _ H (IV ((m / 2 : Nat) : Int)) (Ext.rfl' H) w (.int _) (by rw [Int.natCast_ediv]; exact q)⟩
  · exact h.elim
section
variable {X : Cx} {a b : Expr} {ta tb : DT} {pos : Pos}
theorem fe_odd (ha : FE X a ta) (hb : FE X b tb) : FE X (.BinOp a .BitAnd b pos) (dOp oOdd ta tb) := fe_op op_odd ok_odd ha hb
theorem fe_half (ha : FE X a ta) (hb : FE X b tb) : FE X (.BinOp a .RShift b pos) (dOp oHalf ta tb) := fe_op op_halfN ok_half ha hb
end
theorem oOdd_ap (i j : Int) (R : DV → Prop) : oOdd (.dat (.int i)) (.dat (.int j)) R = (0 ≤ i ∧ j = 1 ∧ R (IV (i % 2))) := propext Iff.rfl
theorem oHalf_ap (i j : Int) (R : DV → Prop) : oHalf (.dat (.int i)) (.dat (.int j)) R = (0 ≤ i ∧ j = 1 ∧ R (IV (i / 2))) := propext Iff.rfl
end Sx

namespace Sx
/-- below 2 ^ k -/
def B (k n : Nat) : Prop := n < 2 ^ k
theorem B.mono {k l n : Nat} (h : B k n) (e : k ≤ l) : B l n := Nat.lt_of_lt_of_le h (Nat.pow_le_pow_right (by decide) e)
theorem B.le {k m n : Nat} (h : B k n) (e : m ≤ n) : B k m := Nat.lt_of_le_of_lt e h
theorem B.mul {a b m n : Nat} (h : B a m) (g : B b n) : B (a + b) (m * n) := by
  unfold B at *
  rw [Nat.pow_add]
  exact Nat.mul_lt_mul'' h g
theorem B.add {a b m n : Nat} (h : B a m) (g : B b n) : B (a + b + 1) (m + n) := by
  unfold B at *
  have h1 : 2 ^ a ≤ 2 ^ (a + b) := Nat.pow_le_pow_right (by decide) (by omega)
  have h2 : 2 ^ b ≤ 2 ^ (a + b) := Nat.pow_le_pow_right (by decide) (by omega)
  rw [Nat.pow_succ]
  omega
theorem B.add2 {k m n : Nat} (h : B k m) (g : B k n) : B (k + 1) (m + n) := by
  unfold B at *
  rw [Nat.pow_succ]
  omega
theorem B.of {k n : Nat} (h : n < 2 ^ k) : B k n := h
/-- a quotient in lowest terms -/
theorem red {a b : Int} (hb : 0 < b) : ((a : Rat) / (b : Rat)).num = a / (Nat.gcd a.natAbs b.natAbs : Nat) ∧ ((((a : Rat) / (b : Rat)).den : Nat) : Int) = b / (Nat.gcd a.natAbs b.natAbs : Nat) := by
  obtain ⟨n, rfl⟩ : ∃ n : Nat, b = (n : Int) := ⟨b.toNat, by omega⟩
  have e : (a : Rat) / ((n : Int) : Rat) = mkRat a n := by rw [Rat.mkRat_eq_div]; rfl
  have nz : n ≠ 0 := by omega
  rw [e]
  have e2 : mkRat a n = Rat.normalize a n nz := by rw [Rat.mkRat_def, dif_neg nz]
  rw [e2, Rat.normalize_eq]
  refine ⟨rfl, ?_⟩
  simp only [Int.natAbs_natCast]
  rw [Int.natCast_ediv]
theorem den_pos (q : Rat) : 0 < (q.den : Int) := by have := q.den_pos; omega
theorem den_ne (q : Rat) : ((q.den : Int) : Rat) ≠ 0 := by
  intro z
  have := den_pos q
  have z2 : (q.den : Int) = 0 := by exact_mod_cast z
  omega
theorem as_div (q : Rat) : q = ((q.num : Int) : Rat) / ((q.den : Int) : Rat) := by
  have h := Rat.mkRat_self q
  rw [Rat.mkRat_eq_div] at h
  exact h.symm
theorem add_div' (p q : Rat) : ((p.num * q.den + q.num * p.den : Int) : Rat) / ((p.den * q.den : Int) : Rat) = p + q := by
  have h1 := den_ne p
  have h2 := den_ne q
  have e1 := as_div p
  have e2 := as_div q
  rw [Rat.intCast_add, Rat.intCast_mul, Rat.intCast_mul, Rat.intCast_mul]
  generalize ((p.num : Int) : Rat) = a at *
  generalize ((p.den : Int) : Rat) = b at *
  generalize ((q.num : Int) : Rat) = c at *
  generalize ((q.den : Int) : Rat) = d at *
  subst e1 e2
  grind
theorem sub_div' (p q : Rat) : ((p.num * q.den - q.num * p.den : Int) : Rat) / ((p.den * q.den : Int) : Rat) = p - q := by
  have h1 := den_ne p
  have h2 := den_ne q
  have e1 := as_div p
  have e2 := as_div q
  rw [Rat.intCast_sub, Rat.intCast_mul, Rat.intCast_mul, Rat.intCast_mul]
  generalize ((p.num : Int) : Rat) = a at *
  generalize ((p.den : Int) : Rat) = b at *
  generalize ((q.num : Int) : Rat) = c at *
  generalize ((q.den : Int) : Rat) = d at *
  subst e1 e2
  grind
theorem mul_div' (p q : Rat) : ((p.num * q.num : Int) : Rat) / ((p.den * q.den : Int) : Rat) = p * q := by
  have h1 := den_ne p
  have h2 := den_ne q
  have e1 := as_div p
  have e2 := as_div q
  rw [Rat.intCast_mul, Rat.intCast_mul]
  generalize ((p.num : Int) : Rat) = a at *
  generalize ((p.den : Int) : Rat) = b at *
  generalize ((q.num : Int) : Rat) = c at *
  generalize ((q.den : Int) : Rat) = d at *
  subst e1 e2
  grind
theorem num_pos_iff (q : Rat) : 0 < q.num ↔ 0 < q := by
  rw [Rat.lt_iff]
  simp
theorem div_div' (p q : Rat) (hq : 0 < q) : ((p.num * q.den : Int) : Rat) / ((p.den * q.num : Int) : Rat) = p / q := by
  have h1 := den_ne p
  have h2 := den_ne q
  have h3 : ((q.num : Int) : Rat) ≠ 0 := by
    intro z
    have := (num_pos_iff q).2 hq
    have z2 : q.num = 0 := by exact_mod_cast z
    omega
  have e1 := as_div p
  have e2 := as_div q
  clear hq
  rw [Rat.intCast_mul, Rat.intCast_mul]
  generalize ((p.num : Int) : Rat) = a at *
  generalize ((p.den : Int) : Rat) = b at *
  generalize ((q.num : Int) : Rat) = c at *
  generalize ((q.den : Int) : Rat) = d at *
  subst e1 e2
  grind
/-- a fraction of fewer than k bits above and below -/
structure Sz (k : Nat) (q : Rat) : Prop where
  n : B k q.num.natAbs
  d : B k q.den
theorem Sz.mono {k l : Nat} {q : Rat} (h : Sz k q) (e : k ≤ l) : Sz l q := ⟨h.n.mono e, h.d.mono e⟩
theorem ediv_natAbs_le (a : Int) (g : Nat) : (a / (g : Int)).natAbs ≤ a.natAbs := by
  cases g with
  | zero => simp
  | succ g =>
    have h := Int.natAbs_ediv_le_natAbs a ((g + 1 : Nat) : Int)
    exact h
theorem Sz.of_div {k : Nat} {a b : Int} (hb : 0 < b) (ha : B k a.natAbs) (h : B k b.natAbs) : Sz k ((a : Rat) / (b : Rat)) := by
  obtain ⟨e1, e2⟩ := red (a := a) hb
  constructor
  · rw [e1]; exact ha.le (ediv_natAbs_le _ _)
  · refine h.le ?_
    have := ediv_natAbs_le b (Nat.gcd a.natAbs b.natAbs)
    rw [← e2] at this
    omega
theorem mul_pos' {a b : Int} (h : 0 < a) (g : 0 < b) : 0 < a * b := Int.mul_pos h g
theorem natAbs_mul_B {a b : Nat} {x y : Int} (h : B a x.natAbs) (g : B b y.natAbs) : B (a + b) (x * y).natAbs := by rw [Int.natAbs_mul]; exact h.mul g
theorem natAbs_add_B {a b : Nat} {x y : Int} (h : B a x.natAbs) (g : B b y.natAbs) : B (a + b + 1) (x + y).natAbs := (h.add g).le (by omega)
theorem natAbs_sub_B {a b : Nat} {x y : Int} (h : B a x.natAbs) (g : B b y.natAbs) : B (a + b + 1) (x - y).natAbs := (h.add g).le (by omega)
theorem den_B {k : Nat} {q : Rat} (h : Sz k q) : B k ((q.den : Nat) : Int).natAbs := by simpa using h.d
theorem Sz.mul {a b : Nat} {p q : Rat} (h : Sz a p) (g : Sz b q) : Sz (a + b) (p * q) := by
  rw [← mul_div']
  exact Sz.of_div (mul_pos' (den_pos p) (den_pos q)) (natAbs_mul_B h.n g.n) (natAbs_mul_B (den_B h) (den_B g))
theorem natAbs_add_B2 {k : Nat} {x y : Int} (h : B k x.natAbs) (g : B k y.natAbs) : B (k + 1) (x + y).natAbs := (h.add2 g).le (by omega)
theorem natAbs_sub_B2 {k : Nat} {x y : Int} (h : B k x.natAbs) (g : B k y.natAbs) : B (k + 1) (x - y).natAbs := (h.add2 g).le (by omega)
theorem Sz.add {a b : Nat} {p q : Rat} (h : Sz a p) (g : Sz b q) : Sz (a + b + 1) (p + q) := by
  rw [← add_div']
  refine Sz.of_div (mul_pos' (den_pos p) (den_pos q)) (natAbs_add_B2 (natAbs_mul_B h.n (den_B g)) ((natAbs_mul_B g.n (den_B h)).mono (by omega))) ((natAbs_mul_B (den_B h) (den_B g)).mono (by omega))
theorem Sz.sub {a b : Nat} {p q : Rat} (h : Sz a p) (g : Sz b q) : Sz (a + b + 1) (p - q) := by
  rw [← sub_div']
  refine Sz.of_div (mul_pos' (den_pos p) (den_pos q)) (natAbs_sub_B2 (natAbs_mul_B h.n (den_B g)) ((natAbs_mul_B g.n (den_B h)).mono (by omega))) ((natAbs_mul_B (den_B h) (den_B g)).mono (by omega))
theorem Sz.div {a b : Nat} {p q : Rat} (h : Sz a p) (g : Sz b q) (hq : 0 < q) : Sz (a + b) (p / q) := by
  rw [← div_div' p q hq]
  exact Sz.of_div (mul_pos' (den_pos p) ((num_pos_iff q).2 hq)) (natAbs_mul_B h.n (den_B g)) (natAbs_mul_B (den_B h) g.n)
theorem Sz.neg {a : Nat} {p : Rat} (h : Sz a p) : Sz a (-p) := ⟨by rw [Rat.neg_num]; simpa using h.n, by rw [Rat.neg_den]; exact h.d⟩
theorem lt_num (p q : Rat) : p.num * q.den < q.num * p.den ↔ p < q := (Rat.lt_iff p q).symm
end Sx

set_option Elab.async false
set_option linter.all false
set_option maxRecDepth 100000
set_option maxHeartbeats 4000000
namespace Sx
open PySem PySem.Spec L2
theorem atI_0 {α : Type} (x : α) (r : List α) : atI (x :: r) 0 = some x := atI_nat (j := 0) rfl
theorem atI_1 {α : Type} (x y : α) (r : List α) : atI (x :: y :: r) 1 = some y := atI_nat (j := 1) rfl
theorem atI_2 {α : Type} (x y z : α) (r : List α) : atI (x :: y :: z :: r) 2 = some z := atI_nat (j := 2) rfl
theorem atI_3 {α : Type} (x y z u : α) (r : List α) : atI (x :: y :: z :: u :: r) 3 = some u := atI_nat (j := 3) rfl
/-- a fraction -/
def fr (q : Rat) : PyData := .tuple [.int q.num, .int q.den]
abbrev FV (q : Rat) : DV := .dat (fr q)
theorem ixT_tup (ds : List PyData) (i : Int) (f : DV → Prop) : oIxT (.dat (.tuple ds)) (.dat (.int i)) f = (match atI ds i with | some d => f (.dat d) | none => False) := rfl
theorem ixL_lst (ds : List PyData) (i : Int) (f : DV → Prop) : oIxL (.dat (.list ds)) (.dat (.int i)) f = (match atI ds i with | some d => f (.dat d) | none => False) := rfl
theorem isNone_fr (q : Rat) : isNone (fr q) = false := rfl
theorem isNone_non : isNone .none = true := rfl
theorem isNone_tup (ds : List PyData) : isNone (.tuple ds) = false := rfl
theorem isNone_list (ds : List PyData) : isNone (.list ds) = false := rfl
theorem isNone_int (i : Int) : isNone (.int i) = false := rfl
theorem isNone_bool (i : Bool) : isNone (.bool i) = false := rfl
theorem fr_at0 (q : Rat) (f : DV → Prop) : oIxT (.dat (fr q)) (.dat (.int 0)) f = f (IV q.num) := by
  show (match atI [PyData.int q.num, PyData.int q.den] 0 with | some d => f (.dat d) | none => False) = _
  rw [atI_0]
theorem fr_at1 (q : Rat) (f : DV → Prop) : oIxT (.dat (fr q)) (.dat (.int 1)) f = f (IV q.den) := by
  show (match atI [PyData.int q.num, PyData.int q.den] 1 with | some d => f (.dat d) | none => False) = _
  rw [atI_1]
/-- ints that are multiplied, divided by -/
theorem mulB {a b : Nat} {i j : Int} (h : B a i.natAbs) (g : B b j.natAbs) (e : a + b ≤ 900000) : CMulW i j := wide_mul (Nat.lt_of_lt_of_le h (Nat.pow_le_pow_right (by decide) (Nat.le_succ a))) (Nat.lt_of_lt_of_le g (Nat.pow_le_pow_right (by decide) (Nat.le_succ b))) (Nat.succ_pos _) (Nat.succ_pos _) (by omega)
theorem logB {k n : Nat} (h : B k n) (e : k < 9000) : n.log2 < 9000 := by
  by_cases z : n = 0
  · subst z; decide
  · exact (Nat.log2_lt z).2 (Nat.lt_of_lt_of_le h (Nat.pow_le_pow_right (by decide) (by omega)))
theorem divB {b : Nat} {i j : Int} (h : 0 < j) (g : B b j.natAbs) (e : b < 9000) : CDivW i j := ⟨h, logB g e⟩
theorem eqv_int (i j : Int) : PyData.eqv (.int i) (.int j) = (i == j) := by simp only [PyData.eqv]
theorem shaped_int (i : Int) : SeqAt.shaped (.int i) = true := by
  unfold SeqAt.shaped
  simp only [PyData.canLay0, PyData.depth]
  rfl
def s_reduced : DSp := fun ds n R => ∃ a b : Int, ds = [IV a, IV b] ∧ 0 < b ∧ B 8500 a.natAbs ∧ B 8500 b.natAbs ∧ R (FV ((a : Rat) / (b : Rat))) n
/-- reduced. Slots: above, below, divisor -/
def t_reduced : DTS :=
  (dSeq (dAsg 2 (dCB oGcd (dCons (dVar 0) (dCons (dVar 1) dNil))))
  (dSeq (dIfS (dTest (dOp oLt (dVar 1) (dC (.int 0)))) (dAsg 2 (dUn oNeg (dVar 2))) dNext)
  (dRet (dTup (dCons (dOp oDiv (dVar 0) (dVar 2)) (dCons (dOp oDiv (dVar 1) (dVar 2)) dNil))))))
theorem gcd_pos {a b : Int} (h : 0 < b) : 0 < ((Nat.gcd a.natAbs b.natAbs : Nat) : Int) := by
  have := Nat.gcd_pos_of_pos_right a.natAbs (show 0 < b.natAbs by omega)
  omega
theorem gcd_B {k : Nat} {a b : Int} (h : 0 < b) (g : B k b.natAbs) : B k (((Nat.gcd a.natAbs b.natAbs : Nat) : Int)).natAbs := by
  refine g.le ?_
  have := Nat.gcd_le_right a.natAbs (show 0 < b.natAbs by omega)
  simpa using this
theorem p_reduced (ds : List DV) (n : Nat) (R : DV → Nat → Prop) (h : s_reduced ds n R) : t_reduced { nx := fun _ n => R (.dat .none) n, rt := R } (entry 3 ds) n := by
  obtain ⟨a, b, rfl, hb, ha, hb2, q⟩ := h
  have nb : ¬ b < 0 := by omega
  simp only [t_reduced, dSliceA, oCatA, dIsi, pR3, pR4, pR5, dSeq, dAsg, dVar, dC, dOp, dUn, dCB, dCall, dCallK, pId, pRev, dCons, dNil, dTup, dLst, dRet, dRetN, dIfS, dTest, dNot, dAnd, dOr, dIf, dAndV, dOrV, dNotV, dNext, dDrop, dUnp, setAll, dPar, dPar3, dTy, tyD, dChain, dChain3, oI, oI0, oGcd, oLen, oAbs, oInt, ixT_tup, ixL_lst, fr_at0, fr_at1, oNeg, oEq, oNe, oRepr, oEqS, oCat, oRepL, allD, dSliceL, dSliceT, oCatT, oIsN, oNotN, isNone_fr, isNone_non, isNone_tup, isNone_list, isNone_int, isNone_bool, dPart, dNoPart, dAsgOwn, dFreeze, dParO2, dParO3, dPeekT, dPeekI, dYes, oSum, oTupOf, oMin, oIsB, oNotB, oMax, oMinL, dParOD, dParDO, dAppend, entry, atI_0, atI_1, atI_2, atI_3, List.map_cons, List.map_nil, List.length_cons, List.length_nil, List.set_cons_zero, List.set_cons_succ, List.getElem?_cons_zero, List.getElem?_cons_succ, List.cons_append, List.nil_append, Nat.reduceAdd, Nat.reduceSub, Nat.reduceLeDiff, List.replicate, Bool.false_eq_true, if_false, if_true, ite_true, ite_false, true_and, and_true, Bool.not_true, Bool.not_false, decide_true, decide_false, nb]
  have g0 := gcd_pos (a := a) hb
  have gB := gcd_B (a := a) hb hb2
  refine ⟨divB g0 gB (by decide), divB g0 gB (by decide), ?_⟩
  obtain ⟨e1, e2⟩ := red (a := a) hb
  rw [← e1, ← e2]
  exact q
abbrev Goal (t : DTS) (m : Nat) (ds : List DV) (n : Nat) (R : DV → Nat → Prop) : Prop := t { nx := fun _ n => R (.dat .none) n, rt := R } (entry m ds) n
structure Bd (q : Rat) : Prop where
  lo : -1000000000000000000000000000000 ≤ q.num
  hi : q.num ≤ 1000000000000000000000000000000
  d : (q.den : Int) ≤ 1000000000000000000000000000000
theorem Bd.sz {q : Rat} (h : Bd q) : Sz 100 q := by
  have e : (2 : Nat) ^ 100 = 1267650600228229401496703205376 := by decide
  obtain ⟨h1, h2, h3⟩ := h
  constructor
  · unfold B
    rw [e]
    omega
  · unfold B
    rw [e]
    omega
theorem Sz.bd {q : Rat} (h : Sz 99 q) : Bd q := by
  have e : (2 : Nat) ^ 99 = 633825300114114700748351602688 := by decide
  obtain ⟨h1, h2⟩ := h
  unfold B at h1 h2
  rw [e] at h1 h2
  exact ⟨by omega, by omega, by omega⟩
def s_is_integer : DSp := fun ds n R => ∃ i : Int, ds = [IV i] ∧ R (BV true) n
def s_is_fraction : DSp := fun ds n R => ∃ q : Rat, ds = [FV q] ∧ Bd q ∧ R (BV true) n
/-- is_integer. Slots: value -/
def t_is_integer : DTS :=
  (dRet (dTy "int" true (dVar 0)))
/-- is_fraction. Slots: value, above, below -/
def t_is_fraction : DTS :=
  (dSeq (dIfS (dOr (dTest (dTy "tuple" false (dVar 0))) (dTest (dOp oNe (dCB oLen (dCons (dVar 0) dNil)) (dC (.int 2))))) (dRet (dC (.bool false))) dNext)
  (dSeq (dUnp [1, 2] (dVar 0))
  (dSeq (dIfS (dOr (dNot (dTest (dCall s_is_integer (dCons (dVar 1) dNil)))) (dNot (dTest (dCall s_is_integer (dCons (dVar 2) dNil))))) (dRet (dC (.bool false))) dNext)
  (dRet (dAndV (dChain oLe oLe (dUn oNeg (dC (.int 1000000000000000000000000000000))) (dVar 1) (dC (.int 1000000000000000000000000000000))) (dAndV (dChain oLe oLe (dC (.int 1)) (dVar 2) (dC (.int 1000000000000000000000000000000))) (dOp oEq (dCB oGcd (dCons (dVar 1) (dCons (dVar 2) dNil))) (dC (.int 1)))))))))
theorem p_is_integer (ds : List DV) (n : Nat) (R : DV → Nat → Prop) (h : s_is_integer ds n R) : Goal t_is_integer 1 ds n R := by
  obtain ⟨i, rfl, k⟩ := h
  simp only [Goal, t_is_integer, dSliceA, oCatA, dIsi, pR3, pR4, pR5, dSeq, dAsg, dVar, dC, dOp, dUn, dCB, dCall, dCallK, pId, pRev, dCons, dNil, dTup, dLst, dRet, dRetN, dIfS, dTest, dNot, dAnd, dOr, dIf, dAndV, dOrV, dNotV, dNext, dDrop, dUnp, setAll, dPar, dPar3, dTy, tyD, dChain, dChain3, oI, oI0, oGcd, oLen, oAbs, oInt, ixT_tup, ixL_lst, fr_at0, fr_at1, oNeg, oEq, oNe, oRepr, oEqS, oCat, oRepL, allD, dSliceL, dSliceT, oCatT, oIsN, oNotN, isNone_fr, isNone_non, isNone_tup, isNone_list, isNone_int, isNone_bool, dPart, dNoPart, dAsgOwn, dFreeze, dParO2, dParO3, dPeekT, dPeekI, dYes, oSum, oTupOf, oMin, oIsB, oNotB, oMax, oMinL, dParOD, dParDO, dAppend, entry, atI_0, atI_1, atI_2, atI_3, List.map_cons, List.map_nil, List.length_cons, List.length_nil, List.set_cons_zero, List.set_cons_succ, List.getElem?_cons_zero, List.getElem?_cons_succ, List.cons_append, List.nil_append, Nat.reduceAdd, Nat.reduceSub, Nat.reduceLeDiff, List.replicate, Bool.false_eq_true, if_false, if_true, ite_true, ite_false, true_and, and_true, Bool.not_true, Bool.not_false, decide_true, decide_false]
  exact k
theorem gcd_one (q : Rat) : Nat.gcd q.num.natAbs ((q.den : Nat) : Int).natAbs = 1 := by
  have h := q.reduced
  simpa using h
theorem p_is_fraction (ds : List DV) (n : Nat) (R : DV → Nat → Prop) (h : s_is_fraction ds n R) : Goal t_is_fraction 3 ds n R := by
  obtain ⟨q, rfl, b, k⟩ := h
  have dp : (1 : Int) ≤ q.den := den_pos q
  simp only [Goal, t_is_fraction, fr, dSliceA, oCatA, dIsi, pR3, pR4, pR5, dSeq, dAsg, dVar, dC, dOp, dUn, dCB, dCall, dCallK, pId, pRev, dCons, dNil, dTup, dLst, dRet, dRetN, dIfS, dTest, dNot, dAnd, dOr, dIf, dAndV, dOrV, dNotV, dNext, dDrop, dUnp, setAll, dPar, dPar3, dTy, tyD, dChain, dChain3, oI, oI0, oGcd, oLen, oAbs, oInt, ixT_tup, ixL_lst, fr_at0, fr_at1, oNeg, oEq, oNe, oRepr, oEqS, oCat, oRepL, allD, dSliceL, dSliceT, oCatT, oIsN, oNotN, isNone_fr, isNone_non, isNone_tup, isNone_list, isNone_int, isNone_bool, dPart, dNoPart, dAsgOwn, dFreeze, dParO2, dParO3, dPeekT, dPeekI, dYes, oSum, oTupOf, oMin, oIsB, oNotB, oMax, oMinL, dParOD, dParDO, dAppend, entry, atI_0, atI_1, atI_2, atI_3, List.map_cons, List.map_nil, List.length_cons, List.length_nil, List.set_cons_zero, List.set_cons_succ, List.getElem?_cons_zero, List.getElem?_cons_succ, List.cons_append, List.nil_append, Nat.reduceAdd, Nat.reduceSub, Nat.reduceLeDiff, List.replicate, Bool.false_eq_true, if_false, if_true, ite_true, ite_false, true_and, and_true, Bool.not_true, Bool.not_false, decide_true, decide_false, shaped_int, eqv_int]
  refine ⟨_, rfl, ?_⟩
  simp only [dSliceA, oCatA, dIsi, pR3, pR4, pR5, dSeq, dAsg, dVar, dC, dOp, dUn, dCB, dCall, dCallK, pId, pRev, dCons, dNil, dTup, dLst, dRet, dRetN, dIfS, dTest, dNot, dAnd, dOr, dIf, dAndV, dOrV, dNotV, dNext, dDrop, dUnp, setAll, dPar, dPar3, dTy, tyD, dChain, dChain3, oI, oI0, oGcd, oLen, oAbs, oInt, ixT_tup, ixL_lst, fr_at0, fr_at1, oNeg, oEq, oNe, oRepr, oEqS, oCat, oRepL, allD, dSliceL, dSliceT, oCatT, oIsN, oNotN, isNone_fr, isNone_non, isNone_tup, isNone_list, isNone_int, isNone_bool, dPart, dNoPart, dAsgOwn, dFreeze, dParO2, dParO3, dPeekT, dPeekI, dYes, oSum, oTupOf, oMin, oIsB, oNotB, oMax, oMinL, dParOD, dParDO, dAppend, entry, atI_0, atI_1, atI_2, atI_3, List.map_cons, List.map_nil, List.length_cons, List.length_nil, List.set_cons_zero, List.set_cons_succ, List.getElem?_cons_zero, List.getElem?_cons_succ, List.cons_append, List.nil_append, Nat.reduceAdd, Nat.reduceSub, Nat.reduceLeDiff, List.replicate, Bool.false_eq_true, if_false, if_true, ite_true, ite_false, true_and, and_true, Bool.not_true, Bool.not_false, decide_true, decide_false]
  refine ⟨_, rfl, ?_⟩
  simp only [dSliceA, oCatA, dIsi, pR3, pR4, pR5, dSeq, dAsg, dVar, dC, dOp, dUn, dCB, dCall, dCallK, pId, pRev, dCons, dNil, dTup, dLst, dRet, dRetN, dIfS, dTest, dNot, dAnd, dOr, dIf, dAndV, dOrV, dNotV, dNext, dDrop, dUnp, setAll, dPar, dPar3, dTy, tyD, dChain, dChain3, oI, oI0, oGcd, oLen, oAbs, oInt, ixT_tup, ixL_lst, fr_at0, fr_at1, oNeg, oEq, oNe, oRepr, oEqS, oCat, oRepL, allD, dSliceL, dSliceT, oCatT, oIsN, oNotN, isNone_fr, isNone_non, isNone_tup, isNone_list, isNone_int, isNone_bool, dPart, dNoPart, dAsgOwn, dFreeze, dParO2, dParO3, dPeekT, dPeekI, dYes, oSum, oTupOf, oMin, oIsB, oNotB, oMax, oMinL, dParOD, dParDO, dAppend, entry, atI_0, atI_1, atI_2, atI_3, List.map_cons, List.map_nil, List.length_cons, List.length_nil, List.set_cons_zero, List.set_cons_succ, List.getElem?_cons_zero, List.getElem?_cons_succ, List.cons_append, List.nil_append, Nat.reduceAdd, Nat.reduceSub, Nat.reduceLeDiff, List.replicate, Bool.false_eq_true, if_false, if_true, ite_true, ite_false, true_and, and_true, Bool.not_true, Bool.not_false, decide_true, decide_false, b.lo, b.hi, b.d, dp, gcd_one, shaped_int, eqv_int]
  exact k
end Sx

set_option Elab.async false
set_option linter.all false
set_option maxRecDepth 100000
set_option maxHeartbeats 4000000
namespace Sx
open PySem PySem.Spec L2
def s_is_part : DSp := fun ds n R => ∃ q : Rat, ds = [FV q] ∧ Bd q ∧ 0 < q ∧ q < 1 ∧ (q.den : Int) ≤ 1000 ∧ R (BV true) n
def s_need_part : DSp := fun ds n R => ∃ q : Rat, ds = [FV q] ∧ Bd q ∧ 0 < q ∧ q < 1 ∧ (q.den : Int) ≤ 1000 ∧ R (FV q) n
/-- is_part. Slots: value -/
def t_is_part : DTS :=
  (dRet (dAndV (dCall s_is_fraction (dCons (dVar 0) dNil)) (dChain3 oLt oLt oLe (dC (.int 0)) (dOp oIxT (dVar 0) (dC (.int 0))) (dOp oIxT (dVar 0) (dC (.int 1))) (dC (.int 1000)))))
/-- need_part. Slots: part -/
def t_need_part : DTS :=
  (dSeq (dIfS (dNot (dTest (dCall s_is_part (dCons (dVar 0) dNil)))) dNever dNext)
  (dRet (dVar 0)))
theorem num_lt_den {q : Rat} (h : q < 1) : q.num < (q.den : Int) := by
  have z := (Rat.lt_iff q 1).1 h
  simpa using z
theorem num_le_den {q : Rat} (h : q ≤ 1) : q.num ≤ (q.den : Int) := by
  have z := (Rat.le_iff (a := q) (b := 1)).1 h
  simpa using z
theorem p_is_part (ds : List DV) (n : Nat) (R : DV → Nat → Prop) (h : s_is_part ds n R) : Goal t_is_part 1 ds n R := by
  obtain ⟨q, rfl, b, q0, q1, qd, k⟩ := h
  have n0 := (num_pos_iff q).2 q0
  have n1 := num_lt_den q1
  simp only [Goal, t_is_part, dSliceA, oCatA, dIsi, pR3, pR4, pR5, dSeq, dAsg, dVar, dC, dOp, dUn, dCB, dCall, dCallK, pId, pRev, dCons, dNil, dTup, dLst, dRet, dRetN, dIfS, dTest, dNot, dAnd, dOr, dIf, dAndV, dOrV, dNotV, dNext, dDrop, dUnp, setAll, dPar, dPar3, dTy, tyD, dChain, dChain3, oI, oI0, oGcd, oLen, oAbs, oInt, ixT_tup, ixL_lst, fr_at0, fr_at1, oNeg, oEq, oNe, oRepr, oEqS, oCat, oRepL, allD, dSliceL, dSliceT, oCatT, oIsN, oNotN, isNone_fr, isNone_non, isNone_tup, isNone_list, isNone_int, isNone_bool, dPart, dNoPart, dAsgOwn, dFreeze, dParO2, dParO3, dPeekT, dPeekI, dYes, oSum, oTupOf, oMin, oIsB, oNotB, oMax, oMinL, dParOD, dParDO, dAppend, entry, atI_0, atI_1, atI_2, atI_3, List.map_cons, List.map_nil, List.length_cons, List.length_nil, List.set_cons_zero, List.set_cons_succ, List.getElem?_cons_zero, List.getElem?_cons_succ, List.cons_append, List.nil_append, Nat.reduceAdd, Nat.reduceSub, Nat.reduceLeDiff, List.replicate, Bool.false_eq_true, if_false, if_true, ite_true, ite_false, true_and, and_true, Bool.not_true, Bool.not_false, decide_true, decide_false]
  refine ⟨q, rfl, b, ?_⟩
  simp only [fr, dSliceA, oCatA, dIsi, pR3, pR4, pR5, dSeq, dAsg, dVar, dC, dOp, dUn, dCB, dCall, dCallK, pId, pRev, dCons, dNil, dTup, dLst, dRet, dRetN, dIfS, dTest, dNot, dAnd, dOr, dIf, dAndV, dOrV, dNotV, dNext, dDrop, dUnp, setAll, dPar, dPar3, dTy, tyD, dChain, dChain3, oI, oI0, oGcd, oLen, oAbs, oInt, ixT_tup, ixL_lst, fr_at0, fr_at1, oNeg, oEq, oNe, oRepr, oEqS, oCat, oRepL, allD, dSliceL, dSliceT, oCatT, oIsN, oNotN, isNone_fr, isNone_non, isNone_tup, isNone_list, isNone_int, isNone_bool, dPart, dNoPart, dAsgOwn, dFreeze, dParO2, dParO3, dPeekT, dPeekI, dYes, oSum, oTupOf, oMin, oIsB, oNotB, oMax, oMinL, dParOD, dParDO, dAppend, entry, atI_0, atI_1, atI_2, atI_3, List.map_cons, List.map_nil, List.length_cons, List.length_nil, List.set_cons_zero, List.set_cons_succ, List.getElem?_cons_zero, List.getElem?_cons_succ, List.cons_append, List.nil_append, Nat.reduceAdd, Nat.reduceSub, Nat.reduceLeDiff, List.replicate, Bool.false_eq_true, if_false, if_true, ite_true, ite_false, true_and, and_true, Bool.not_true, Bool.not_false, decide_true, decide_false, n0, n1, qd]
  exact k
theorem p_need_part (ds : List DV) (n : Nat) (R : DV → Nat → Prop) (h : s_need_part ds n R) : Goal t_need_part 1 ds n R := by
  obtain ⟨q, rfl, b, q0, q1, qd, k⟩ := h
  simp only [Goal, t_need_part, dSliceA, oCatA, dIsi, pR3, pR4, pR5, dSeq, dAsg, dVar, dC, dOp, dUn, dCB, dCall, dCallK, pId, pRev, dCons, dNil, dTup, dLst, dRet, dRetN, dIfS, dTest, dNot, dAnd, dOr, dIf, dAndV, dOrV, dNotV, dNext, dDrop, dUnp, setAll, dPar, dPar3, dTy, tyD, dChain, dChain3, oI, oI0, oGcd, oLen, oAbs, oInt, ixT_tup, ixL_lst, fr_at0, fr_at1, oNeg, oEq, oNe, oRepr, oEqS, oCat, oRepL, allD, dSliceL, dSliceT, oCatT, oIsN, oNotN, isNone_fr, isNone_non, isNone_tup, isNone_list, isNone_int, isNone_bool, dPart, dNoPart, dAsgOwn, dFreeze, dParO2, dParO3, dPeekT, dPeekI, dYes, oSum, oTupOf, oMin, oIsB, oNotB, oMax, oMinL, dParOD, dParDO, dAppend, entry, atI_0, atI_1, atI_2, atI_3, List.map_cons, List.map_nil, List.length_cons, List.length_nil, List.set_cons_zero, List.set_cons_succ, List.getElem?_cons_zero, List.getElem?_cons_succ, List.cons_append, List.nil_append, Nat.reduceAdd, Nat.reduceSub, Nat.reduceLeDiff, List.replicate, Bool.false_eq_true, if_false, if_true, ite_true, ite_false, true_and, and_true, Bool.not_true, Bool.not_false, decide_true, decide_false]
  refine ⟨q, rfl, b, q0, q1, qd, ?_⟩
  simp only [dSliceA, oCatA, dIsi, pR3, pR4, pR5, dSeq, dAsg, dVar, dC, dOp, dUn, dCB, dCall, dCallK, pId, pRev, dCons, dNil, dTup, dLst, dRet, dRetN, dIfS, dTest, dNot, dAnd, dOr, dIf, dAndV, dOrV, dNotV, dNext, dDrop, dUnp, setAll, dPar, dPar3, dTy, tyD, dChain, dChain3, oI, oI0, oGcd, oLen, oAbs, oInt, ixT_tup, ixL_lst, fr_at0, fr_at1, oNeg, oEq, oNe, oRepr, oEqS, oCat, oRepL, allD, dSliceL, dSliceT, oCatT, oIsN, oNotN, isNone_fr, isNone_non, isNone_tup, isNone_list, isNone_int, isNone_bool, dPart, dNoPart, dAsgOwn, dFreeze, dParO2, dParO3, dPeekT, dPeekI, dYes, oSum, oTupOf, oMin, oIsB, oNotB, oMax, oMinL, dParOD, dParDO, dAppend, entry, atI_0, atI_1, atI_2, atI_3, List.map_cons, List.map_nil, List.length_cons, List.length_nil, List.set_cons_zero, List.set_cons_succ, List.getElem?_cons_zero, List.getElem?_cons_succ, List.cons_append, List.nil_append, Nat.reduceAdd, Nat.reduceSub, Nat.reduceLeDiff, List.replicate, Bool.false_eq_true, if_false, if_true, ite_true, ite_false, true_and, and_true, Bool.not_true, Bool.not_false, decide_true, decide_false]
  exact k
end Sx

set_option Elab.async false
set_option linter.all false
set_option maxRecDepth 100000
set_option maxHeartbeats 4000000
namespace Sx
open PySem PySem.Spec L2
/-- _law_mixed. Slots: cell, k -/
def t__law_mixed : DTS :=
  (dSeq (dAsg 0 (dOp oMod (dCB oInt (dCons (dVar 0) dNil)) (dC (.int 2147483647))))
  (dRet (dOp oMod (dOp oMul (dOp oMod (dOp oAdd (dOp oAdd (dOp oMul (dVar 0) (dOp oAdd (dC (.int 48271)) (dOp oMul (dOp oMul (dC (.int 2)) (dVar 1)) (dVar 1)))) (dOp oMul (dC (.int 69621)) (dVar 1))) (dC (.int 11))) (dC (.int 2147483647))) (dC (.int 69621))) (dC (.int 2147483629)))))
theorem B_of {k : Nat} {i : Int} (h0 : 0 ≤ i) (h : i < 2 ^ k) : B k i.natAbs := by
  unfold B
  have e : ((2 ^ k : Nat) : Int) = (2 : Int) ^ k := by simp
  omega
theorem p__law_mixed (ds : List DV) (n : Nat) (R : DV → Nat → Prop) (h : sMixed ds n R) : Goal t__law_mixed 2 ds n R := by
  obtain ⟨c, k, rfl, h0, h1, q⟩ := h
  have a0 : 0 ≤ c % 2147483647 := Int.emod_nonneg _ (by decide)
  have a1 : c % 2147483647 < 2147483647 := Int.emod_lt_of_pos _ (by decide)
  simp only [Goal, t__law_mixed, dSliceA, oCatA, dIsi, pR3, pR4, pR5, dSeq, dAsg, dVar, dC, dOp, dUn, dCB, dCall, dCallK, pId, pRev, dCons, dNil, dTup, dLst, dRet, dRetN, dIfS, dTest, dNot, dAnd, dOr, dIf, dAndV, dOrV, dNotV, dNext, dDrop, dUnp, setAll, dPar, dPar3, dTy, tyD, dChain, dChain3, oI, oI0, oGcd, oLen, oAbs, oInt, ixT_tup, ixL_lst, fr_at0, fr_at1, oNeg, oEq, oNe, oRepr, oEqS, oCat, oRepL, allD, dSliceL, dSliceT, oCatT, oIsN, oNotN, isNone_fr, isNone_non, isNone_tup, isNone_list, isNone_int, isNone_bool, dPart, dNoPart, dAsgOwn, dFreeze, dParO2, dParO3, dPeekT, dPeekI, dYes, oSum, oTupOf, oMin, oIsB, oNotB, oMax, oMinL, dParOD, dParDO, dAppend, entry, atI_0, atI_1, atI_2, atI_3, List.map_cons, List.map_nil, List.length_cons, List.length_nil, List.set_cons_zero, List.set_cons_succ, List.getElem?_cons_zero, List.getElem?_cons_succ, List.cons_append, List.nil_append, Nat.reduceAdd, Nat.reduceSub, Nat.reduceLeDiff, List.replicate, Bool.false_eq_true, if_false, if_true, ite_true, ite_false, true_and, and_true, Bool.not_true, Bool.not_false, decide_true, decide_false]
  have hk : B 31 k.natAbs := B_of h0 (by omega)
  have h2 : B 2 (2 : Int).natAbs := B.of (by decide)
  have e1 : B 35 (2 * k).natAbs := (natAbs_mul_B h2 hk).mono (by decide)
  have e2 : B 70 (2 * k * k).natAbs := (natAbs_mul_B e1 hk).mono (by decide)
  have e3 : B 100 (48271 + 2 * k * k).natAbs := (natAbs_add_B (a := 16) (B.of (by decide)) e2).mono (by decide)
  have e4 : B 31 (c % 2147483647).natAbs := B_of a0 (by omega)
  refine ⟨by decide, mulB h2 hk (by decide), mulB e1 hk (by decide), mulB e4 e3 (by decide), mulB (a := 17) (B.of (by decide)) hk (by decide), by decide, ?_⟩
  have f0 : ∀ x : Int, 0 ≤ x % 2147483647 := fun x => Int.emod_nonneg _ (by decide)
  have f1 : ∀ x : Int, x % 2147483647 < 2147483647 := fun x => Int.emod_lt_of_pos _ (by decide)
  refine ⟨mulB (a := 31) (b := 17) (B_of (f0 _) (by have := f1 (c % 2147483647 * (48271 + 2 * k * k) + 69621 * k + 11); omega)) (B.of (by decide)) (by decide), by decide, ?_⟩
  exact q _ (Int.emod_nonneg _ (by decide)) (Int.emod_lt_of_pos _ (by decide))
/-- Euclid by turns -/
def s__law_divisor : DSp := fun ds n R => ∃ a b : Int, ds = [IV a, IV b] ∧ 0 < b ∧ B 8900 a.natAbs ∧ B 8900 b.natAbs ∧ R (IV (Nat.gcd a.natAbs b.natAbs : Nat)) n
/-- _law_divisor. Slots: one, two, step -/
def t__law_divisor : DTS :=
  (dSeq (dPar 0 1 (dCons (dCB oAbs (dCons (dVar 0) dNil)) (dCons (dCB oAbs (dCons (dVar 1) dNil)) dNil)))
  (dSeq (dForR 2 (dC (.int 100000)) (dSeq (dIfS (dTest (dOp oEq (dVar 1) (dC (.int 0)))) (dRet (dVar 0)) dNext)
  (dPar 0 1 (dCons (dVar 1) (dCons (dOp oMod (dVar 0) (dVar 1)) dNil)))))
  (dRet (dVar 0))))
/-- behind k turns -/
structure Eu (g k x y : Nat) : Prop where
  gd : Nat.gcd x y = g
  lt : k ≠ 0 → y < x
  sz : k ≠ 0 → x * y * 2 ^ (k - 1) < 2 ^ 17800
  s0 : k = 0 → B 8900 x ∧ B 8900 y
theorem Eu.next {g k x y : Nat} (h : Eu g k x y) (hy : y ≠ 0) : Eu g (k + 1) y (x % y) := by
  have lt := Nat.mod_lt x (show y > 0 by omega)
  refine ⟨?_, fun _ => lt, fun _ => ?_, fun z => by omega⟩
  · rw [← h.gd, Nat.gcd_comm x y, Nat.gcd_rec y x, Nat.gcd_comm]
  · show y * (x % y) * 2 ^ k < 2 ^ 17800
    by_cases hk : k = 0
    · subst hk
      obtain ⟨_, hy2⟩ := h.s0 rfl
      have z := (hy2.mul hy2)
      unfold B at z
      rw [Nat.pow_zero, Nat.mul_one]
      exact Nat.lt_of_le_of_lt (Nat.mul_le_mul_left y (Nat.le_of_lt lt)) z
    · have yx := h.lt hk
      have half : 2 * (x % y) ≤ x := by
        have e := Nat.div_add_mod x y
        have q1 : 1 ≤ x / y := Nat.div_pos (Nat.le_of_lt yx) (by omega)
        have q2 : y * 1 ≤ y * (x / y) := Nat.mul_le_mul_left y q1
        omega
      obtain ⟨j, rfl⟩ : ∃ j, k = j + 1 := ⟨k - 1, by omega⟩
      refine Nat.lt_of_le_of_lt ?_ (h.sz hk)
      rw [Nat.pow_succ]
      have e2 : y * (x % y) * (2 ^ j * 2) = y * (2 * (x % y)) * 2 ^ j := by
        rw [Nat.mul_comm (2 ^ j) 2, ← Nat.mul_assoc, Nat.mul_assoc y, Nat.mul_comm (x % y) 2]
      rw [e2]
      show _ ≤ x * y * 2 ^ j
      rw [Nat.mul_comm x y]
      exact Nat.mul_le_mul_right _ (Nat.mul_le_mul_left y half)
theorem Eu.last {g x y : Nat} (h : Eu g 100000 x y) : x = g := by
  have z := h.sz (by decide)
  have yx := h.lt (by decide)
  have p : 2 ^ 17800 ≤ 2 ^ (100000 - 1) := Nat.pow_le_pow_right (by decide) (by decide)
  have y0 : y = 0 := by
    refine Decidable.byContradiction fun ny => ?_
    have one : 1 ≤ x * y := Nat.mul_pos (by omega) (by omega)
    have := Nat.mul_le_mul_right (2 ^ (100000 - 1)) one
    rw [Nat.one_mul] at this
    exact absurd (Nat.lt_of_le_of_lt (Nat.le_trans p this) z) (Nat.lt_irrefl _)
  have e := h.gd
  rw [y0, Nat.gcd_zero_right] at e
  exact e
theorem abs_if (i : Int) : (if i < 0 then -i else i) = (i.natAbs : Int) := by
  by_cases h : i < 0
  · rw [if_pos h]; omega
  · rw [if_neg h]; omega
theorem p__law_divisor (ds : List DV) (n : Nat) (R : DV → Nat → Prop) (h : s__law_divisor ds n R) : Goal t__law_divisor 3 ds n R := by
  obtain ⟨a, b, rfl, hb, ha, hb2, q⟩ := h
  simp only [Goal, t__law_divisor, dForR, dSliceA, oCatA, dIsi, pR3, pR4, pR5, dSeq, dAsg, dVar, dC, dOp, dUn, dCB, dCall, dCallK, pId, pRev, dCons, dNil, dTup, dLst, dRet, dRetN, dIfS, dTest, dNot, dAnd, dOr, dIf, dAndV, dOrV, dNotV, dNext, dDrop, dUnp, setAll, dPar, dPar3, dTy, tyD, dChain, dChain3, oI, oI0, oGcd, oLen, oAbs, oInt, ixT_tup, ixL_lst, fr_at0, fr_at1, oNeg, oEq, oNe, oRepr, oEqS, oCat, oRepL, allD, dSliceL, dSliceT, oCatT, oIsN, oNotN, isNone_fr, isNone_non, isNone_tup, isNone_list, isNone_int, isNone_bool, dPart, dNoPart, dAsgOwn, dFreeze, dParO2, dParO3, dPeekT, dPeekI, dYes, oSum, oTupOf, oMin, oIsB, oNotB, oMax, oMinL, dParOD, dParDO, dAppend, entry, atI_0, atI_1, atI_2, atI_3, List.map_cons, List.map_nil, List.length_cons, List.length_nil, List.set_cons_zero, List.set_cons_succ, List.getElem?_cons_zero, List.getElem?_cons_succ, List.cons_append, List.nil_append, Nat.reduceAdd, Nat.reduceSub, Nat.reduceLeDiff, List.replicate, Bool.false_eq_true, if_false, if_true, ite_true, ite_false, true_and, and_true, Bool.not_true, Bool.not_false, decide_true, decide_false, abs_if, shaped_int, eqv_int]
  refine ⟨⟨by decide, by decide⟩, fun k env m => m = n ∧ ∃ x y o, env = [some (IV (x : Nat)), some (IV (y : Nat)), o] ∧ Eu (Nat.gcd a.natAbs b.natAbs) k x y, ⟨rfl, a.natAbs, b.natAbs, none, rfl, ⟨rfl, fun z => absurd rfl z, fun z => absurd rfl z, fun _ => ⟨ha, hb2⟩⟩⟩, ?_, ?_⟩
  · rintro k env m hk ⟨rfl, x, y, o, rfl, e⟩
    simp only [dSliceA, oCatA, dIsi, pR3, pR4, pR5, dSeq, dAsg, dVar, dC, dOp, dUn, dCB, dCall, dCallK, pId, pRev, dCons, dNil, dTup, dLst, dRet, dRetN, dIfS, dTest, dNot, dAnd, dOr, dIf, dAndV, dOrV, dNotV, dNext, dDrop, dUnp, setAll, dPar, dPar3, dTy, tyD, dChain, dChain3, oI, oI0, oGcd, oLen, oAbs, oInt, ixT_tup, ixL_lst, fr_at0, fr_at1, oNeg, oEq, oNe, oRepr, oEqS, oCat, oRepL, allD, dSliceL, dSliceT, oCatT, oIsN, oNotN, isNone_fr, isNone_non, isNone_tup, isNone_list, isNone_int, isNone_bool, dPart, dNoPart, dAsgOwn, dFreeze, dParO2, dParO3, dPeekT, dPeekI, dYes, oSum, oTupOf, oMin, oIsB, oNotB, oMax, oMinL, dParOD, dParDO, dAppend, entry, atI_0, atI_1, atI_2, atI_3, List.map_cons, List.map_nil, List.length_cons, List.length_nil, List.set_cons_zero, List.set_cons_succ, List.getElem?_cons_zero, List.getElem?_cons_succ, List.cons_append, List.nil_append, Nat.reduceAdd, Nat.reduceSub, Nat.reduceLeDiff, List.replicate, Bool.false_eq_true, if_false, if_true, ite_true, ite_false, true_and, and_true, Bool.not_true, Bool.not_false, decide_true, decide_false, shaped_int, eqv_int]
    by_cases hy : y = 0
    · subst hy
      have g := e.gd
      rw [Nat.gcd_zero_right] at g
      subst g
      simpa using q
    · have ny : ((y : Int) == 0) = false := by
        rw [beq_eq_false_iff_ne]
        omega
      simp only [ny, dSliceA, oCatA, dIsi, pR3, pR4, pR5, dSeq, dAsg, dVar, dC, dOp, dUn, dCB, dCall, dCallK, pId, pRev, dCons, dNil, dTup, dLst, dRet, dRetN, dIfS, dTest, dNot, dAnd, dOr, dIf, dAndV, dOrV, dNotV, dNext, dDrop, dUnp, setAll, dPar, dPar3, dTy, tyD, dChain, dChain3, oI, oI0, oGcd, oLen, oAbs, oInt, ixT_tup, ixL_lst, fr_at0, fr_at1, oNeg, oEq, oNe, oRepr, oEqS, oCat, oRepL, allD, dSliceL, dSliceT, oCatT, oIsN, oNotN, isNone_fr, isNone_non, isNone_tup, isNone_list, isNone_int, isNone_bool, dPart, dNoPart, dAsgOwn, dFreeze, dParO2, dParO3, dPeekT, dPeekI, dYes, oSum, oTupOf, oMin, oIsB, oNotB, oMax, oMinL, dParOD, dParDO, dAppend, entry, atI_0, atI_1, atI_2, atI_3, List.map_cons, List.map_nil, List.length_cons, List.length_nil, List.set_cons_zero, List.set_cons_succ, List.getElem?_cons_zero, List.getElem?_cons_succ, List.cons_append, List.nil_append, Nat.reduceAdd, Nat.reduceSub, Nat.reduceLeDiff, List.replicate, Bool.false_eq_true, if_false, if_true, ite_true, ite_false, true_and, and_true, Bool.not_true, Bool.not_false, decide_true, decide_false]
      refine ⟨by omega, y, x % y, some (IV (k : Int)), ?_, e.next hy⟩
      rw [Int.natCast_emod]
  · rintro env m ⟨rfl, x, y, o, rfl, e⟩
    simp only [dSliceA, oCatA, dIsi, pR3, pR4, pR5, dSeq, dAsg, dVar, dC, dOp, dUn, dCB, dCall, dCallK, pId, pRev, dCons, dNil, dTup, dLst, dRet, dRetN, dIfS, dTest, dNot, dAnd, dOr, dIf, dAndV, dOrV, dNotV, dNext, dDrop, dUnp, setAll, dPar, dPar3, dTy, tyD, dChain, dChain3, oI, oI0, oGcd, oLen, oAbs, oInt, ixT_tup, ixL_lst, fr_at0, fr_at1, oNeg, oEq, oNe, oRepr, oEqS, oCat, oRepL, allD, dSliceL, dSliceT, oCatT, oIsN, oNotN, isNone_fr, isNone_non, isNone_tup, isNone_list, isNone_int, isNone_bool, dPart, dNoPart, dAsgOwn, dFreeze, dParO2, dParO3, dPeekT, dPeekI, dYes, oSum, oTupOf, oMin, oIsB, oNotB, oMax, oMinL, dParOD, dParDO, dAppend, entry, atI_0, atI_1, atI_2, atI_3, List.map_cons, List.map_nil, List.length_cons, List.length_nil, List.set_cons_zero, List.set_cons_succ, List.getElem?_cons_zero, List.getElem?_cons_succ, List.cons_append, List.nil_append, Nat.reduceAdd, Nat.reduceSub, Nat.reduceLeDiff, List.replicate, Bool.false_eq_true, if_false, if_true, ite_true, ite_false, true_and, and_true, Bool.not_true, Bool.not_false, decide_true, decide_false]
    have z : x = Nat.gcd a.natAbs b.natAbs := by
      have e' : Eu (Nat.gcd a.natAbs b.natAbs) 100000 x y := e
      exact e'.last
    rw [z]
    exact q
def s__law_share : DSp := fun ds n R => ∃ a b : Int, ds = [IV a, IV b] ∧ 0 < b ∧ B 8900 a.natAbs ∧ B 8900 b.natAbs ∧ R (FV ((a : Rat) / (b : Rat))) n
/-- _law_share. Slots: above, below, told -/
def t__law_share : DTS :=
  (dSeq (dAsg 2 (dCall s__law_divisor (dCons (dVar 0) (dCons (dVar 1) dNil))))
  (dSeq (dAsg 2 (dIf (dTest (dOp oGt (dVar 1) (dC (.int 0)))) (dVar 2) (dUn oNeg (dVar 2))))
  (dRet (dTup (dCons (dOp oDiv (dVar 0) (dVar 2)) (dCons (dOp oDiv (dVar 1) (dVar 2)) dNil))))))
theorem p__law_share (ds : List DV) (n : Nat) (R : DV → Nat → Prop) (h : s__law_share ds n R) : Goal t__law_share 3 ds n R := by
  obtain ⟨a, b, rfl, hb, ha, hb2, q⟩ := h
  simp only [Goal, t__law_share, dSliceA, oCatA, dIsi, pR3, pR4, pR5, dSeq, dAsg, dVar, dC, dOp, dUn, dCB, dCall, dCallK, pId, pRev, dCons, dNil, dTup, dLst, dRet, dRetN, dIfS, dTest, dNot, dAnd, dOr, dIf, dAndV, dOrV, dNotV, dNext, dDrop, dUnp, setAll, dPar, dPar3, dTy, tyD, dChain, dChain3, oI, oI0, oGcd, oLen, oAbs, oInt, ixT_tup, ixL_lst, fr_at0, fr_at1, oNeg, oEq, oNe, oRepr, oEqS, oCat, oRepL, allD, dSliceL, dSliceT, oCatT, oIsN, oNotN, isNone_fr, isNone_non, isNone_tup, isNone_list, isNone_int, isNone_bool, dPart, dNoPart, dAsgOwn, dFreeze, dParO2, dParO3, dPeekT, dPeekI, dYes, oSum, oTupOf, oMin, oIsB, oNotB, oMax, oMinL, dParOD, dParDO, dAppend, entry, atI_0, atI_1, atI_2, atI_3, List.map_cons, List.map_nil, List.length_cons, List.length_nil, List.set_cons_zero, List.set_cons_succ, List.getElem?_cons_zero, List.getElem?_cons_succ, List.cons_append, List.nil_append, Nat.reduceAdd, Nat.reduceSub, Nat.reduceLeDiff, List.replicate, Bool.false_eq_true, if_false, if_true, ite_true, ite_false, true_and, and_true, Bool.not_true, Bool.not_false, decide_true, decide_false]
  refine ⟨a, b, rfl, hb, ha, hb2, ?_⟩
  simp only [dSliceA, oCatA, dIsi, pR3, pR4, pR5, dSeq, dAsg, dVar, dC, dOp, dUn, dCB, dCall, dCallK, pId, pRev, dCons, dNil, dTup, dLst, dRet, dRetN, dIfS, dTest, dNot, dAnd, dOr, dIf, dAndV, dOrV, dNotV, dNext, dDrop, dUnp, setAll, dPar, dPar3, dTy, tyD, dChain, dChain3, oI, oI0, oGcd, oLen, oAbs, oInt, ixT_tup, ixL_lst, fr_at0, fr_at1, oNeg, oEq, oNe, oRepr, oEqS, oCat, oRepL, allD, dSliceL, dSliceT, oCatT, oIsN, oNotN, isNone_fr, isNone_non, isNone_tup, isNone_list, isNone_int, isNone_bool, dPart, dNoPart, dAsgOwn, dFreeze, dParO2, dParO3, dPeekT, dPeekI, dYes, oSum, oTupOf, oMin, oIsB, oNotB, oMax, oMinL, dParOD, dParDO, dAppend, entry, atI_0, atI_1, atI_2, atI_3, List.map_cons, List.map_nil, List.length_cons, List.length_nil, List.set_cons_zero, List.set_cons_succ, List.getElem?_cons_zero, List.getElem?_cons_succ, List.cons_append, List.nil_append, Nat.reduceAdd, Nat.reduceSub, Nat.reduceLeDiff, List.replicate, Bool.false_eq_true, if_false, if_true, ite_true, ite_false, true_and, and_true, Bool.not_true, Bool.not_false, decide_true, decide_false, hb]
  have g0 := gcd_pos (a := a) hb
  have gB := gcd_B (a := a) hb hb2
  refine ⟨divB g0 gB (by decide), divB g0 gB (by decide), ?_⟩
  obtain ⟨e1, e2⟩ := red (a := a) hb
  rw [← e1, ← e2]
  exact q
def s__law_plus : DSp := fun ds n R => ∃ p q : Rat, ds = [FV p, FV q] ∧ Sz 2200 p ∧ Sz 2200 q ∧ R (FV (p + q)) n
def s__law_minus : DSp := fun ds n R => ∃ p q : Rat, ds = [FV p, FV q] ∧ Sz 2200 p ∧ Sz 2200 q ∧ R (FV (p - q)) n
def s__law_times : DSp := fun ds n R => ∃ p q : Rat, ds = [FV p, FV q] ∧ Sz 2200 p ∧ Sz 2200 q ∧ R (FV (p * q)) n
def s__law_over : DSp := fun ds n R => ∃ a b : Int, ∃ q : Rat, ds = [.dat (.tuple [.int a, .int b]), FV q] ∧ (0 < b ∧ B 2200 a.natAbs ∧ B 2200 b.natAbs) ∧ Sz 2200 q ∧ 0 < q ∧ R (FV ((a : Rat) / (b : Rat) / q)) n
def s__law_below : DSp := fun ds n R => ∃ p q : Rat, ds = [FV p, FV q] ∧ Sz 2200 p ∧ Sz 2200 q ∧ R (BV (decide (p < q))) n
/-- _law_plus. Slots: one, two -/
def t__law_plus : DTS :=
  (dRet (dCall s__law_share (dCons (dOp oAdd (dOp oMul (dOp oIxT (dVar 0) (dC (.int 0))) (dOp oIxT (dVar 1) (dC (.int 1)))) (dOp oMul (dOp oIxT (dVar 1) (dC (.int 0))) (dOp oIxT (dVar 0) (dC (.int 1))))) (dCons (dOp oMul (dOp oIxT (dVar 0) (dC (.int 1))) (dOp oIxT (dVar 1) (dC (.int 1)))) dNil))))
/-- _law_minus. Slots: one, two -/
def t__law_minus : DTS :=
  (dRet (dCall s__law_share (dCons (dOp oSub (dOp oMul (dOp oIxT (dVar 0) (dC (.int 0))) (dOp oIxT (dVar 1) (dC (.int 1)))) (dOp oMul (dOp oIxT (dVar 1) (dC (.int 0))) (dOp oIxT (dVar 0) (dC (.int 1))))) (dCons (dOp oMul (dOp oIxT (dVar 0) (dC (.int 1))) (dOp oIxT (dVar 1) (dC (.int 1)))) dNil))))
/-- _law_times. Slots: one, two -/
def t__law_times : DTS :=
  (dRet (dCall s__law_share (dCons (dOp oMul (dOp oIxT (dVar 0) (dC (.int 0))) (dOp oIxT (dVar 1) (dC (.int 0)))) (dCons (dOp oMul (dOp oIxT (dVar 0) (dC (.int 1))) (dOp oIxT (dVar 1) (dC (.int 1)))) dNil))))
/-- _law_over. Slots: one, two -/
def t__law_over : DTS :=
  (dRet (dCall s__law_share (dCons (dOp oMul (dOp oIxT (dVar 0) (dC (.int 0))) (dOp oIxT (dVar 1) (dC (.int 1)))) (dCons (dOp oMul (dOp oIxT (dVar 0) (dC (.int 1))) (dOp oIxT (dVar 1) (dC (.int 0)))) dNil))))
/-- _law_below. Slots: one, two -/
def t__law_below : DTS :=
  (dRet (dOp oLt (dOp oMul (dOp oIxT (dVar 0) (dC (.int 0))) (dOp oIxT (dVar 1) (dC (.int 1)))) (dOp oMul (dOp oIxT (dVar 1) (dC (.int 0))) (dOp oIxT (dVar 0) (dC (.int 1))))))
theorem p__law_plus (ds : List DV) (n : Nat) (R : DV → Nat → Prop) (h : s__law_plus ds n R) : Goal t__law_plus 2 ds n R := by
  obtain ⟨p, q, rfl, hp, hq, k⟩ := h
  simp only [Goal, t__law_plus, fr, dSliceA, oCatA, dIsi, pR3, pR4, pR5, dSeq, dAsg, dVar, dC, dOp, dUn, dCB, dCall, dCallK, pId, pRev, dCons, dNil, dTup, dLst, dRet, dRetN, dIfS, dTest, dNot, dAnd, dOr, dIf, dAndV, dOrV, dNotV, dNext, dDrop, dUnp, setAll, dPar, dPar3, dTy, tyD, dChain, dChain3, oI, oI0, oGcd, oLen, oAbs, oInt, ixT_tup, ixL_lst, fr_at0, fr_at1, oNeg, oEq, oNe, oRepr, oEqS, oCat, oRepL, allD, dSliceL, dSliceT, oCatT, oIsN, oNotN, isNone_fr, isNone_non, isNone_tup, isNone_list, isNone_int, isNone_bool, dPart, dNoPart, dAsgOwn, dFreeze, dParO2, dParO3, dPeekT, dPeekI, dYes, oSum, oTupOf, oMin, oIsB, oNotB, oMax, oMinL, dParOD, dParDO, dAppend, entry, atI_0, atI_1, atI_2, atI_3, List.map_cons, List.map_nil, List.length_cons, List.length_nil, List.set_cons_zero, List.set_cons_succ, List.getElem?_cons_zero, List.getElem?_cons_succ, List.cons_append, List.nil_append, Nat.reduceAdd, Nat.reduceSub, Nat.reduceLeDiff, List.replicate, Bool.false_eq_true, if_false, if_true, ite_true, ite_false, true_and, and_true, Bool.not_true, Bool.not_false, decide_true, decide_false]
  refine ⟨mulB hp.n (den_B hq) (by decide), mulB hq.n (den_B hp) (by decide), mulB (den_B hp) (den_B hq) (by decide), _, _, rfl, mul_pos' (den_pos p) (den_pos q), (natAbs_add_B (natAbs_mul_B hp.n (den_B hq)) (natAbs_mul_B hq.n (den_B hp))).mono (by decide), (natAbs_mul_B (den_B hp) (den_B hq)).mono (by decide), ?_⟩
  rw [add_div']
  exact k
theorem p__law_minus (ds : List DV) (n : Nat) (R : DV → Nat → Prop) (h : s__law_minus ds n R) : Goal t__law_minus 2 ds n R := by
  obtain ⟨p, q, rfl, hp, hq, k⟩ := h
  simp only [Goal, t__law_minus, fr, dSliceA, oCatA, dIsi, pR3, pR4, pR5, dSeq, dAsg, dVar, dC, dOp, dUn, dCB, dCall, dCallK, pId, pRev, dCons, dNil, dTup, dLst, dRet, dRetN, dIfS, dTest, dNot, dAnd, dOr, dIf, dAndV, dOrV, dNotV, dNext, dDrop, dUnp, setAll, dPar, dPar3, dTy, tyD, dChain, dChain3, oI, oI0, oGcd, oLen, oAbs, oInt, ixT_tup, ixL_lst, fr_at0, fr_at1, oNeg, oEq, oNe, oRepr, oEqS, oCat, oRepL, allD, dSliceL, dSliceT, oCatT, oIsN, oNotN, isNone_fr, isNone_non, isNone_tup, isNone_list, isNone_int, isNone_bool, dPart, dNoPart, dAsgOwn, dFreeze, dParO2, dParO3, dPeekT, dPeekI, dYes, oSum, oTupOf, oMin, oIsB, oNotB, oMax, oMinL, dParOD, dParDO, dAppend, entry, atI_0, atI_1, atI_2, atI_3, List.map_cons, List.map_nil, List.length_cons, List.length_nil, List.set_cons_zero, List.set_cons_succ, List.getElem?_cons_zero, List.getElem?_cons_succ, List.cons_append, List.nil_append, Nat.reduceAdd, Nat.reduceSub, Nat.reduceLeDiff, List.replicate, Bool.false_eq_true, if_false, if_true, ite_true, ite_false, true_and, and_true, Bool.not_true, Bool.not_false, decide_true, decide_false]
  refine ⟨mulB hp.n (den_B hq) (by decide), mulB hq.n (den_B hp) (by decide), mulB (den_B hp) (den_B hq) (by decide), _, _, rfl, mul_pos' (den_pos p) (den_pos q), (natAbs_sub_B (natAbs_mul_B hp.n (den_B hq)) (natAbs_mul_B hq.n (den_B hp))).mono (by decide), (natAbs_mul_B (den_B hp) (den_B hq)).mono (by decide), ?_⟩
  rw [sub_div']
  exact k
theorem p__law_times (ds : List DV) (n : Nat) (R : DV → Nat → Prop) (h : s__law_times ds n R) : Goal t__law_times 2 ds n R := by
  obtain ⟨p, q, rfl, hp, hq, k⟩ := h
  simp only [Goal, t__law_times, fr, dSliceA, oCatA, dIsi, pR3, pR4, pR5, dSeq, dAsg, dVar, dC, dOp, dUn, dCB, dCall, dCallK, pId, pRev, dCons, dNil, dTup, dLst, dRet, dRetN, dIfS, dTest, dNot, dAnd, dOr, dIf, dAndV, dOrV, dNotV, dNext, dDrop, dUnp, setAll, dPar, dPar3, dTy, tyD, dChain, dChain3, oI, oI0, oGcd, oLen, oAbs, oInt, ixT_tup, ixL_lst, fr_at0, fr_at1, oNeg, oEq, oNe, oRepr, oEqS, oCat, oRepL, allD, dSliceL, dSliceT, oCatT, oIsN, oNotN, isNone_fr, isNone_non, isNone_tup, isNone_list, isNone_int, isNone_bool, dPart, dNoPart, dAsgOwn, dFreeze, dParO2, dParO3, dPeekT, dPeekI, dYes, oSum, oTupOf, oMin, oIsB, oNotB, oMax, oMinL, dParOD, dParDO, dAppend, entry, atI_0, atI_1, atI_2, atI_3, List.map_cons, List.map_nil, List.length_cons, List.length_nil, List.set_cons_zero, List.set_cons_succ, List.getElem?_cons_zero, List.getElem?_cons_succ, List.cons_append, List.nil_append, Nat.reduceAdd, Nat.reduceSub, Nat.reduceLeDiff, List.replicate, Bool.false_eq_true, if_false, if_true, ite_true, ite_false, true_and, and_true, Bool.not_true, Bool.not_false, decide_true, decide_false]
  refine ⟨mulB hp.n hq.n (by decide), mulB (den_B hp) (den_B hq) (by decide), _, _, rfl, mul_pos' (den_pos p) (den_pos q), (natAbs_mul_B hp.n hq.n).mono (by decide), (natAbs_mul_B (den_B hp) (den_B hq)).mono (by decide), ?_⟩
  rw [mul_div']
  exact k
theorem q_den0 (q : Rat) : q * ((q.den : Int) : Rat) = (q.num : Rat) := by
  have h := as_div q
  have d : (0 : Rat) < ((q.den : Int) : Rat) := Rat.intCast_pos.2 (den_pos q)
  generalize ((q.den : Int) : Rat) = x at *
  generalize ((q.num : Int) : Rat) = y at *
  have : x ≠ 0 := by grind
  rw [h]
  exact Rat.div_mul_cancel this
theorem p__law_over (ds : List DV) (n : Nat) (R : DV → Nat → Prop) (h : s__law_over ds n R) : Goal t__law_over 2 ds n R := by
  obtain ⟨a, b, q, rfl, ⟨b0, ha, hb⟩, hq, q0, k⟩ := h
  have n0 := (num_pos_iff q).2 q0
  have e : ((a * (q.den : Int) : Int) : Rat) / ((b * q.num : Int) : Rat) = (a : Rat) / (b : Rat) / q := by
    have d0 : (0 : Rat) < ((q.den : Int) : Rat) := Rat.intCast_pos.2 (den_pos q)
    have b1 : (0 : Rat) < (b : Rat) := Rat.intCast_pos.2 b0
    rw [Rat.intCast_mul, Rat.intCast_mul, ← q_den0 q]
    generalize ((q.den : Int) : Rat) = x at *
    generalize (a : Rat) = y at *
    generalize (b : Rat) = z at *
    have h1 : x ≠ 0 := by grind
    have h2 : z ≠ 0 := by grind
    have h3 : q ≠ 0 := by grind
    grind
  simp only [Goal, t__law_over, fr, dSliceA, oCatA, dIsi, pR3, pR4, pR5, dSeq, dAsg, dVar, dC, dOp, dUn, dCB, dCall, dCallK, pId, pRev, dCons, dNil, dTup, dLst, dRet, dRetN, dIfS, dTest, dNot, dAnd, dOr, dIf, dAndV, dOrV, dNotV, dNext, dDrop, dUnp, setAll, dPar, dPar3, dTy, tyD, dChain, dChain3, oI, oI0, oGcd, oLen, oAbs, oInt, ixT_tup, ixL_lst, fr_at0, fr_at1, oNeg, oEq, oNe, oRepr, oEqS, oCat, oRepL, allD, dSliceL, dSliceT, oCatT, oIsN, oNotN, isNone_fr, isNone_non, isNone_tup, isNone_list, isNone_int, isNone_bool, dPart, dNoPart, dAsgOwn, dFreeze, dParO2, dParO3, dPeekT, dPeekI, dYes, oSum, oTupOf, oMin, oIsB, oNotB, oMax, oMinL, dParOD, dParDO, dAppend, entry, atI_0, atI_1, atI_2, atI_3, List.map_cons, List.map_nil, List.length_cons, List.length_nil, List.set_cons_zero, List.set_cons_succ, List.getElem?_cons_zero, List.getElem?_cons_succ, List.cons_append, List.nil_append, Nat.reduceAdd, Nat.reduceSub, Nat.reduceLeDiff, List.replicate, Bool.false_eq_true, if_false, if_true, ite_true, ite_false, true_and, and_true, Bool.not_true, Bool.not_false, decide_true, decide_false]
  refine ⟨mulB ha (den_B hq) (by decide), mulB hb hq.n (by decide), _, _, rfl, mul_pos' b0 n0, (natAbs_mul_B ha (den_B hq)).mono (by decide), (natAbs_mul_B hb hq.n).mono (by decide), ?_⟩
  rw [e]
  exact k
theorem p__law_below (ds : List DV) (n : Nat) (R : DV → Nat → Prop) (h : s__law_below ds n R) : Goal t__law_below 2 ds n R := by
  obtain ⟨p, q, rfl, hp, hq, k⟩ := h
  simp only [Goal, t__law_below, fr, dSliceA, oCatA, dIsi, pR3, pR4, pR5, dSeq, dAsg, dVar, dC, dOp, dUn, dCB, dCall, dCallK, pId, pRev, dCons, dNil, dTup, dLst, dRet, dRetN, dIfS, dTest, dNot, dAnd, dOr, dIf, dAndV, dOrV, dNotV, dNext, dDrop, dUnp, setAll, dPar, dPar3, dTy, tyD, dChain, dChain3, oI, oI0, oGcd, oLen, oAbs, oInt, ixT_tup, ixL_lst, fr_at0, fr_at1, oNeg, oEq, oNe, oRepr, oEqS, oCat, oRepL, allD, dSliceL, dSliceT, oCatT, oIsN, oNotN, isNone_fr, isNone_non, isNone_tup, isNone_list, isNone_int, isNone_bool, dPart, dNoPart, dAsgOwn, dFreeze, dParO2, dParO3, dPeekT, dPeekI, dYes, oSum, oTupOf, oMin, oIsB, oNotB, oMax, oMinL, dParOD, dParDO, dAppend, entry, atI_0, atI_1, atI_2, atI_3, List.map_cons, List.map_nil, List.length_cons, List.length_nil, List.set_cons_zero, List.set_cons_succ, List.getElem?_cons_zero, List.getElem?_cons_succ, List.cons_append, List.nil_append, Nat.reduceAdd, Nat.reduceSub, Nat.reduceLeDiff, List.replicate, Bool.false_eq_true, if_false, if_true, ite_true, ite_false, true_and, and_true, Bool.not_true, Bool.not_false, decide_true, decide_false]
  refine ⟨mulB hp.n (den_B hq) (by decide), mulB hq.n (den_B hp) (by decide), ?_⟩
  simp only [lt_num]
  exact k
/-- repr(got) == repr(due) of the same data -/
def seqD : PyData → Bool
  | .list _ | .tuple _ | .int _ | .bool _ => true
  | _ => false
def s__law_like : DSp := fun ds n R => ∃ a b : PyData, ds = [.dat a, .dat b] ∧ a = b ∧ seqD a = true ∧ Tidy a ∧ R (BV true) n
/-- _law_like. Slots: got, due -/
def t__law_like : DTS :=
  (dRet (dOp oEqS (dCB oRepr (dCons (dVar 0) dNil)) (dCB oRepr (dCons (dVar 1) dNil))))
theorem p__law_like (ds : List DV) (n : Nat) (R : DV → Nat → Prop) (h : s__law_like ds n R) : Goal t__law_like 2 ds n R := by
  obtain ⟨a, b, rfl, rfl, sq, ty, k⟩ := h
  cases a with
  | list xs =>
    simp only [Goal, t__law_like, dSliceA, oCatA, dIsi, pR3, pR4, pR5, dSeq, dAsg, dVar, dC, dOp, dUn, dCB, dCall, dCallK, pId, pRev, dCons, dNil, dTup, dLst, dRet, dRetN, dIfS, dTest, dNot, dAnd, dOr, dIf, dAndV, dOrV, dNotV, dNext, dDrop, dUnp, setAll, dPar, dPar3, dTy, tyD, dChain, dChain3, oI, oI0, oGcd, oLen, oAbs, oInt, ixT_tup, ixL_lst, fr_at0, fr_at1, oNeg, oEq, oNe, oRepr, oEqS, oCat, oRepL, allD, dSliceL, dSliceT, oCatT, oIsN, oNotN, isNone_fr, isNone_non, isNone_tup, isNone_list, isNone_int, isNone_bool, dPart, dNoPart, dAsgOwn, dFreeze, dParO2, dParO3, dPeekT, dPeekI, dYes, oSum, oTupOf, oMin, oIsB, oNotB, oMax, oMinL, dParOD, dParDO, dAppend, entry, atI_0, atI_1, atI_2, atI_3, List.map_cons, List.map_nil, List.length_cons, List.length_nil, List.set_cons_zero, List.set_cons_succ, List.getElem?_cons_zero, List.getElem?_cons_succ, List.cons_append, List.nil_append, Nat.reduceAdd, Nat.reduceSub, Nat.reduceLeDiff, List.replicate, Bool.false_eq_true, if_false, if_true, ite_true, ite_false, true_and, and_true, Bool.not_true, Bool.not_false, decide_true, decide_false]
    exact ⟨ty, ty, k⟩
  | tuple xs =>
    simp only [Goal, t__law_like, dSliceA, oCatA, dIsi, pR3, pR4, pR5, dSeq, dAsg, dVar, dC, dOp, dUn, dCB, dCall, dCallK, pId, pRev, dCons, dNil, dTup, dLst, dRet, dRetN, dIfS, dTest, dNot, dAnd, dOr, dIf, dAndV, dOrV, dNotV, dNext, dDrop, dUnp, setAll, dPar, dPar3, dTy, tyD, dChain, dChain3, oI, oI0, oGcd, oLen, oAbs, oInt, ixT_tup, ixL_lst, fr_at0, fr_at1, oNeg, oEq, oNe, oRepr, oEqS, oCat, oRepL, allD, dSliceL, dSliceT, oCatT, oIsN, oNotN, isNone_fr, isNone_non, isNone_tup, isNone_list, isNone_int, isNone_bool, dPart, dNoPart, dAsgOwn, dFreeze, dParO2, dParO3, dPeekT, dPeekI, dYes, oSum, oTupOf, oMin, oIsB, oNotB, oMax, oMinL, dParOD, dParDO, dAppend, entry, atI_0, atI_1, atI_2, atI_3, List.map_cons, List.map_nil, List.length_cons, List.length_nil, List.set_cons_zero, List.set_cons_succ, List.getElem?_cons_zero, List.getElem?_cons_succ, List.cons_append, List.nil_append, Nat.reduceAdd, Nat.reduceSub, Nat.reduceLeDiff, List.replicate, Bool.false_eq_true, if_false, if_true, ite_true, ite_false, true_and, and_true, Bool.not_true, Bool.not_false, decide_true, decide_false]
    exact ⟨ty, ty, k⟩
  | int i =>
    simp only [Goal, t__law_like, dSliceA, oCatA, dIsi, pR3, pR4, pR5, dSeq, dAsg, dVar, dC, dOp, dUn, dCB, dCall, dCallK, pId, pRev, dCons, dNil, dTup, dLst, dRet, dRetN, dIfS, dTest, dNot, dAnd, dOr, dIf, dAndV, dOrV, dNotV, dNext, dDrop, dUnp, setAll, dPar, dPar3, dTy, tyD, dChain, dChain3, oI, oI0, oGcd, oLen, oAbs, oInt, ixT_tup, ixL_lst, fr_at0, fr_at1, oNeg, oEq, oNe, oRepr, oEqS, oCat, oRepL, allD, dSliceL, dSliceT, oCatT, oIsN, oNotN, isNone_fr, isNone_non, isNone_tup, isNone_list, isNone_int, isNone_bool, dPart, dNoPart, dAsgOwn, dFreeze, dParO2, dParO3, dPeekT, dPeekI, dYes, oSum, oTupOf, oMin, oIsB, oNotB, oMax, oMinL, dParOD, dParDO, dAppend, entry, atI_0, atI_1, atI_2, atI_3, List.map_cons, List.map_nil, List.length_cons, List.length_nil, List.set_cons_zero, List.set_cons_succ, List.getElem?_cons_zero, List.getElem?_cons_succ, List.cons_append, List.nil_append, Nat.reduceAdd, Nat.reduceSub, Nat.reduceLeDiff, List.replicate, Bool.false_eq_true, if_false, if_true, ite_true, ite_false, true_and, and_true, Bool.not_true, Bool.not_false, decide_true, decide_false]
    exact ⟨ty, ty, k⟩
  | bool i =>
    simp only [Goal, t__law_like, dSliceA, oCatA, dIsi, pR3, pR4, pR5, dSeq, dAsg, dVar, dC, dOp, dUn, dCB, dCall, dCallK, pId, pRev, dCons, dNil, dTup, dLst, dRet, dRetN, dIfS, dTest, dNot, dAnd, dOr, dIf, dAndV, dOrV, dNotV, dNext, dDrop, dUnp, setAll, dPar, dPar3, dTy, tyD, dChain, dChain3, oI, oI0, oGcd, oLen, oAbs, oInt, ixT_tup, ixL_lst, fr_at0, fr_at1, oNeg, oEq, oNe, oRepr, oEqS, oCat, oRepL, allD, dSliceL, dSliceT, oCatT, oIsN, oNotN, isNone_fr, isNone_non, isNone_tup, isNone_list, isNone_int, isNone_bool, dPart, dNoPart, dAsgOwn, dFreeze, dParO2, dParO3, dPeekT, dPeekI, dYes, oSum, oTupOf, oMin, oIsB, oNotB, oMax, oMinL, dParOD, dParDO, dAppend, entry, atI_0, atI_1, atI_2, atI_3, List.map_cons, List.map_nil, List.length_cons, List.length_nil, List.set_cons_zero, List.set_cons_succ, List.getElem?_cons_zero, List.getElem?_cons_succ, List.cons_append, List.nil_append, Nat.reduceAdd, Nat.reduceSub, Nat.reduceLeDiff, List.replicate, Bool.false_eq_true, if_false, if_true, ite_true, ite_false, true_and, and_true, Bool.not_true, Bool.not_false, decide_true, decide_false]
    exact ⟨ty, ty, k⟩
  | _ => cases sq
end Sx

namespace Sx
structure De (D m : Nat) (q : Rat) : Prop where
  pos : 0 < D
  ex : ∃ a : Int, q = (a : Rat) / ((D : Int) : Rat) ∧ a.natAbs ≤ m * D
theorem cast_ne {D : Nat} (h : 0 < D) : ((D : Int) : Rat) ≠ 0 := by
  intro z
  have z2 : (D : Int) = 0 := by exact_mod_cast z
  omega
theorem De.of {a : Int} {D m : Nat} (h : 0 < D) (g : a.natAbs ≤ m * D) : De D m ((a : Rat) / ((D : Int) : Rat)) := ⟨h, a, rfl, g⟩
theorem De.mono {D m n : Nat} {q : Rat} (h : De D m q) (e : m ≤ n) : De D n q := by
  obtain ⟨p, a, e1, e2⟩ := h
  exact ⟨p, a, e1, Nat.le_trans e2 (Nat.mul_le_mul_right D e)⟩
theorem De.wide {D m : Nat} {q : Rat} (h : De D m q) {E : Nat} (e : 0 < E) : De (D * E) m q := by
  obtain ⟨p, a, e1, e2⟩ := h
  refine ⟨Nat.mul_pos p e, a * (E : Int), ?_, ?_⟩
  · have h1 := cast_ne p
    have h2 := cast_ne e
    rw [e1, Int.natCast_mul, Rat.intCast_mul, Rat.intCast_mul]
    generalize ((D : Int) : Rat) = x at *
    generalize ((E : Int) : Rat) = y at *
    generalize (a : Rat) = z at *
    grind
  · rw [Int.natAbs_mul, ← Nat.mul_assoc]
    exact Nat.mul_le_mul_right _ e2
theorem De.dvd {D E m : Nat} {q : Rat} (h : De D m q) (k : Nat) (e : E = D * k) (p : 0 < E) : De E m q := by
  subst e
  exact h.wide (Nat.pos_of_ne_zero fun z => by subst z; simp at p)
theorem De.add {D m n : Nat} {p q : Rat} (h : De D m p) (g : De D n q) : De D (m + n) (p + q) := by
  obtain ⟨d, a, e1, e2⟩ := h
  obtain ⟨_, b, f1, f2⟩ := g
  refine ⟨d, a + b, ?_, ?_⟩
  · rw [e1, f1, Rat.intCast_add]
    generalize ((D : Int) : Rat) = x at *
    grind
  · rw [Nat.add_mul]
    omega
theorem De.sub {D m n : Nat} {p q : Rat} (h : De D m p) (g : De D n q) : De D (m + n) (p - q) := by
  obtain ⟨d, a, e1, e2⟩ := h
  obtain ⟨_, b, f1, f2⟩ := g
  refine ⟨d, a - b, ?_, ?_⟩
  · rw [e1, f1, Rat.intCast_sub]
    generalize ((D : Int) : Rat) = x at *
    grind
  · rw [Nat.add_mul]
    omega
theorem De.mul {D E m n : Nat} {p q : Rat} (h : De D m p) (g : De E n q) : De (D * E) (m * n) (p * q) := by
  obtain ⟨d, a, e1, e2⟩ := h
  obtain ⟨e, b, f1, f2⟩ := g
  refine ⟨Nat.mul_pos d e, a * b, ?_, ?_⟩
  · have h1 := cast_ne d
    have h2 := cast_ne e
    rw [e1, f1, Rat.intCast_mul, Int.natCast_mul, Rat.intCast_mul]
    generalize ((D : Int) : Rat) = x at *
    generalize ((E : Int) : Rat) = y at *
    generalize (a : Rat) = z at *
    generalize (b : Rat) = u at *
    grind
  · rw [Int.natAbs_mul, Nat.mul_mul_mul_comm]
    exact Nat.mul_le_mul e2 f2
theorem De.neg {D m : Nat} {p : Rat} (h : De D m p) : De D m (-p) := by
  obtain ⟨d, a, e1, e2⟩ := h
  refine ⟨d, -a, ?_, by rw [Int.natAbs_neg]; exact e2⟩
  rw [e1, Rat.intCast_neg]
  generalize ((D : Int) : Rat) = x at *
  grind
theorem De.int (i : Int) (m : Nat) (h : i.natAbs ≤ m) : De 1 m (i : Rat) := by
  refine ⟨by decide, i, ?_, by omega⟩
  show (i : Rat) = (i : Rat) / 1
  grind
theorem De.sz {D m a b : Nat} {q : Rat} (h : De D m q) (hm : B a m) (hd : B b D) : Sz (a + b) q := by
  obtain ⟨d, x, e1, e2⟩ := h
  subst e1
  refine Sz.of_div (by omega) (B.le (hm.mul hd) e2) ?_
  have z : B (a + b) D := hd.mono (by omega)
  simpa using z
/-- a closer size: between two of the same kind -/
theorem De.between {D m k l : Nat} {q x y : Rat} (h : De D m q) (hx : De k l x) (hy : De k l y) (h1 : x ≤ q) (h2 : q ≤ y) : De D l q := by
  have bd : ∀ {E : Nat} {z : Rat}, De E l z → -((l : Int) : Rat) ≤ z ∧ z ≤ ((l : Int) : Rat) := by
    intro E z hz
    obtain ⟨d, a, e1, e2⟩ := hz
    have dp : (0 : Rat) < ((E : Int) : Rat) := Rat.intCast_pos.2 (by omega)
    have up : a ≤ (l : Int) * (E : Int) := by
      have : ((a.natAbs : Nat) : Int) ≤ ((l * E : Nat) : Int) := by exact_mod_cast e2
      rw [Int.natCast_mul] at this
      omega
    have lo : -((l : Int) * (E : Int)) ≤ a := by
      have : ((a.natAbs : Nat) : Int) ≤ ((l * E : Nat) : Int) := by exact_mod_cast e2
      rw [Int.natCast_mul] at this
      omega
    have up' : (a : Rat) ≤ ((l : Int) : Rat) * ((E : Int) : Rat) := by rw [← Rat.intCast_mul]; exact Rat.intCast_le_intCast.2 up
    have lo' : -(((l : Int) : Rat) * ((E : Int) : Rat)) ≤ (a : Rat) := by
      rw [← Rat.intCast_mul, ← Rat.intCast_neg]; exact Rat.intCast_le_intCast.2 lo
    have eq : z * ((E : Int) : Rat) = (a : Rat) := by
      rw [e1]; exact Rat.div_mul_cancel (by grind)
    rw [← eq] at up' lo'
    constructor
    · refine Rat.not_lt.1 fun c => ?_
      have := Rat.mul_lt_mul_of_pos_right c dp
      grind
    · refine Rat.not_lt.1 fun c => ?_
      have := Rat.mul_lt_mul_of_pos_right c dp
      grind
  have b1 := (bd hx).1
  have b2 := (bd hy).2
  have c1 : -((l : Int) : Rat) ≤ q := Rat.le_trans b1 h1
  have c2 : q ≤ ((l : Int) : Rat) := Rat.le_trans h2 b2
  obtain ⟨d, a, e1, e2⟩ := h
  refine ⟨d, a, e1, ?_⟩
  have dp : (0 : Rat) < ((D : Int) : Rat) := Rat.intCast_pos.2 (by omega)
  have eq : q * ((D : Int) : Rat) = (a : Rat) := by
    rw [e1]; exact Rat.div_mul_cancel (by grind)
  have u1 : (a : Rat) ≤ ((l : Int) : Rat) * ((D : Int) : Rat) := by
    rw [← eq]; exact Rat.mul_le_mul_of_nonneg_right c2 (Rat.le_of_lt dp)
  have u2 : -((l : Int) : Rat) * ((D : Int) : Rat) ≤ (a : Rat) := by
    rw [← eq]; exact Rat.mul_le_mul_of_nonneg_right c1 (Rat.le_of_lt dp)
  rw [← Rat.intCast_mul] at u1
  rw [← Rat.intCast_neg, ← Rat.intCast_mul] at u2
  have v1 := Rat.intCast_le_intCast.1 u1
  have v2 := Rat.intCast_le_intCast.1 u2
  have v3 : -(l : Int) * (D : Int) = -((l : Int) * (D : Int)) := by rw [Int.neg_mul]
  rw [v3] at v2
  have : ((a.natAbs : Nat) : Int) ≤ ((l * D : Nat) : Int) := by rw [Int.natCast_mul]; omega
  exact_mod_cast this
end Sx

set_option Elab.async false
set_option linter.all false
set_option maxRecDepth 100000
set_option maxHeartbeats 4000000
namespace Sx
open PySem PySem.Spec L2
abbrev s__law_draw : DSp := sDraw
theorem draw_go {n lim : Nat} {R : DV → Nat → Prop} {l : Int} (e : l = (lim : Int)) (h0 : 0 < lim) (h1 : lim < 2 ^ 200) (hn : n < LIM) (k : ∀ x : Nat, x < lim → R (IV (x : Int)) (n + 1)) : s__law_draw [.draws, IV l] n R := by
  subst e
  refine ⟨lim, rfl, by omega, ?_, hn, fun z z0 z1 => ?_⟩
  · have : (((lim : Nat) : Int)).natAbs = lim := by simp
    rw [this]
    exact logB (B.of h1) (by decide)
  · have := k z.toNat (by omega)
    rwa [Int.toNat_of_nonneg z0] at this
def s__law_cut : DSp := fun ds n R => ds = [.draws] ∧ n + 2 < LIM ∧ ∀ q : Rat, 0 < q → q < 1 → (q.den : Int) ≤ 8 → Sz 4 q → (∃ low : Nat, low ≤ 8 ∧ De low 1 q) → R (FV q) (n + 2)
/-- _law_cut. Slots: draws_so, low -/
def t__law_cut : DTS :=
  (dSeq (dAsg 1 (dOp oAdd (dC (.int 2)) (dCall s__law_draw (dCons (dVar 0) (dCons (dC (.int 7)) dNil)))))
  (dRet (dCall s__law_share (dCons (dOp oAdd (dC (.int 1)) (dCall s__law_draw (dCons (dVar 0) (dCons (dOp oSub (dVar 1) (dC (.int 1))) dNil)))) (dCons (dVar 1) dNil)))))
theorem div_pos' {a b : Int} (ha : 0 < a) (hb : 0 < b) : (0 : Rat) < (a : Rat) / (b : Rat) := by
  have h1 : (0 : Rat) < (b : Rat) := Rat.intCast_pos.2 hb
  have h2 : (0 : Rat) < (a : Rat) := Rat.intCast_pos.2 ha
  rw [Rat.lt_div_iff h1]
  grind
theorem div_lt_one {a b : Int} (ha : a < b) (hb : 0 < b) : (a : Rat) / (b : Rat) < 1 := by
  have h1 : (0 : Rat) < (b : Rat) := Rat.intCast_pos.2 hb
  have h2 : (a : Rat) < (b : Rat) := Rat.intCast_lt_intCast.2 ha
  rw [Rat.div_lt_iff h1]
  grind
theorem den_le_div {a b : Int} (hb : 0 < b) : ((((a : Rat) / (b : Rat)).den : Nat) : Int) ≤ b := by
  obtain ⟨_, e⟩ := red (a := a) hb
  rw [e]
  have g := gcd_pos (a := a) hb
  exact Int.ediv_le_self _ (by omega)
theorem p__law_cut (ds : List DV) (n : Nat) (R : DV → Nat → Prop) (h : s__law_cut ds n R) : Goal t__law_cut 2 ds n R := by
  obtain ⟨rfl, hn, k⟩ := h
  simp only [Goal, t__law_cut, dSliceA, oCatA, dIsi, pR3, pR4, pR5, dSeq, dAsg, dVar, dC, dOp, dUn, dCB, dCall, dCallK, pId, pRev, dCons, dNil, dTup, dLst, dRet, dRetN, dIfS, dTest, dNot, dAnd, dOr, dIf, dAndV, dOrV, dNotV, dNext, dDrop, dUnp, setAll, dPar, dPar3, dTy, tyD, dChain, dChain3, oI, oI0, oGcd, oLen, oAbs, oInt, ixT_tup, ixL_lst, fr_at0, fr_at1, oNeg, oEq, oNe, oRepr, oEqS, oCat, oRepL, allD, dSliceL, dSliceT, oCatT, oIsN, oNotN, isNone_fr, isNone_non, isNone_tup, isNone_list, isNone_int, isNone_bool, dPart, dNoPart, dAsgOwn, dFreeze, dParO2, dParO3, dPeekT, dPeekI, dYes, oSum, oTupOf, oMin, oIsB, oNotB, oMax, oMinL, dParOD, dParDO, dAppend, entry, atI_0, atI_1, atI_2, atI_3, List.map_cons, List.map_nil, List.length_cons, List.length_nil, List.set_cons_zero, List.set_cons_succ, List.getElem?_cons_zero, List.getElem?_cons_succ, List.cons_append, List.nil_append, Nat.reduceAdd, Nat.reduceSub, Nat.reduceLeDiff, List.replicate, Bool.false_eq_true, if_false, if_true, ite_true, ite_false, true_and, and_true, Bool.not_true, Bool.not_false, decide_true, decide_false]
  refine draw_go (lim := 7) rfl (by decide) (by decide) (by omega) fun x hx => ?_
  simp only [dSliceA, oCatA, dIsi, pR3, pR4, pR5, dSeq, dAsg, dVar, dC, dOp, dUn, dCB, dCall, dCallK, pId, pRev, dCons, dNil, dTup, dLst, dRet, dRetN, dIfS, dTest, dNot, dAnd, dOr, dIf, dAndV, dOrV, dNotV, dNext, dDrop, dUnp, setAll, dPar, dPar3, dTy, tyD, dChain, dChain3, oI, oI0, oGcd, oLen, oAbs, oInt, ixT_tup, ixL_lst, fr_at0, fr_at1, oNeg, oEq, oNe, oRepr, oEqS, oCat, oRepL, allD, dSliceL, dSliceT, oCatT, oIsN, oNotN, isNone_fr, isNone_non, isNone_tup, isNone_list, isNone_int, isNone_bool, dPart, dNoPart, dAsgOwn, dFreeze, dParO2, dParO3, dPeekT, dPeekI, dYes, oSum, oTupOf, oMin, oIsB, oNotB, oMax, oMinL, dParOD, dParDO, dAppend, entry, atI_0, atI_1, atI_2, atI_3, List.map_cons, List.map_nil, List.length_cons, List.length_nil, List.set_cons_zero, List.set_cons_succ, List.getElem?_cons_zero, List.getElem?_cons_succ, List.cons_append, List.nil_append, Nat.reduceAdd, Nat.reduceSub, Nat.reduceLeDiff, List.replicate, Bool.false_eq_true, if_false, if_true, ite_true, ite_false, true_and, and_true, Bool.not_true, Bool.not_false, decide_true, decide_false]
  refine draw_go (lim := 1 + x) (by omega) (by omega) (Nat.lt_trans (show 1 + x < 9 by omega) (by decide)) (by omega) fun y hy => ?_
  refine ⟨1 + (y : Int), 2 + (x : Int), rfl, by omega, (B_of (k := 4) (by omega) (by omega)).mono (by decide), (B_of (k := 4) (by omega) (by omega)).mono (by decide), ?_⟩
  refine k _ (div_pos' (by omega) (by omega)) (div_lt_one (by omega) (by omega)) (Int.le_trans (den_le_div (by omega)) (by omega)) ?_ ?_
  · exact Sz.of_div (by omega) (B_of (by omega) (by omega)) (B_of (by omega) (by omega))
  · exact ⟨2 + x, by omega, De.of (a := 1 + (y : Int)) (D := 2 + x) (by omega) (by omega)⟩
theorem one_sz : Sz 1 (1 : Rat) := ⟨B.of (by decide), B.of (by decide)⟩
end Sx

set_option Elab.async false
set_option linter.all false
set_option maxRecDepth 100000
set_option maxHeartbeats 4000000
namespace Sx
open PySem PySem.Spec L2
theorem tame_fr {k : Nat} {q : Rat} (h : Sz k q) (e : k ≤ 1900) : tame (fr q) := ⟨(h.n.mono e : B 1900 _), (den_B h).mono e, trivial⟩
theorem bulk_fr (q : Rat) : (fr q).bulk = 2 := by simp only [fr, PyData.bulk, PyData.bulkAll]
theorem depth_fr (q : Rat) : (fr q).depth = 1 := by simp only [fr, PyData.depth, PyData.depthAll]; rfl
theorem fr_of {q : Rat} {a : Int} {b : Int} (h1 : q.num = a) (h2 : (q.den : Int) = b) : PyData.tuple [.int a, .int b] = fr q := by
  subst h1 h2
  rfl
end Sx

set_option Elab.async false
set_option linter.all false
set_option maxRecDepth 100000
set_option maxHeartbeats 4000000
namespace Sx
open PySem PySem.Spec L2
end Sx

set_option Elab.async false
set_option linter.all false
set_option maxRecDepth 100000
set_option maxHeartbeats 4000000
namespace Sx
open PySem PySem.Spec L2
end Sx

namespace Sx
/-- the least whole number that is not below -/
def upQ (q : Rat) : Int := -((-q.num) / (q.den : Int))
theorem den_q (q : Rat) : (0 : Rat) < ((q.den : Int) : Rat) := Rat.intCast_pos.2 (by have := q.den_pos; omega)
theorem q_den (q : Rat) : q * ((q.den : Int) : Rat) = (q.num : Rat) := by
  have h := as_div q
  have d := den_q q
  generalize ((q.den : Int) : Rat) = x at *
  generalize ((q.num : Int) : Rat) = y at *
  have : x ≠ 0 := by grind
  rw [h]
  exact Rat.div_mul_cancel this
def tk (l s c k v : Rat) : Rat := if l < v + s then c * (v + s) + k else v + s
def lv (l s c k v : Rat) : Nat → Rat
  | 0 => v
  | j + 1 => tk l s c k (lv l s c k v j)
def sz1 (c h p : Rat) : Int := 1 - upQ (c * p - h)
def nx1 (c h p : Rat) : Rat := c * p - h + (sz1 c h p : Rat)
def sp (c h p : Rat) : Nat → Rat
  | 0 => p
  | i + 1 => nx1 c h (sp c h p i)
theorem De.intOver {D : Nat} (h : 0 < D) (i : Int) : De D i.natAbs (i : Rat) := by
  refine ⟨h, i * (D : Int), ?_, by rw [Int.natAbs_mul]; exact Nat.le_refl _⟩
  have z := cast_ne h
  rw [Rat.intCast_mul]
  generalize ((D : Int) : Rat) = x at *
  grind
theorem De.down {D m l : Nat} {q : Rat} (h : De D m q) (h1 : -((l : Int) : Rat) ≤ q) (h2 : q ≤ ((l : Int) : Rat)) : De D l q := by
  have a := De.intOver h.pos (l : Int)
  have b := a.neg
  have e : ((l : Int)).natAbs = l := by simp
  rw [e] at a b
  exact h.between b a h1 h2
end Sx

set_option Elab.async false
set_option linter.all false
set_option maxRecDepth 100000
set_option maxHeartbeats 8000000
namespace Sx
open PySem PySem.Spec L2
theorem fr_int (i : Int) : PyData.tuple [.int i, .int 1] = fr (i : Rat) := rfl
theorem sz_int {k : Nat} {i : Int} (h : B k i.natAbs) (e : 1 ≤ k) : Sz k (i : Rat) := ⟨by simpa using h, by
  have : ((i : Rat)).den = 1 := rfl
  rw [this]
  exact (B.of (by decide) : B 1 1).mono e⟩
end Sx

set_option Elab.async false
set_option linter.all false
set_option maxRecDepth 100000
set_option maxHeartbeats 4000000
namespace Sx
open PySem PySem.Spec L2
theorem fr_eq (p q : Rat) : (fr p = fr q) = (p = q) := by
  refine propext ⟨fun h => ?_, fun h => by rw [h]⟩
  simp only [fr, PyData.tuple.injEq, List.cons.injEq, PyData.int.injEq, and_true] at h
  exact Rat.ext h.1 (by exact_mod_cast h.2)
theorem natc_eq (a b : Nat) : ((a : Int) = (b : Int)) = (a = b) := propext ⟨fun h => by omega, fun h => by omega⟩
theorem e_is_integer (i : Int) (n : Nat) (R : DV → Nat → Prop) : s_is_integer [IV i] n R = (R (BV true) n) := by
  refine propext ⟨?_, fun hh => ⟨i, rfl, hh⟩⟩
  rintro ⟨i', hh, rr⟩
  simp only [List.cons.injEq, DV.dat.injEq, PyData.tuple.injEq, PyData.int.injEq, PyData.list.injEq, fr_eq, natc_eq, and_true, true_and] at hh
  try simp only [hh]
  first | exact rr | (subst hh; exact rr)
theorem e_need_part (q : Rat) (n : Nat) (R : DV → Nat → Prop) : s_need_part [FV q] n R = (Bd q ∧ 0 < q ∧ q < 1 ∧ (q.den : Int) ≤ 1000 ∧ R (FV q) n) := by
  refine propext ⟨?_, fun hh => ⟨q, rfl, hh⟩⟩
  rintro ⟨q', hh, rr⟩
  simp only [List.cons.injEq, DV.dat.injEq, PyData.tuple.injEq, PyData.int.injEq, PyData.list.injEq, fr_eq, natc_eq, and_true, true_and] at hh
  try simp only [hh]
  first | exact rr | (subst hh; exact rr)
theorem e__law_plus (p q : Rat) (n : Nat) (R : DV → Nat → Prop) : s__law_plus [FV p, FV q] n R = (Sz 2200 p ∧ Sz 2200 q ∧ R (FV (p + q)) n) := by
  refine propext ⟨?_, fun hh => ⟨p, q, rfl, hh⟩⟩
  rintro ⟨p', q', hh, rr⟩
  simp only [List.cons.injEq, DV.dat.injEq, PyData.tuple.injEq, PyData.int.injEq, PyData.list.injEq, fr_eq, natc_eq, and_true, true_and] at hh
  try simp only [hh]
  first | exact rr | (subst hh; exact rr)
theorem e__law_minus (p q : Rat) (n : Nat) (R : DV → Nat → Prop) : s__law_minus [FV p, FV q] n R = (Sz 2200 p ∧ Sz 2200 q ∧ R (FV (p - q)) n) := by
  refine propext ⟨?_, fun hh => ⟨p, q, rfl, hh⟩⟩
  rintro ⟨p', q', hh, rr⟩
  simp only [List.cons.injEq, DV.dat.injEq, PyData.tuple.injEq, PyData.int.injEq, PyData.list.injEq, fr_eq, natc_eq, and_true, true_and] at hh
  try simp only [hh]
  first | exact rr | (subst hh; exact rr)
theorem e__law_times (p q : Rat) (n : Nat) (R : DV → Nat → Prop) : s__law_times [FV p, FV q] n R = (Sz 2200 p ∧ Sz 2200 q ∧ R (FV (p * q)) n) := by
  refine propext ⟨?_, fun hh => ⟨p, q, rfl, hh⟩⟩
  rintro ⟨p', q', hh, rr⟩
  simp only [List.cons.injEq, DV.dat.injEq, PyData.tuple.injEq, PyData.int.injEq, PyData.list.injEq, fr_eq, natc_eq, and_true, true_and] at hh
  try simp only [hh]
  first | exact rr | (subst hh; exact rr)
theorem e__law_below (p q : Rat) (n : Nat) (R : DV → Nat → Prop) : s__law_below [FV p, FV q] n R = (Sz 2200 p ∧ Sz 2200 q ∧ R (BV (decide (p < q))) n) := by
  refine propext ⟨?_, fun hh => ⟨p, q, rfl, hh⟩⟩
  rintro ⟨p', q', hh, rr⟩
  simp only [List.cons.injEq, DV.dat.injEq, PyData.tuple.injEq, PyData.int.injEq, PyData.list.injEq, fr_eq, natc_eq, and_true, true_and] at hh
  try simp only [hh]
  first | exact rr | (subst hh; exact rr)
theorem e_reduced (a b : Int) (n : Nat) (R : DV → Nat → Prop) : s_reduced [IV a, IV b] n R = (0 < b ∧ B 8500 a.natAbs ∧ B 8500 b.natAbs ∧ R (FV ((a : Rat) / (b : Rat))) n) := by
  refine propext ⟨?_, fun hh => ⟨a, b, rfl, hh⟩⟩
  rintro ⟨a', b', hh, rr⟩
  simp only [List.cons.injEq, DV.dat.injEq, PyData.tuple.injEq, PyData.int.injEq, PyData.list.injEq, fr_eq, natc_eq, and_true, true_and] at hh
  try simp only [hh]
  first | exact rr | (subst hh; exact rr)
theorem e__law_cut (n : Nat) (R : DV → Nat → Prop) : s__law_cut [.draws] n R = (n + 2 < LIM ∧ ∀ q : Rat, 0 < q → q < 1 → (q.den : Int) ≤ 8 → Sz 4 q → (∃ low : Nat, low ≤ 8 ∧ De low 1 q) → R (FV q) (n + 2)) := propext ⟨fun h => h.2, fun h => ⟨rfl, h⟩⟩
theorem e__law_overR (a b : Int) (q : Rat) (n : Nat) (R : DV → Nat → Prop) : s__law_over [.dat (.tuple [.int a, .int b]), FV q] n R = ((0 < b ∧ B 2200 a.natAbs ∧ B 2200 b.natAbs) ∧ Sz 2200 q ∧ 0 < q ∧ R (FV ((a : Rat) / (b : Rat) / q)) n) := by
  refine propext ⟨?_, fun ⟨h1, h2, h3, k⟩ => ⟨a, b, q, rfl, h1, h2, h3, k⟩⟩
  rintro ⟨a', b', q', hh, h1, h2, h3, k⟩
  simp only [List.cons.injEq, DV.dat.injEq, PyData.tuple.injEq, PyData.int.injEq, fr_eq, and_true] at hh
  obtain ⟨⟨rfl, rfl⟩, rfl⟩ := hh
  exact ⟨h1, h2, h3, k⟩
theorem num_over_den (p : Rat) : (p.num : Rat) / ((p.den : Int) : Rat) = p := by
  have h := q_den0 p
  have d0 : (0 : Rat) < ((p.den : Int) : Rat) := Rat.intCast_pos.2 (den_pos p)
  generalize ((p.den : Int) : Rat) = x at *
  have h1 : x ≠ 0 := by grind
  rw [← h]
  grind
theorem e__law_over (p q : Rat) (n : Nat) (R : DV → Nat → Prop) : s__law_over [FV p, FV q] n R = (Sz 2200 p ∧ Sz 2200 q ∧ 0 < q ∧ R (FV (p / q)) n) := by
  have h := e__law_overR p.num p.den q n R
  rw [num_over_den] at h
  refine h.trans (propext ⟨fun ⟨⟨_, h1, h2⟩, r⟩ => ⟨⟨h1, by simpa using h2⟩, r⟩, fun ⟨h1, r⟩ => ⟨⟨den_pos p, h1.n, den_B h1⟩, r⟩⟩)
theorem e_like (a : PyData) (n : Nat) (R : DV → Nat → Prop) : s__law_like [.dat a, .dat a] n R = ((seqD a = true ∧ Tidy a) ∧ R (BV true) n) := by
  refine propext ⟨?_, fun ⟨⟨h1, h2⟩, h3⟩ => ⟨a, a, rfl, rfl, h1, h2, h3⟩⟩
  rintro ⟨x, y, hh, rfl, h1, h2, h3⟩
  simp only [List.cons.injEq, DV.dat.injEq, and_true] at hh
  obtain ⟨rfl, _⟩ := hh
  exact ⟨⟨h1, h2⟩, h3⟩
end Sx

set_option Elab.async false
set_option linter.all false
set_option maxRecDepth 100000
set_option maxHeartbeats 4000000
namespace Sx
open PySem PySem.Spec L2
def s_need_number : DSp := fun ds n R => ∃ i a b : Int, ds = [IV i, IV a, IV b] ∧ a ≤ i ∧ i ≤ b ∧ R (IV i) n
/-- need_number. Slots: value, least, most -/
def t_need_number : DTS :=
  (dSeq (dIfS (dOr (dNot (dTest (dCall s_is_integer (dCons (dVar 0) dNil)))) (dNot (dTest (dChain oLe oLe (dVar 1) (dVar 0) (dVar 2))))) dNever dNext)
  (dRet (dVar 0)))
theorem p_need_number (ds : List DV) (n : Nat) (R : DV → Nat → Prop) (h : s_need_number ds n R) : Goal t_need_number 3 ds n R := by
  obtain ⟨i, a, b, rfl, h1, h2, k⟩ := h
  simp only [Goal, t_need_number, dSliceA, oCatA, dIsi, pR3, pR4, pR5, dSeq, dAsg, dVar, dC, dOp, dUn, dCB, dCall, dCallK, pId, pRev, dCons, dNil, dTup, dLst, dRet, dRetN, dIfS, dTest, dNot, dAnd, dOr, dIf, dAndV, dOrV, dNotV, dNext, dDrop, dUnp, setAll, dPar, dPar3, dTy, tyD, dChain, dChain3, oI, oI0, oGcd, oLen, oAbs, oInt, ixT_tup, ixL_lst, fr_at0, fr_at1, oNeg, oEq, oNe, oRepr, oEqS, oCat, oRepL, allD, dSliceL, dSliceT, oCatT, oIsN, oNotN, isNone_fr, isNone_non, isNone_tup, isNone_list, isNone_int, isNone_bool, dPart, dNoPart, dAsgOwn, dFreeze, dParO2, dParO3, dPeekT, dPeekI, dYes, oSum, oTupOf, oMin, oIsB, oNotB, oMax, oMinL, dParOD, dParDO, dAppend, entry, atI_0, atI_1, atI_2, atI_3, List.map_cons, List.map_nil, List.length_cons, List.length_nil, List.set_cons_zero, List.set_cons_succ, List.getElem?_cons_zero, List.getElem?_cons_succ, List.cons_append, List.nil_append, Nat.reduceAdd, Nat.reduceSub, Nat.reduceLeDiff, List.replicate, Bool.false_eq_true, if_false, if_true, ite_true, ite_false, true_and, and_true, Bool.not_true, Bool.not_false, decide_true, decide_false, e_is_integer, h1, h2]
  exact k
/-- a PART, a HEIGHT from it on -/
structure Ht (c h : Rat) : Prop where
  bc : Bd c
  c0 : 0 < c
  c1 : c < 1
  cd : (c.den : Int) ≤ 1000
  bh : Bd h
  ch : c ≤ h
end Sx

set_option Elab.async false
set_option linter.all false
set_option maxRecDepth 100000
set_option maxHeartbeats 4000000
namespace Sx
open PySem PySem.Spec L2
theorem Ht.zc {c h : Rat} (A : Ht c h) : Sz 10 c := by
  have h1 := num_lt_den A.c1
  have h0 := (num_pos_iff c).2 A.c0
  have hd := A.cd
  have e : (2 : Nat) ^ 10 = 1024 := by decide
  constructor
  · unfold B; omega
  · unfold B; omega
theorem Ht.zh {c h : Rat} (A : Ht c h) : Sz 100 h := A.bh.sz
end Sx

set_option Elab.async false
set_option linter.all false
set_option maxRecDepth 100000
set_option maxHeartbeats 4000000
namespace Sx
open PySem PySem.Spec L2
theorem forR_go {i : Nat} {lim : Int} {N : Nat} {body rest : DTS} {F : DEnds} {env : En} {n : Nat} (e : lim = (N : Int)) (hN : N < 2 ^ 62) (I : Nat → En → Nat → Prop) (h0 : I 0 env n)
    (hS : ∀ k env n, k < N → I k env n → body { F with nx := I (k + 1), ct := I (k + 1), bk := rest F } (env.set i (some (IV (k : Int)))) n) (hE : ∀ env n, I N env n → rest F env n) : dSeq (dForR i (dC (.int lim)) body) rest F env n := by
  subst e
  refine ⟨⟨by omega, by omega⟩, I, h0, fun k env n hk => ?_, fun env n => ?_⟩
  · exact hS k env n (by simpa using hk)
  · simpa using hE env n
theorem forR2_go {i : Nat} {tl : DTA} {tb : DTS} {F : DEnds} {env : En} {n : Nat} (a b : Int) (n1 : Nat) (I : Nat → En → Nat → Prop) (h : ∀ R : List DV → Nat → Prop, R [IV a, IV b] n1 → tl env n R) (hb : -(2 ^ 62) ≤ a ∧ a < 2 ^ 62 ∧ -(2 ^ 62) ≤ b ∧ b < 2 ^ 62) (h0 : I 0 env n1)
    (hS : ∀ (k : Nat) env n, (k : Int) < b - a → I k env n → tb { F with nx := I (k + 1), ct := I (k + 1), bk := F.nx } (env.set i (some (IV (a + (k : Int))))) n) (hE : ∀ env n, I (b - a).toNat env n → F.nx env n) : dForR2 i tl tb F env n :=
  h _ ⟨hb, I, h0, fun k env n hk => hS k env n (by omega), hE⟩
theorem forRg_go {i : Nat} {ta : DT} {tb : DTS} {F : DEnds} {env : En} {n : Nat} (N : Nat) (n1 : Nat) (I : Nat → En → Nat → Prop) (hN : N < 2 ^ 62) (h : ∀ R : DV → Nat → Prop, R (IV (N : Int)) n1 → ta env n R) (h0 : I 0 env n1)
    (hS : ∀ k env n, k < N → I k env n → tb { F with nx := I (k + 1), ct := I (k + 1), bk := F.nx } (env.set i (some (IV (k : Int)))) n) (hE : ∀ env n, I N env n → F.nx env n) : dForR i ta tb F env n := by
  refine h _ ⟨⟨by omega, by omega⟩, I, h0, fun k env n hk => ?_, fun env n => ?_⟩
  · exact hS k env n (by simpa using hk)
  · simpa using hE env n
end Sx

set_option Elab.async false
set_option linter.all false
set_option maxRecDepth 100000
set_option maxHeartbeats 4000000
namespace Sx
open PySem PySem.Spec L2
theorem one_rat : ((1 : Int) : Rat) = 1 := rfl
end Sx

set_option Elab.async false
set_option linter.all false
set_option maxRecDepth 100000
set_option maxHeartbeats 8000000
namespace Sx
open PySem PySem.Spec L2
end Sx

set_option Elab.async false
set_option linter.all false
set_option maxRecDepth 100000
namespace Sx
open PySem L2
/-- a value taken apart -/
def unpK (is : List Nat) (F : DEnds) (env : En) (d : DV) (n : Nat) : Prop := match d with
  | .dat (.tuple ds) => ds.length = is.length ∧ F.nx (setAll env is ds) n
  | _ => False
section
variable (i j l : Nat) (is : List Nat) (env : En) (n : Nat) (F : DEnds) (d : PyData) (o : DO2) (u1 : DO1) (oc : DOC) (o' o'' : DO2) (ta tb tc td : DT) (tl : DTA) (S : DSp) (t u : DTB) (ts us : DTS) (lo hi : DTO) (T : String) (k : Bool)
variable (R : DV → Nat → Prop) (RB : Bool → Nat → Prop) (RA : List DV → Nat → Prop) (RO : Option Int → Nat → Prop)
theorem dVar_ap : dVar i env n R = (match env[i]? with | some (some (.dat d)) => R (.dat d) n | some (some .draws) => R .draws n | _ => False) := propext Iff.rfl
theorem dC_ap : dC d env n R = R (.dat d) n := propext Iff.rfl
theorem dOp_ap : dOp o ta tb env n R = ta env n fun x n1 => tb env n1 fun y n2 => o x y fun z => R z n2 := propext Iff.rfl
theorem dUn_ap : dUn u1 ta env n R = ta env n fun x n1 => u1 x fun z => R z n1 := propext Iff.rfl
theorem dCB_ap : dCB oc tl env n R = tl env n fun ds n1 => oc ds fun z => R z n1 := propext Iff.rfl
theorem dCall_ap : dCall S tl env n R = tl env n fun ds n1 => S ds n1 R := propext Iff.rfl
theorem dCallId_ap : dCallK S @pId tl env n R = tl env n fun ds n1 => S ds n1 R := propext Iff.rfl
theorem dCallK_ap (g : {α : Type} → List α → List α) : dCallK S g tl env n R = tl env n fun ds n1 => S (g ds) n1 R := propext Iff.rfl
theorem dNil_ap : dNil env n RA = RA [] n := propext Iff.rfl
theorem dCons_ap : dCons ta tl env n RA = ta env n fun x n1 => tl env n1 fun xs n2 => RA (x :: xs) n2 := propext Iff.rfl
theorem dTup_ap : dTup tl env n R = tl env n fun xs n1 => match allD xs with | some ds => ds.length ≤ 1000 ∧ R (TV ds) n1 | none => False := propext Iff.rfl
theorem dLst_ap : dLst tl env n R = tl env n fun xs n1 => match allD xs with | some ds => ds.length ≤ 1000 ∧ R (LV ds) n1 | none => False := propext Iff.rfl
theorem dTest_ap : dTest ta env n RB = ta env n fun z n' => match z with | .dat (.bool k) => RB k n' | _ => False := propext Iff.rfl
theorem dNot_ap : dNot t env n RB = t env n fun k n1 => RB (!k) n1 := propext Iff.rfl
theorem dAnd_ap : dAnd t u env n RB = t env n fun k n1 => if k = true then u env n1 RB else RB false n1 := propext Iff.rfl
theorem dOr_ap : dOr t u env n RB = t env n fun k n1 => if k = true then RB true n1 else u env n1 RB := propext Iff.rfl
theorem dIf_ap : dIf t ta tb env n R = t env n fun k n1 => if k = true then ta env n1 R else tb env n1 R := propext Iff.rfl
theorem dAndV_ap : dAndV ta tb env n R = ta env n fun x n1 => match x with | .dat (.bool k) => if k = true then tb env n1 R else R (BV false) n1 | _ => False := propext Iff.rfl
theorem dOrV_ap : dOrV ta tb env n R = ta env n fun x n1 => match x with | .dat (.bool k) => if k = true then R (BV true) n1 else tb env n1 R | _ => False := propext Iff.rfl
theorem dNotV_ap : dNotV ta env n R = ta env n fun x n1 => match x with | .dat (.bool k) => R (BV (!k)) n1 | _ => False := propext Iff.rfl
theorem dChain_ap : dChain o o' ta tb tc env n R = ta env n fun x n1 => tb env n1 fun y n2 => o x y fun z => match z with | .dat (.bool k) => if k = true then tc env n2 fun w n3 => o' y w fun q => R q n3 else R (BV false) n2 | _ => False := propext Iff.rfl
theorem dChain3_ap : dChain3 o o' o'' ta tb tc td env n R = ta env n fun x n1 => tb env n1 fun y n2 => o x y fun z => match z with
  | .dat (.bool k) => if k = true then tc env n2 fun u n3 => o' y u fun z' => match z' with
      | .dat (.bool k') => if k' = true then td env n3 fun w n4 => o'' u w fun q => R q n4 else R (BV false) n3
      | _ => False
    else R (BV false) n2
  | _ => False := propext Iff.rfl
theorem dTy_ap : dTy T k ta env n R = ta env n fun d n1 => match d with | .dat d => tyD d = T ∧ R (BV k) n1 | _ => False := propext Iff.rfl
theorem dIsi_ap : dIsi T ta env n R = ta env n fun d n1 => match d with | .dat d => tyD d = T ∧ R (BV true) n1 | _ => False := propext Iff.rfl
theorem dNoPart_ap : dNoPart env n RO = RO none n := propext Iff.rfl
theorem dPart_ap : dPart ta env n RO = ta env n fun z n' => match z with | .dat (.int i) => RO (some i) n' | _ => False := propext Iff.rfl
theorem dSliceL_ap : dSliceL ta lo hi env n R = ta env n fun d n1 => lo env n1 fun l n2 => hi env n2 fun u n3 => match d with | .dat (.list ds) => R (LV (cutD ds l u)) n3 | _ => False := propext Iff.rfl
theorem dSliceA_ap : dSliceA ta lo hi env n R = ta env n fun d n1 => lo env n1 fun l n2 => hi env n2 fun u n3 => match d with | .dat (.tuple ds) => R (TV (cutD ds l u)) n3 | _ => False := propext Iff.rfl
theorem dPeekT_ap : dPeekT i t env n RB = (match env[i]? with | some (some (.own ds)) => t (env.set i (some (LV ds))) n RB | _ => False) := propext Iff.rfl
theorem dPeekI_ap : dPeekI i ta env n R = (match env[i]? with | some (some (.own ds)) => ta (env.set i (some (LV ds))) n (fun d n1 => match d with | .dat (.int j) => R (IV j) n1 | _ => False) | _ => False) := propext Iff.rfl
theorem dYes_ap : dYes env n RB = RB true n := propext Iff.rfl
theorem dNext_ap : dNext F env n = F.nx env n := propext Iff.rfl
theorem dSeq_ap : dSeq ts us F env n = ts { F with nx := us F } env n := propext Iff.rfl
theorem dRet_ap : dRet ta F env n = ta env n F.rt := propext Iff.rfl
theorem dRetN_ap : dRetN F env n = F.rt (.dat .none) n := propext Iff.rfl
theorem dIfS_ap : dIfS t ts us F env n = t env n fun k n1 => if k = true then ts F env n1 else us F env n1 := propext Iff.rfl
theorem dDrop_ap : dDrop ta F env n = ta env n fun _ n1 => F.nx env n1 := propext Iff.rfl
theorem dAsg_ap : dAsg i ta F env n = ta env n fun d n1 => F.nx (env.set i (some d)) n1 := propext Iff.rfl
theorem dAsgOwn_ap : dAsgOwn i tl F env n = tl env n fun xs n1 => match allD xs with | some ds => ds.length ≤ 1000 ∧ F.nx (env.set i (some (.own ds))) n1 | none => False := propext Iff.rfl
theorem dFreeze_ap : dFreeze i ts F env n = (match env[i]? with | some (some (.own ds)) => ts F (env.set i (some (LV ds))) n | _ => False) := propext Iff.rfl
theorem dAppend_ap : dAppend i ta F env n = (match env[i]? with
  | some (some (.own _)) => ta env n fun d n1 => match env[i]?, d with
    | some (some (.own ds)), .dat y => ds.length < 5000 ∧ F.nx (env.set i (some (.own (ds ++ [y])))) n1
    | _, _ => False
  | _ => False) := propext Iff.rfl
theorem dUnp_ap : dUnp is ta F env n = ta env n fun d n1 => unpK is F env d n1 := propext Iff.rfl
theorem unpT_ap (ds : List PyData) : unpK is F env (.dat (.tuple ds)) n = (ds.length = is.length ∧ F.nx (setAll env is ds) n) := propext Iff.rfl
theorem unpF_ap (q : Rat) : unpK [i, j] F env (.dat (fr q)) n = F.nx ((env.set i (some (IV q.num))).set j (some (IV (q.den : Int)))) n := propext ⟨fun h => h.2, fun h => ⟨rfl, h⟩⟩
theorem dPar_ap : dPar i j tl F env n = tl env n fun xs n1 => match xs with | [x, y] => F.nx ((env.set i (some x)).set j (some y)) n1 | _ => False := propext Iff.rfl
theorem dPar3_ap : dPar3 i j l tl F env n = tl env n fun xs n1 => match xs with | [x, y, z] => F.nx (((env.set i (some x)).set j (some y)).set l (some z)) n1 | _ => False := propext Iff.rfl
theorem dParO2_ap : dParO2 i j F env n = (i ≠ j ∧ F.nx ((env.set i (some (.own []))).set j (some (.own []))) n) := propext Iff.rfl
theorem dParO3_ap : dParO3 i j l ta F env n = (i ≠ j ∧ ta env n fun d n1 => F.nx (((env.set i (some (.own []))).set j (some (.own []))).set l (some d)) n1) := propext Iff.rfl
theorem dParOD_ap : dParOD i j ta F env n = ta env n fun d n1 => F.nx ((env.set i (some (.own []))).set j (some d)) n1 := propext Iff.rfl
theorem dParDO_ap : dParDO i j ta F env n = ta env n fun d n1 => F.nx ((env.set i (some d)).set j (some (.own []))) n1 := propext Iff.rfl
theorem dBreak_ap : dBreak F env n = F.bk env n := propext Iff.rfl
theorem dCont_ap : dCont F env n = F.ct env n := propext Iff.rfl
end
section
variable (i j a b : Int) (ds fs : List PyData) (d f : PyData) (C : Int → Int → Prop) (g : Int → Int → PyData) (R : DV → Prop) (q : Rat) (x y : Bool) (u v : Str)
theorem oI_ap : oI C g (.dat (.int i)) (.dat (.int j)) R = (C i j ∧ R (.dat (g i j))) := propext Iff.rfl
theorem oI0_ap : oI0 g (.dat (.int i)) (.dat (.int j)) R = R (.dat (g i j)) := propext Iff.rfl
theorem oNeg_ap : oNeg (.dat (.int i)) R = R (IV (-i)) := propext Iff.rfl
theorem oEq_ap : oEq (.dat d) (.dat f) R = (SeqAt.shaped d = true ∧ SeqAt.shaped f = true ∧ R (BV (PyData.eqv d f))) := propext Iff.rfl
theorem oNe_ap : oNe (.dat d) (.dat f) R = (SeqAt.shaped d = true ∧ SeqAt.shaped f = true ∧ R (BV (!PyData.eqv d f))) := propext Iff.rfl
theorem oIxT_ap : oIxT (.dat (.tuple ds)) (.dat (.int i)) R = (match L2.atI ds i with | some d => R (.dat d) | none => False) := propext Iff.rfl
theorem oIxL_ap : oIxL (.dat (.list ds)) (.dat (.int i)) R = (match L2.atI ds i with | some d => R (.dat d) | none => False) := propext Iff.rfl
theorem oIx0_ap : oIxT (.dat (fr q)) (.dat (.int 0)) R = R (IV q.num) := fr_at0 q R
theorem oIx1_ap : oIxT (.dat (fr q)) (.dat (.int 1)) R = R (IV (q.den : Int)) := fr_at1 q R
theorem oIsN_ap : oIsN (.dat d) (.dat .none) R = R (BV (isNone d)) := propext Iff.rfl
theorem oNotN_ap : oNotN (.dat d) (.dat .none) R = R (BV (!isNone d)) := propext Iff.rfl
theorem oIsB_ap : oIsB (.dat (.bool x)) (.dat (.bool y)) R = R (BV (decide (x = y))) := propext Iff.rfl
theorem oNotB_ap : oNotB (.dat (.bool x)) (.dat (.bool y)) R = R (BV (!decide (x = y))) := propext Iff.rfl
theorem oEqS_ap : oEqS (.dat (.str u)) (.dat (.str v)) R = R (BV (decide (u = v))) := propext Iff.rfl
theorem oCat_ap : oCat (.dat (.list ds)) (.dat (.list fs)) R = (ds.length ≤ 100000 ∧ fs.length ≤ 100000 ∧ R (LV (ds ++ fs))) := propext Iff.rfl
theorem oCatA_ap : oCatA (.dat (.tuple ds)) (.dat (.tuple fs)) R = (ds.length ≤ 100000 ∧ fs.length ≤ 100000 ∧ R (TV (ds ++ fs))) := propext Iff.rfl
theorem oRepL_ap : oRepL (.dat (.list ds)) (.dat (.int i)) R = (0 ≤ i ∧ i ≤ 1000 ∧ ds.length ≤ 1000 ∧ R (LV (List.replicate i.toNat ds).flatten)) := propext Iff.rfl
theorem oLenT_ap : oLen [.dat (.tuple ds)] R = R (IV ds.length) := propext Iff.rfl
theorem oLenL_ap : oLen [.dat (.list ds)] R = R (IV ds.length) := propext Iff.rfl
theorem oAbs_ap : oAbs [.dat (.int i)] R = R (IV (if i < 0 then -i else i)) := propext Iff.rfl
theorem oInt_ap : oInt [.dat (.int i)] R = R (IV i) := propext Iff.rfl
theorem oGcd_ap : oGcd [.dat (.int i), .dat (.int j)] R = R (IV ((Nat.gcd i.natAbs j.natAbs : Nat) : Int)) := propext Iff.rfl
theorem oListT_ap : oList [.dat (.tuple ds)] R = R (LV ds) := propext Iff.rfl
theorem oListL_ap : oList [.dat (.list ds)] R = R (LV ds) := propext Iff.rfl
theorem oTupT_ap : oTupOf [.dat (.tuple ds)] R = R (TV ds) := propext Iff.rfl
theorem oTupL_ap : oTupOf [.dat (.list ds)] R = R (TV ds) := propext Iff.rfl
theorem oMin_ap : oMin [.dat (.int i), .dat (.int j)] R = R (IV (if j < i then j else i)) := propext Iff.rfl
theorem oSum_ap : oSum [.dat (.list ds)] R = (∃ ns : List Int, ds = ns.map .int ∧ R (IV ns.sum)) := propext Iff.rfl
theorem oMax_ap : oMax [.dat (.list ds)] R = (∃ (ns : List Int) (m : Int), ds = ns.map .int ∧ m ∈ ns ∧ (∀ y, y ∈ ns → y ≤ m) ∧ R (IV m)) := propext Iff.rfl
theorem oMinL_ap : oMinL [.dat (.list ds)] R = (∃ (ns : List Int) (m : Int), ds = ns.map .int ∧ m ∈ ns ∧ (∀ y, y ∈ ns → m ≤ y) ∧ R (IV m)) := propext Iff.rfl
theorem oLcm4_ap : oLcm4 [.dat (.int i), .dat (.int j), .dat (.int a), .dat (.int b)] R = ((i.natAbs < 2 ^ 500 ∧ j.natAbs < 2 ^ 500 ∧ a.natAbs < 2 ^ 500 ∧ b.natAbs < 2 ^ 500) ∧ R (IV (L4 i j a b : Nat))) := propext Iff.rfl
theorem allD_ap (r : List DV) : allD (.dat d :: r) = (match allD r with | some ds => some (d :: ds) | none => none) := Eq.trans rfl rfl
theorem fr_int_ap : PyData.tuple [.int i, .int 1] = fr (i : Rat) := Eq.trans (fr_int i) rfl
theorem allD_nil : allD [] = some [] := Eq.trans rfl rfl
theorem setAll_ap (env : En) (k : Nat) (is : List Nat) : setAll env (k :: is) (d :: ds) = setAll (env.set k (some (.dat d))) is ds := Eq.trans rfl rfl
theorem setAll_nil (env : En) : setAll env [] ds = env := by cases ds <;> rfl
end
end Sx

set_option Elab.async false
set_option linter.all false
set_option maxRecDepth 100000
set_option maxHeartbeats 4000000
namespace Sx
open PySem PySem.Spec L2
theorem powZ_B {b : Int} (h : B 10 b.natAbs) (i : Nat) : B (10 * i + 1) (b ^ i).natAbs := by
  unfold B at *
  rw [Int.natAbs_pow]
  have h1 : b.natAbs ^ i ≤ (2 ^ 10) ^ i := Nat.pow_le_pow_left (Nat.le_of_lt h) i
  rw [← Nat.pow_mul] at h1
  exact Nat.lt_of_le_of_lt h1 (Nat.pow_lt_pow_right (by decide) (by omega))
/-- the powers up to N are not too great -/
def PowOk (b : Int) (N : Nat) : Prop := ∀ i, i ≤ N → B 10001 (b ^ i).natAbs
theorem PowOk.of {b : Int} {N : Nat} (h : B 10 b.natAbs) (hN : N ≤ 1000) : PowOk b N := fun i hi => (powZ_B h i).mono (by omega)
def s_power : DSp := fun ds n R => ∃ b : Int, ∃ N : Nat, ds = [IV b, IV (N : Int)] ∧ PowOk b N ∧ N ≤ 1000 ∧ R (IV (b ^ N)) n
/-- power. Slots: base, number, result, square -/
def t_power : DTS :=
  (dSeq (dAsg 2 (dC (.int 1)))
  (dSeq (dAsg 3 (dVar 0))
  (dSeq (dWhile (dTest (dOp oGt (dVar 1) (dC (.int 0)))) (dSeq (dIfS (dTest (dOp oEq (dOp oOdd (dVar 1) (dC (.int 1))) (dC (.int 1)))) (dAsg 2 (dOp oMul (dVar 2) (dVar 3))) dNext)
  (dSeq (dAsg 1 (dOp oHalf (dVar 1) (dC (.int 1))))
  (dIfS (dTest (dOp oGt (dVar 1) (dC (.int 0)))) (dAsg 3 (dOp oMul (dVar 3) (dVar 3))) dNext))))
  (dRet (dVar 2)))))
theorem p_power (ds : List DV) (n : Nat) (R : DV → Nat → Prop) (hh : s_power ds n R) : Goal t_power 4 ds n R := by
  obtain ⟨b, N, rfl, hb, hN, k⟩ := hh
  unfold Goal t_power
  simp only [↓oOdd_ap, ↓oHalf_ap, ↓dAsg2_ap, ↓dTruL_ap, ↓dCatOwn_ap, ↓oRepT_ap, ↓dParDX_ap, ↓dVar_ap, ↓dC_ap, ↓dOp_ap, ↓dUn_ap, ↓dCB_ap, ↓dCall_ap, ↓dCallId_ap, ↓dNil_ap, ↓dCons_ap, ↓dTup_ap, ↓dLst_ap, ↓dTest_ap, ↓dNot_ap, ↓dAnd_ap, ↓dOr_ap, ↓dIf_ap, ↓dAndV_ap, ↓dOrV_ap, ↓dNotV_ap, ↓dChain_ap, ↓dChain3_ap, ↓dTy_ap, ↓dIsi_ap, ↓dNoPart_ap, ↓dPart_ap, ↓dSliceL_ap, ↓dSliceA_ap, ↓dPeekT_ap, ↓dPeekI_ap, ↓dYes_ap, ↓dNext_ap, ↓dSeq_ap, ↓dRet_ap, ↓dRetN_ap, ↓dIfS_ap, ↓dDrop_ap, ↓dAsg_ap, ↓dAsgOwn_ap, ↓dFreeze_ap, ↓dAppend_ap, ↓dUnp_ap, ↓unpF_ap, ↓unpT_ap, ↓dPar_ap, ↓dPar3_ap, ↓dParO2_ap, ↓dParO3_ap, ↓dParOD_ap, ↓dParDO_ap, ↓dBreak_ap, ↓dCont_ap, ↓oI_ap, ↓oI0_ap, ↓oNeg_ap, ↓oEq_ap, ↓oNe_ap, ↓oIxT_ap, ↓oIxL_ap, ↓oIx0_ap, ↓oIx1_ap, ↓oIsN_ap, ↓oNotN_ap, ↓oIsB_ap, ↓oNotB_ap, ↓oEqS_ap, ↓oCat_ap, ↓oCatA_ap, ↓oRepL_ap, ↓oLenT_ap, ↓oLenL_ap, ↓oAbs_ap, ↓oInt_ap, ↓oGcd_ap, ↓oListT_ap, ↓oListL_ap, ↓oTupT_ap, ↓oTupL_ap, ↓oMin_ap, ↓oSum_ap, ↓oMax_ap, ↓oMinL_ap, ↓oLcm4_ap, ↓allD_ap, ↓allD_nil, ↓setAll_ap, ↓setAll_nil, TV, LV, IV, BV, FV, atI_0, atI_1, atI_2, atI_3, List.map_cons, List.map_nil, List.length_cons, List.length_nil, List.set_cons_zero, List.set_cons_succ, List.getElem?_cons_zero, List.getElem?_cons_succ, List.cons_append, List.nil_append, Nat.reduceAdd, Nat.reduceSub, Nat.reduceLeDiff, List.replicate, Bool.false_eq_true, if_false, if_true, ite_true, ite_false, true_and, and_true, Bool.not_true, Bool.not_false, decide_true, decide_false, entry, isNone_fr, isNone_non, isNone_tup, isNone_list, isNone_int, isNone_bool, pId, pRev, pR3, pR4, pR5, ↓dCallK_ap]
  refine ⟨fun m env m' => m' = n ∧ ∃ i j : Nat, ∃ s : Int, i + j * m = N ∧ (0 < m → s = b ^ j) ∧ env = [some (IV b), some (IV (m : Int)), some (IV (b ^ i)), some (IV s)], ⟨N, rfl, 0, 1, b, by omega, fun _ => by rw [Int.pow_succ, Int.pow_zero, Int.one_mul], by rw [Int.pow_zero]⟩, ?_⟩
  rintro m env m' ⟨rfl, i, j, s, e, hs, rfl⟩
  by_cases h0 : m = 0
  · subst h0
    have ei : i = N := by omega
    subst ei
    have d0 : ¬ (0 : Int) < ((0 : Nat) : Int) := by omega
    simp only [↓oOdd_ap, ↓oHalf_ap, ↓dAsg2_ap, ↓dTruL_ap, ↓dCatOwn_ap, ↓oRepT_ap, ↓dParDX_ap, ↓dVar_ap, ↓dC_ap, ↓dOp_ap, ↓dUn_ap, ↓dCB_ap, ↓dCall_ap, ↓dCallId_ap, ↓dNil_ap, ↓dCons_ap, ↓dTup_ap, ↓dLst_ap, ↓dTest_ap, ↓dNot_ap, ↓dAnd_ap, ↓dOr_ap, ↓dIf_ap, ↓dAndV_ap, ↓dOrV_ap, ↓dNotV_ap, ↓dChain_ap, ↓dChain3_ap, ↓dTy_ap, ↓dIsi_ap, ↓dNoPart_ap, ↓dPart_ap, ↓dSliceL_ap, ↓dSliceA_ap, ↓dPeekT_ap, ↓dPeekI_ap, ↓dYes_ap, ↓dNext_ap, ↓dSeq_ap, ↓dRet_ap, ↓dRetN_ap, ↓dIfS_ap, ↓dDrop_ap, ↓dAsg_ap, ↓dAsgOwn_ap, ↓dFreeze_ap, ↓dAppend_ap, ↓dUnp_ap, ↓unpF_ap, ↓unpT_ap, ↓dPar_ap, ↓dPar3_ap, ↓dParO2_ap, ↓dParO3_ap, ↓dParOD_ap, ↓dParDO_ap, ↓dBreak_ap, ↓dCont_ap, ↓oI_ap, ↓oI0_ap, ↓oNeg_ap, ↓oEq_ap, ↓oNe_ap, ↓oIxT_ap, ↓oIxL_ap, ↓oIx0_ap, ↓oIx1_ap, ↓oIsN_ap, ↓oNotN_ap, ↓oIsB_ap, ↓oNotB_ap, ↓oEqS_ap, ↓oCat_ap, ↓oCatA_ap, ↓oRepL_ap, ↓oLenT_ap, ↓oLenL_ap, ↓oAbs_ap, ↓oInt_ap, ↓oGcd_ap, ↓oListT_ap, ↓oListL_ap, ↓oTupT_ap, ↓oTupL_ap, ↓oMin_ap, ↓oSum_ap, ↓oMax_ap, ↓oMinL_ap, ↓oLcm4_ap, ↓allD_ap, ↓allD_nil, ↓setAll_ap, ↓setAll_nil, TV, LV, IV, BV, FV, atI_0, atI_1, atI_2, atI_3, List.map_cons, List.map_nil, List.length_cons, List.length_nil, List.set_cons_zero, List.set_cons_succ, List.getElem?_cons_zero, List.getElem?_cons_succ, List.cons_append, List.nil_append, Nat.reduceAdd, Nat.reduceSub, Nat.reduceLeDiff, List.replicate, Bool.false_eq_true, if_false, if_true, ite_true, ite_false, true_and, and_true, Bool.not_true, Bool.not_false, decide_true, decide_false, entry, isNone_fr, isNone_non, isNone_tup, isNone_list, isNone_int, isNone_bool, pId, pRev, pR3, pR4, pR5, ↓dCallK_ap, decide_eq_false d0]
    exact k
  · have m0 : (0 : Int) < (m : Int) := by omega
    have es := hs (by omega)
    subst es
    have jm : j ≤ N := by
      have : j * 1 ≤ j * m := Nat.mul_le_mul_left j (by omega)
      omega
    have dm : j * m = j * (m % 2) + 2 * j * (m / 2) := by
      have h := Nat.div_add_mod m 2
      have h2 : j * m = j * (2 * (m / 2) + m % 2) := by rw [h]
      rw [h2, Nat.mul_add]
      have : j * (2 * (m / 2)) = 2 * j * (m / 2) := by rw [← Nat.mul_assoc, Nat.mul_comm j 2]
      omega
    have c1 : CMulW (b ^ i) (b ^ j) := mulB (hb i (by omega)) (hb j jm) (by decide)
    have c2 : CMulW (b ^ j) (b ^ j) := mulB (hb j jm) (hb j jm) (by decide)
    have ed : ((m : Int) / 2) = ((m / 2 : Nat) : Int) := by omega
    simp only [↓oOdd_ap, ↓oHalf_ap, ↓dAsg2_ap, ↓dTruL_ap, ↓dCatOwn_ap, ↓oRepT_ap, ↓dParDX_ap, ↓dVar_ap, ↓dC_ap, ↓dOp_ap, ↓dUn_ap, ↓dCB_ap, ↓dCall_ap, ↓dCallId_ap, ↓dNil_ap, ↓dCons_ap, ↓dTup_ap, ↓dLst_ap, ↓dTest_ap, ↓dNot_ap, ↓dAnd_ap, ↓dOr_ap, ↓dIf_ap, ↓dAndV_ap, ↓dOrV_ap, ↓dNotV_ap, ↓dChain_ap, ↓dChain3_ap, ↓dTy_ap, ↓dIsi_ap, ↓dNoPart_ap, ↓dPart_ap, ↓dSliceL_ap, ↓dSliceA_ap, ↓dPeekT_ap, ↓dPeekI_ap, ↓dYes_ap, ↓dNext_ap, ↓dSeq_ap, ↓dRet_ap, ↓dRetN_ap, ↓dIfS_ap, ↓dDrop_ap, ↓dAsg_ap, ↓dAsgOwn_ap, ↓dFreeze_ap, ↓dAppend_ap, ↓dUnp_ap, ↓unpF_ap, ↓unpT_ap, ↓dPar_ap, ↓dPar3_ap, ↓dParO2_ap, ↓dParO3_ap, ↓dParOD_ap, ↓dParDO_ap, ↓dBreak_ap, ↓dCont_ap, ↓oI_ap, ↓oI0_ap, ↓oNeg_ap, ↓oEq_ap, ↓oNe_ap, ↓oIxT_ap, ↓oIxL_ap, ↓oIx0_ap, ↓oIx1_ap, ↓oIsN_ap, ↓oNotN_ap, ↓oIsB_ap, ↓oNotB_ap, ↓oEqS_ap, ↓oCat_ap, ↓oCatA_ap, ↓oRepL_ap, ↓oLenT_ap, ↓oLenL_ap, ↓oAbs_ap, ↓oInt_ap, ↓oGcd_ap, ↓oListT_ap, ↓oListL_ap, ↓oTupT_ap, ↓oTupL_ap, ↓oMin_ap, ↓oSum_ap, ↓oMax_ap, ↓oMinL_ap, ↓oLcm4_ap, ↓allD_ap, ↓allD_nil, ↓setAll_ap, ↓setAll_nil, TV, LV, IV, BV, FV, atI_0, atI_1, atI_2, atI_3, List.map_cons, List.map_nil, List.length_cons, List.length_nil, List.set_cons_zero, List.set_cons_succ, List.getElem?_cons_zero, List.getElem?_cons_succ, List.cons_append, List.nil_append, Nat.reduceAdd, Nat.reduceSub, Nat.reduceLeDiff, List.replicate, Bool.false_eq_true, if_false, if_true, ite_true, ite_false, true_and, and_true, Bool.not_true, Bool.not_false, decide_true, decide_false, entry, isNone_fr, isNone_non, isNone_tup, isNone_list, isNone_int, isNone_bool, pId, pRev, pR3, pR4, pR5, ↓dCallK_ap, decide_eq_true m0]
    have sh : ∀ i : Int, SeqAt.shaped (.int i) = true := shaped_int
    have m2 : m / 2 < m := by omega
    have pp : ∀ a c : Nat, b ^ a * b ^ c = b ^ (a + c) := fun a c => (Int.pow_add b a c).symm
    by_cases hodd : m % 2 = 1
    · have eo : ((m : Int) % 2 == 1) = true := by
        have : (m : Int) % 2 = 1 := by omega
        rw [this]; rfl
      by_cases hp : 0 < m / 2
      · have d1 : (0 : Int) < (m : Int) / 2 := by omega
        simp only [eqv_int, eo, ↓oOdd_ap, ↓oHalf_ap, ↓dAsg2_ap, ↓dTruL_ap, ↓dCatOwn_ap, ↓oRepT_ap, ↓dParDX_ap, ↓dVar_ap, ↓dC_ap, ↓dOp_ap, ↓dUn_ap, ↓dCB_ap, ↓dCall_ap, ↓dCallId_ap, ↓dNil_ap, ↓dCons_ap, ↓dTup_ap, ↓dLst_ap, ↓dTest_ap, ↓dNot_ap, ↓dAnd_ap, ↓dOr_ap, ↓dIf_ap, ↓dAndV_ap, ↓dOrV_ap, ↓dNotV_ap, ↓dChain_ap, ↓dChain3_ap, ↓dTy_ap, ↓dIsi_ap, ↓dNoPart_ap, ↓dPart_ap, ↓dSliceL_ap, ↓dSliceA_ap, ↓dPeekT_ap, ↓dPeekI_ap, ↓dYes_ap, ↓dNext_ap, ↓dSeq_ap, ↓dRet_ap, ↓dRetN_ap, ↓dIfS_ap, ↓dDrop_ap, ↓dAsg_ap, ↓dAsgOwn_ap, ↓dFreeze_ap, ↓dAppend_ap, ↓dUnp_ap, ↓unpF_ap, ↓unpT_ap, ↓dPar_ap, ↓dPar3_ap, ↓dParO2_ap, ↓dParO3_ap, ↓dParOD_ap, ↓dParDO_ap, ↓dBreak_ap, ↓dCont_ap, ↓oI_ap, ↓oI0_ap, ↓oNeg_ap, ↓oEq_ap, ↓oNe_ap, ↓oIxT_ap, ↓oIxL_ap, ↓oIx0_ap, ↓oIx1_ap, ↓oIsN_ap, ↓oNotN_ap, ↓oIsB_ap, ↓oNotB_ap, ↓oEqS_ap, ↓oCat_ap, ↓oCatA_ap, ↓oRepL_ap, ↓oLenT_ap, ↓oLenL_ap, ↓oAbs_ap, ↓oInt_ap, ↓oGcd_ap, ↓oListT_ap, ↓oListL_ap, ↓oTupT_ap, ↓oTupL_ap, ↓oMin_ap, ↓oSum_ap, ↓oMax_ap, ↓oMinL_ap, ↓oLcm4_ap, ↓allD_ap, ↓allD_nil, ↓setAll_ap, ↓setAll_nil, TV, LV, IV, BV, FV, atI_0, atI_1, atI_2, atI_3, List.map_cons, List.map_nil, List.length_cons, List.length_nil, List.set_cons_zero, List.set_cons_succ, List.getElem?_cons_zero, List.getElem?_cons_succ, List.cons_append, List.nil_append, Nat.reduceAdd, Nat.reduceSub, Nat.reduceLeDiff, List.replicate, Bool.false_eq_true, if_false, if_true, ite_true, ite_false, true_and, and_true, Bool.not_true, Bool.not_false, decide_true, decide_false, entry, isNone_fr, isNone_non, isNone_tup, isNone_list, isNone_int, isNone_bool, pId, pRev, pR3, pR4, pR5, ↓dCallK_ap, decide_eq_true d1, pp, sh]
        rw [hodd] at dm
        refine ⟨by omega, c1, by omega, c2, m / 2, m2, i + j, j + j, b ^ (j + j), ?_, fun _ => rfl, by rw [ed]⟩
        have : (j + j) * (m / 2) = 2 * j * (m / 2) := by rw [Nat.two_mul]
        omega
      · have d1 : ¬ (0 : Int) < (m : Int) / 2 := by omega
        have m1 : m = 1 := by omega
        subst m1
        simp only [eqv_int, eo, ↓oOdd_ap, ↓oHalf_ap, ↓dAsg2_ap, ↓dTruL_ap, ↓dCatOwn_ap, ↓oRepT_ap, ↓dParDX_ap, ↓dVar_ap, ↓dC_ap, ↓dOp_ap, ↓dUn_ap, ↓dCB_ap, ↓dCall_ap, ↓dCallId_ap, ↓dNil_ap, ↓dCons_ap, ↓dTup_ap, ↓dLst_ap, ↓dTest_ap, ↓dNot_ap, ↓dAnd_ap, ↓dOr_ap, ↓dIf_ap, ↓dAndV_ap, ↓dOrV_ap, ↓dNotV_ap, ↓dChain_ap, ↓dChain3_ap, ↓dTy_ap, ↓dIsi_ap, ↓dNoPart_ap, ↓dPart_ap, ↓dSliceL_ap, ↓dSliceA_ap, ↓dPeekT_ap, ↓dPeekI_ap, ↓dYes_ap, ↓dNext_ap, ↓dSeq_ap, ↓dRet_ap, ↓dRetN_ap, ↓dIfS_ap, ↓dDrop_ap, ↓dAsg_ap, ↓dAsgOwn_ap, ↓dFreeze_ap, ↓dAppend_ap, ↓dUnp_ap, ↓unpF_ap, ↓unpT_ap, ↓dPar_ap, ↓dPar3_ap, ↓dParO2_ap, ↓dParO3_ap, ↓dParOD_ap, ↓dParDO_ap, ↓dBreak_ap, ↓dCont_ap, ↓oI_ap, ↓oI0_ap, ↓oNeg_ap, ↓oEq_ap, ↓oNe_ap, ↓oIxT_ap, ↓oIxL_ap, ↓oIx0_ap, ↓oIx1_ap, ↓oIsN_ap, ↓oNotN_ap, ↓oIsB_ap, ↓oNotB_ap, ↓oEqS_ap, ↓oCat_ap, ↓oCatA_ap, ↓oRepL_ap, ↓oLenT_ap, ↓oLenL_ap, ↓oAbs_ap, ↓oInt_ap, ↓oGcd_ap, ↓oListT_ap, ↓oListL_ap, ↓oTupT_ap, ↓oTupL_ap, ↓oMin_ap, ↓oSum_ap, ↓oMax_ap, ↓oMinL_ap, ↓oLcm4_ap, ↓allD_ap, ↓allD_nil, ↓setAll_ap, ↓setAll_nil, TV, LV, IV, BV, FV, atI_0, atI_1, atI_2, atI_3, List.map_cons, List.map_nil, List.length_cons, List.length_nil, List.set_cons_zero, List.set_cons_succ, List.getElem?_cons_zero, List.getElem?_cons_succ, List.cons_append, List.nil_append, Nat.reduceAdd, Nat.reduceSub, Nat.reduceLeDiff, List.replicate, Bool.false_eq_true, if_false, if_true, ite_true, ite_false, true_and, and_true, Bool.not_true, Bool.not_false, decide_true, decide_false, entry, isNone_fr, isNone_non, isNone_tup, isNone_list, isNone_int, isNone_bool, pId, pRev, pR3, pR4, pR5, ↓dCallK_ap, decide_eq_false d1, pp, sh]
        refine ⟨by omega, c1, by omega, 0, by omega, i + j, j, b ^ j, by omega, fun h => absurd h (by omega), rfl⟩
    · have m20 : m % 2 = 0 := by omega
      have eo : ((m : Int) % 2 == 1) = false := by
        have : (m : Int) % 2 = 0 := by omega
        rw [this]; rfl
      have d1 : (0 : Int) < (m : Int) / 2 := by omega
      simp only [eqv_int, eo, ↓oOdd_ap, ↓oHalf_ap, ↓dAsg2_ap, ↓dTruL_ap, ↓dCatOwn_ap, ↓oRepT_ap, ↓dParDX_ap, ↓dVar_ap, ↓dC_ap, ↓dOp_ap, ↓dUn_ap, ↓dCB_ap, ↓dCall_ap, ↓dCallId_ap, ↓dNil_ap, ↓dCons_ap, ↓dTup_ap, ↓dLst_ap, ↓dTest_ap, ↓dNot_ap, ↓dAnd_ap, ↓dOr_ap, ↓dIf_ap, ↓dAndV_ap, ↓dOrV_ap, ↓dNotV_ap, ↓dChain_ap, ↓dChain3_ap, ↓dTy_ap, ↓dIsi_ap, ↓dNoPart_ap, ↓dPart_ap, ↓dSliceL_ap, ↓dSliceA_ap, ↓dPeekT_ap, ↓dPeekI_ap, ↓dYes_ap, ↓dNext_ap, ↓dSeq_ap, ↓dRet_ap, ↓dRetN_ap, ↓dIfS_ap, ↓dDrop_ap, ↓dAsg_ap, ↓dAsgOwn_ap, ↓dFreeze_ap, ↓dAppend_ap, ↓dUnp_ap, ↓unpF_ap, ↓unpT_ap, ↓dPar_ap, ↓dPar3_ap, ↓dParO2_ap, ↓dParO3_ap, ↓dParOD_ap, ↓dParDO_ap, ↓dBreak_ap, ↓dCont_ap, ↓oI_ap, ↓oI0_ap, ↓oNeg_ap, ↓oEq_ap, ↓oNe_ap, ↓oIxT_ap, ↓oIxL_ap, ↓oIx0_ap, ↓oIx1_ap, ↓oIsN_ap, ↓oNotN_ap, ↓oIsB_ap, ↓oNotB_ap, ↓oEqS_ap, ↓oCat_ap, ↓oCatA_ap, ↓oRepL_ap, ↓oLenT_ap, ↓oLenL_ap, ↓oAbs_ap, ↓oInt_ap, ↓oGcd_ap, ↓oListT_ap, ↓oListL_ap, ↓oTupT_ap, ↓oTupL_ap, ↓oMin_ap, ↓oSum_ap, ↓oMax_ap, ↓oMinL_ap, ↓oLcm4_ap, ↓allD_ap, ↓allD_nil, ↓setAll_ap, ↓setAll_nil, TV, LV, IV, BV, FV, atI_0, atI_1, atI_2, atI_3, List.map_cons, List.map_nil, List.length_cons, List.length_nil, List.set_cons_zero, List.set_cons_succ, List.getElem?_cons_zero, List.getElem?_cons_succ, List.cons_append, List.nil_append, Nat.reduceAdd, Nat.reduceSub, Nat.reduceLeDiff, List.replicate, Bool.false_eq_true, if_false, if_true, ite_true, ite_false, true_and, and_true, Bool.not_true, Bool.not_false, decide_true, decide_false, entry, isNone_fr, isNone_non, isNone_tup, isNone_list, isNone_int, isNone_bool, pId, pRev, pR3, pR4, pR5, ↓dCallK_ap, decide_eq_true d1, pp, sh]
      rw [m20] at dm
      refine ⟨by omega, by omega, c2, m / 2, m2, i, j + j, b ^ (j + j), ?_, fun _ => rfl, by rw [ed]⟩
      have : (j + j) * (m / 2) = 2 * j * (m / 2) := by rw [Nat.two_mul]
      omega
theorem e_power (b : Int) (N : Nat) (n : Nat) (R : DV → Nat → Prop) : s_power [IV b, IV (N : Int)] n R = (PowOk b N ∧ N ≤ 1000 ∧ R (IV (b ^ N)) n) := by
  refine propext ⟨?_, fun hh => ⟨b, N, rfl, hh⟩⟩
  rintro ⟨b', N', hh, rr⟩
  simp only [List.cons.injEq, DV.dat.injEq, PyData.tuple.injEq, PyData.int.injEq, PyData.list.injEq, fr_eq, natc_eq, and_true, true_and] at hh
  try simp only [hh]
  first | exact rr | (subst hh; exact rr)
theorem ixF0 (q : Rat) (f : DV → Prop) : oIxT (.dat (fr q)) (.dat (.int 0)) f = f (.dat (.int q.num)) := propext Iff.rfl
theorem ixF1 (q : Rat) (f : DV → Prop) : oIxT (.dat (fr q)) (.dat (.int 1)) f = f (.dat (.int (q.den : Int))) := propext Iff.rfl
def upT (q : Rat) (t : Int) : Int := -((-t * q.num) / (q.den : Int))
def thK (q : Rat) (t : Nat) : Int := upT q ((t : Int) + 1) - upT q (t : Int)
def rsS (c q : Rat) : Nat → Int
  | 0 => 0
  | t + 1 => rsS c q t * c.num + thK q t * (c.den : Int) ^ t
def s_powers_apart : DSp := fun ds n R => ∃ c : Rat, ∃ N : Nat, ds = [FV c, IV (N : Int)] ∧ Sz 10 c ∧ N ≤ 1000 ∧ R (IV ((c.den : Int) ^ N - c.num ^ N)) n
/-- powers_apart. Slots: part, number -/
def t_powers_apart : DTS :=
  (dRet (dOp oSub (dCall s_power (dCons (dOp oIxT (dVar 0) (dC (.int 1))) (dCons (dVar 1) dNil))) (dCall s_power (dCons (dOp oIxT (dVar 0) (dC (.int 0))) (dCons (dVar 1) dNil)))))
theorem e_powers_apart (c : Rat) (N : Nat) (n : Nat) (R : DV → Nat → Prop) : s_powers_apart [FV c, IV (N : Int)] n R = (Sz 10 c ∧ N ≤ 1000 ∧ R (IV ((c.den : Int) ^ N - c.num ^ N)) n) := by
  refine propext ⟨?_, fun hh => ⟨c, N, rfl, hh⟩⟩
  rintro ⟨c', N', hh, rr⟩
  simp only [List.cons.injEq, DV.dat.injEq, PyData.tuple.injEq, PyData.int.injEq, PyData.list.injEq, fr_eq, natc_eq, and_true, true_and] at hh
  try simp only [hh]
  first | exact rr | (subst hh; exact rr)
theorem p_powers_apart (ds : List DV) (n : Nat) (R : DV → Nat → Prop) (hh : s_powers_apart ds n R) : Goal t_powers_apart 2 ds n R := by
  obtain ⟨c, N, rfl, zc, hN, k⟩ := hh
  unfold Goal t_powers_apart
  simp only [↓oOdd_ap, ↓oHalf_ap, ↓dAsg2_ap, ↓dTruL_ap, ↓dCatOwn_ap, ↓oRepT_ap, ↓dParDX_ap, ↓dVar_ap, ↓dC_ap, ↓dOp_ap, ↓dUn_ap, ↓dCB_ap, ↓dCall_ap, ↓dCallId_ap, ↓dNil_ap, ↓dCons_ap, ↓dTup_ap, ↓dLst_ap, ↓dTest_ap, ↓dNot_ap, ↓dAnd_ap, ↓dOr_ap, ↓dIf_ap, ↓dAndV_ap, ↓dOrV_ap, ↓dNotV_ap, ↓dChain_ap, ↓dChain3_ap, ↓dTy_ap, ↓dIsi_ap, ↓dNoPart_ap, ↓dPart_ap, ↓dSliceL_ap, ↓dSliceA_ap, ↓dPeekT_ap, ↓dPeekI_ap, ↓dYes_ap, ↓dNext_ap, ↓dSeq_ap, ↓dRet_ap, ↓dRetN_ap, ↓dIfS_ap, ↓dDrop_ap, ↓dAsg_ap, ↓dAsgOwn_ap, ↓dFreeze_ap, ↓dAppend_ap, ↓dUnp_ap, ↓unpF_ap, ↓unpT_ap, ↓dPar_ap, ↓dPar3_ap, ↓dParO2_ap, ↓dParO3_ap, ↓dParOD_ap, ↓dParDO_ap, ↓dBreak_ap, ↓dCont_ap, ↓oI_ap, ↓oI0_ap, ↓oNeg_ap, ↓oEq_ap, ↓oNe_ap, ↓oIxT_ap, ↓oIxL_ap, ↓oIx0_ap, ↓oIx1_ap, ↓oIsN_ap, ↓oNotN_ap, ↓oIsB_ap, ↓oNotB_ap, ↓oEqS_ap, ↓oCat_ap, ↓oCatA_ap, ↓oRepL_ap, ↓oLenT_ap, ↓oLenL_ap, ↓oAbs_ap, ↓oInt_ap, ↓oGcd_ap, ↓oListT_ap, ↓oListL_ap, ↓oTupT_ap, ↓oTupL_ap, ↓oMin_ap, ↓oSum_ap, ↓oMax_ap, ↓oMinL_ap, ↓oLcm4_ap, ↓allD_ap, ↓allD_nil, ↓setAll_ap, ↓setAll_nil, TV, LV, IV, BV, FV, atI_0, atI_1, atI_2, atI_3, List.map_cons, List.map_nil, List.length_cons, List.length_nil, List.set_cons_zero, List.set_cons_succ, List.getElem?_cons_zero, List.getElem?_cons_succ, List.cons_append, List.nil_append, Nat.reduceAdd, Nat.reduceSub, Nat.reduceLeDiff, List.replicate, Bool.false_eq_true, if_false, if_true, ite_true, ite_false, true_and, and_true, Bool.not_true, Bool.not_false, decide_true, decide_false, entry, isNone_fr, isNone_non, isNone_tup, isNone_list, isNone_int, isNone_bool, pId, pRev, pR3, pR4, pR5, ↓dCallK_ap, ↓ixF0, ↓ixF1, ↓e_power]
  exact ⟨PowOk.of (den_B zc) hN, hN, PowOk.of zc.n hN, hN, k⟩
structure Prt (c : Rat) : Prop where
  b : Bd c
  c0 : 0 < c
  c1 : c < 1
  cd : (c.den : Int) ≤ 1000
theorem one_le_num {q : Rat} (h : 1 ≤ q) : (q.den : Int) ≤ q.num := by
  have h1 := q_den q
  have h2 := Rat.mul_le_mul_of_nonneg_right h (Rat.le_of_lt (den_q q))
  rw [h1, Rat.one_mul] at h2
  exact Rat.intCast_le_intCast.1 h2
def fsP (c q : Rat) : Rat := (((c.den : Int) * (c.den : Int) * rsS c q q.den : Int) : Rat) / ((((c.den : Int) - c.num) * ((c.den : Int) ^ q.den - c.num ^ q.den) : Int) : Rat)
theorem pow_lt_pow {a b : Int} (h0 : 0 < a) (h : a < b) : ∀ n : Nat, a ^ (n + 1) < b ^ (n + 1)
  | 0 => by rw [Int.pow_succ, Int.pow_succ, Int.pow_zero, Int.pow_zero]; omega
  | n + 1 => by
    have ih := pow_lt_pow h0 h n
    have p : 0 < b ^ (n + 1) := Int.pow_pos (by omega)
    rw [Int.pow_succ a (n + 1), Int.pow_succ b (n + 1)]
    have h1 : a ^ (n + 1) * a < b ^ (n + 1) * a := Int.mul_lt_mul_of_pos_right ih h0
    have h2 : b ^ (n + 1) * a < b ^ (n + 1) * b := Int.mul_lt_mul_of_pos_left h p
    omega
end Sx

set_option Elab.async false
set_option linter.all false
set_option maxRecDepth 100000
set_option maxHeartbeats 4000000
namespace Sx
def pwQ (c : Rat) : Nat → Rat
  | 0 => 1
  | k + 1 => pwQ c k * c
theorem pwQ_pos {c : Rat} (h : 0 < c) : ∀ n, 0 < pwQ c n
  | 0 => by show (0 : Rat) < 1; decide +kernel
  | n + 1 => Rat.mul_pos (pwQ_pos h n) h
theorem pwQ_lt {c : Rat} (h : 0 < c) (h1 : c < 1) : ∀ n, pwQ c (n + 1) < 1
  | 0 => by show 1 * c < 1; grind
  | n + 1 => by
    have a := pwQ_lt h h1 n
    have b := Rat.mul_lt_mul_of_pos_right a h
    show pwQ c (n + 1) * c < 1
    grind
/-- f (k + 1), .., f (k + n) by powers -/
def sgm (c : Rat) (f : Nat → Rat) (k : Nat) : Nat → Rat
  | 0 => 0
  | n + 1 => sgm c f k n + pwQ c n * f (k + n + 1)
theorem sgm_front (c : Rat) (f : Nat → Rat) (k : Nat) : ∀ n, sgm c f k (n + 1) = f (k + 1) + c * sgm c f (k + 1) n
  | 0 => by show 0 + 1 * f (k + 0 + 1) = f (k + 1) + c * 0; rw [Nat.add_zero]; grind
  | n + 1 => by
    have ih := sgm_front c f k n
    have e1 : sgm c f k (n + 1 + 1) = sgm c f k (n + 1) + pwQ c (n + 1) * f (k + (n + 1) + 1) := rfl
    have e2 : sgm c f (k + 1) (n + 1) = sgm c f (k + 1) n + pwQ c n * f (k + 1 + n + 1) := rfl
    have e3 : pwQ c (n + 1) = pwQ c n * c := rfl
    have e4 : k + (n + 1) + 1 = k + 1 + n + 1 := by omega
    rw [e1, e2, e3, e4, ih]
    generalize f (k + 1 + n + 1) = x
    generalize sgm c f (k + 1) n = y
    generalize pwQ c n = z
    grind
/-- f grows by P in Q steps -/
def Grow (f : Nat → Rat) (Q : Nat) (P : Rat) : Prop := ∀ k, f (k + Q) = f k + P
/-- the sum without end from k on -/
def tailS (c : Rat) (f : Nat → Rat) (Q : Nat) (P : Rat) (k : Nat) : Rat := sgm c f k Q / (1 - pwQ c Q) + P * pwQ c Q / ((1 - c) * (1 - pwQ c Q))
theorem tailS_step {c P : Rat} {f : Nat → Rat} {Q : Nat} (c1 : c < 1) (q1 : pwQ c Q < 1) (g : Grow f Q P) (k : Nat) : tailS c f Q P k = f (k + 1) + c * tailS c f Q P (k + 1) := by
  have h := sgm_front c f k Q
  have e1 : sgm c f k (Q + 1) = sgm c f k Q + pwQ c Q * f (k + Q + 1) := rfl
  have e2 : f (k + Q + 1) = f (k + 1) + P := by
    have := g (k + 1)
    have e : k + 1 + Q = k + Q + 1 := by omega
    rw [e] at this
    exact this
  rw [e1, e2] at h
  unfold tailS
  generalize sgm c f (k + 1) Q = y at *
  generalize sgm c f k Q = x at *
  generalize pwQ c Q = z at *
  generalize f (k + 1) = w at *
  have z1 : 1 - z ≠ 0 := by grind
  have z2 : 1 - c ≠ 0 := by grind
  have hy : c * y = x + z * (w + P) - w := by grind
  have e3 : c * (y / (1 - z) + P * z / ((1 - c) * (1 - z))) = (c * y) / (1 - z) + c * P * z / ((1 - c) * (1 - z)) := by grind
  rw [e3, hy]
  grind
theorem sgm_shift {c P : Rat} {f : Nat → Rat} {Q : Nat} (c1 : c < 1) (g : Grow f Q P) (k : Nat) : ∀ n, sgm c f (k + Q) n = sgm c f k n + P * ((1 - pwQ c n) / (1 - c))
  | 0 => by
    have z2 : 1 - c ≠ 0 := by grind
    show (0 : Rat) = 0 + P * ((1 - 1) / (1 - c))
    grind
  | n + 1 => by
    have ih := sgm_shift c1 g k n
    have e1 : sgm c f (k + Q) (n + 1) = sgm c f (k + Q) n + pwQ c n * f (k + Q + n + 1) := rfl
    have e2 : sgm c f k (n + 1) = sgm c f k n + pwQ c n * f (k + n + 1) := rfl
    have e3 : pwQ c (n + 1) = pwQ c n * c := rfl
    have e4 : f (k + Q + n + 1) = f (k + n + 1) + P := by
      have := g (k + n + 1)
      have e : k + n + 1 + Q = k + Q + n + 1 := by omega
      rw [e] at this
      exact this
    rw [e1, e2, e3, e4, ih]
    have z2 : 1 - c ≠ 0 := by grind
    generalize sgm c f k n = x
    generalize pwQ c n = z
    generalize f (k + n + 1) = w
    grind
theorem tailS_grow {c P : Rat} {f : Nat → Rat} {Q : Nat} (c1 : c < 1) (q1 : pwQ c Q < 1) (g : Grow f Q P) (k : Nat) : tailS c f Q P (k + Q) = tailS c f Q P k + P / (1 - c) := by
  unfold tailS
  rw [sgm_shift c1 g k Q]
  have z1 : 1 - pwQ c Q ≠ 0 := by grind
  have z2 : 1 - c ≠ 0 := by grind
  generalize sgm c f k Q = x
  generalize pwQ c Q = z at *
  grind
theorem down_le {c : Rat} {D : Nat → Rat} (c0 : 0 < c) (h : ∀ k, c * D (k + 1) ≤ D k) (k : Nat) : ∀ n, pwQ c n * D (k + n) ≤ D k
  | 0 => by show 1 * D (k + 0) ≤ D k; rw [Nat.add_zero, Rat.one_mul]; exact Rat.le_refl
  | n + 1 => by
    have ih := down_le c0 h k n
    have z := Rat.mul_le_mul_of_nonneg_left (h (k + n)) (Rat.le_of_lt (pwQ_pos c0 n))
    show pwQ c n * c * D (k + (n + 1)) ≤ D k
    have e : k + (n + 1) = k + n + 1 := by omega
    rw [e, Rat.mul_assoc]
    exact Rat.le_trans z ih
theorem down_pos {c : Rat} {D : Nat → Rat} {Q : Nat} (c0 : 0 < c) (q1 : pwQ c Q < 1) (h : ∀ k, c * D (k + 1) ≤ D k) (p : ∀ k, D k ≤ D (k + Q)) (k : Nat) : 0 ≤ D k := by
  have a := down_le c0 h k Q
  have b := Rat.mul_le_mul_of_nonneg_left (p k) (Rat.le_of_lt (pwQ_pos c0 Q))
  have e : 0 ≤ D k * (1 - pwQ c Q) := by grind
  by_cases z : 0 ≤ D k
  · exact z
  · exfalso
    have z' : D k < 0 := Rat.not_le.1 z
    have y : 0 < 1 - pwQ c Q := by grind
    have := Rat.mul_lt_mul_of_pos_right z' y
    grind
theorem tailS_pos {c P : Rat} {f : Nat → Rat} {Q : Nat} (c0 : 0 < c) (c1 : c < 1) (q1 : pwQ c Q < 1) (g : Grow f Q P) (f0 : ∀ k, 0 ≤ f k) (P0 : 0 ≤ P) (k : Nat) : 0 ≤ tailS c f Q P k := by
  refine down_pos (Q := Q) c0 q1 (fun k => ?_) (fun k => ?_) k
  · rw [tailS_step c1 q1 g k]
    have := f0 (k + 1)
    grind
  · rw [tailS_grow c1 q1 g k]
    have y : 0 < 1 - c := by grind
    have : 0 ≤ P / (1 - c) := by
      rw [Rat.div_def]
      exact Rat.mul_nonneg P0 (Rat.le_of_lt (Rat.inv_pos.2 y))
    grind
theorem tailS_le {c P : Rat} {f f' : Nat → Rat} {Q : Nat} (c0 : 0 < c) (c1 : c < 1) (q1 : pwQ c Q < 1) (g : Grow f Q P) (g' : Grow f' Q P) (le : ∀ k, f k ≤ f' k) (k : Nat) : tailS c f Q P k ≤ tailS c f' Q P k := by
  have := down_pos (D := fun k => tailS c f' Q P k - tailS c f Q P k) (Q := Q) c0 q1 (fun k => ?_) (fun k => ?_) k
  · have h : 0 ≤ tailS c f' Q P k - tailS c f Q P k := this
    grind
  · show c * (tailS c f' Q P (k + 1) - tailS c f Q P (k + 1)) ≤ tailS c f' Q P k - tailS c f Q P k
    rw [tailS_step c1 q1 g k, tailS_step c1 q1 g' k]
    have := le (k + 1)
    grind
  · show tailS c f' Q P k - tailS c f Q P k ≤ tailS c f' Q P (k + Q) - tailS c f Q P (k + Q)
    rw [tailS_grow c1 q1 g k, tailS_grow c1 q1 g' k]
    grind
/-- the row r, 2 r, 3 r, .. -/
def linF (r : Rat) (k : Nat) : Rat := ((k : Int) : Rat) * r
theorem natc_add (a b : Nat) : (((a + b : Nat) : Int) : Rat) = ((a : Int) : Rat) + ((b : Int) : Rat) := by
  have : ((a + b : Nat) : Int) = (a : Int) + (b : Int) := by omega
  rw [this, Rat.intCast_add]
theorem linF_grow (r : Rat) (Q : Nat) : Grow (linF r) Q (((Q : Int) : Rat) * r) := fun k => by
  unfold linF
  rw [natc_add]
  grind
theorem tailS_lin {c r : Rat} {Q : Nat} (c0 : 0 < c) (c1 : c < 1) (q1 : pwQ c Q < 1) (k : Nat) : tailS c (linF r) Q (((Q : Int) : Rat) * r) k = (((k + 1 : Nat) : Int) : Rat) * r / (1 - c) + c * r / ((1 - c) * (1 - c)) := by
  have z2 : 1 - c ≠ 0 := by grind
  have g := linF_grow r Q
  have one : (((1 : Nat) : Int) : Rat) = 1 := rfl
  have st : ∀ k : Nat, (((k + 1 : Nat) : Int) : Rat) * r / (1 - c) + c * r / ((1 - c) * (1 - c)) = linF r (k + 1) + c * ((((k + 1 + 1 : Nat) : Int) : Rat) * r / (1 - c) + c * r / ((1 - c) * (1 - c))) := fun k => by
    unfold linF
    rw [natc_add (k + 1) 1, natc_add k 1, one]
    generalize ((k : Int) : Rat) = x
    grind
  have gr : ∀ k : Nat, (((k + Q + 1 : Nat) : Int) : Rat) * r / (1 - c) + c * r / ((1 - c) * (1 - c)) = (((k + 1 : Nat) : Int) : Rat) * r / (1 - c) + c * r / ((1 - c) * (1 - c)) + ((Q : Int) : Rat) * r / (1 - c) := fun k => by
    have e : k + Q + 1 = k + 1 + Q := by omega
    rw [e, natc_add (k + 1) Q]
    generalize (((k + 1 : Nat) : Int) : Rat) = x
    generalize ((Q : Int) : Rat) = y
    grind
  have h1 := down_pos (D := fun k => tailS c (linF r) Q (((Q : Int) : Rat) * r) k - ((((k + 1 : Nat) : Int) : Rat) * r / (1 - c) + c * r / ((1 - c) * (1 - c)))) (Q := Q) c0 q1 (fun k => by
    show c * (tailS c (linF r) Q (((Q : Int) : Rat) * r) (k + 1) - ((((k + 1 + 1 : Nat) : Int) : Rat) * r / (1 - c) + c * r / ((1 - c) * (1 - c)))) ≤ tailS c (linF r) Q (((Q : Int) : Rat) * r) k - ((((k + 1 : Nat) : Int) : Rat) * r / (1 - c) + c * r / ((1 - c) * (1 - c)))
    rw [tailS_step c1 q1 g k, st k]
    grind) (fun k => by
    show tailS c (linF r) Q (((Q : Int) : Rat) * r) k - ((((k + 1 : Nat) : Int) : Rat) * r / (1 - c) + c * r / ((1 - c) * (1 - c))) ≤ tailS c (linF r) Q (((Q : Int) : Rat) * r) (k + Q) - ((((k + Q + 1 : Nat) : Int) : Rat) * r / (1 - c) + c * r / ((1 - c) * (1 - c)))
    rw [tailS_grow c1 q1 g k, gr k]
    grind) k
  have h2 := down_pos (D := fun k => ((((k + 1 : Nat) : Int) : Rat) * r / (1 - c) + c * r / ((1 - c) * (1 - c))) - tailS c (linF r) Q (((Q : Int) : Rat) * r) k) (Q := Q) c0 q1 (fun k => by
    show c * (((((k + 1 + 1 : Nat) : Int) : Rat) * r / (1 - c) + c * r / ((1 - c) * (1 - c))) - tailS c (linF r) Q (((Q : Int) : Rat) * r) (k + 1)) ≤ ((((k + 1 : Nat) : Int) : Rat) * r / (1 - c) + c * r / ((1 - c) * (1 - c))) - tailS c (linF r) Q (((Q : Int) : Rat) * r) k
    rw [tailS_step c1 q1 g k, st k]
    grind) (fun k => by
    show ((((k + 1 : Nat) : Int) : Rat) * r / (1 - c) + c * r / ((1 - c) * (1 - c))) - tailS c (linF r) Q (((Q : Int) : Rat) * r) k ≤ ((((k + Q + 1 : Nat) : Int) : Rat) * r / (1 - c) + c * r / ((1 - c) * (1 - c))) - tailS c (linF r) Q (((Q : Int) : Rat) * r) (k + Q)
    rw [tailS_grow c1 q1 g k, gr k]
    grind) k
  have h1' : 0 ≤ tailS c (linF r) Q (((Q : Int) : Rat) * r) k - ((((k + 1 : Nat) : Int) : Rat) * r / (1 - c) + c * r / ((1 - c) * (1 - c))) := h1
  have h2' : 0 ≤ ((((k + 1 : Nat) : Int) : Rat) * r / (1 - c) + c * r / ((1 - c) * (1 - c))) - tailS c (linF r) Q (((Q : Int) : Rat) * r) k := h2
  generalize tailS c (linF r) Q (((Q : Int) : Rat) * r) k = x at *
  generalize (((k + 1 : Nat) : Int) : Rat) * r / (1 - c) + c * r / ((1 - c) * (1 - c)) = y at *
  grind
/-- Horner's sum of the differences, the last one first -/
def hor (c : Rat) (K : Nat → Rat) : Nat → Rat
  | 0 => 0
  | t + 1 => c * hor c K t + K t
theorem hor_tail {c P : Rat} {f K : Nat → Rat} {Q : Nat} (c1 : c < 1) (q1 : pwQ c Q < 1) (g : Grow f Q P) (hK : ∀ j, j < Q → K (Q - 1 - j) = f (j + 1) - f j) : ∀ t, t ≤ Q → hor c K t = ((1 - c) * tailS c f Q P (Q - t) - f (Q - t)) - pwQ c t * ((1 - c) * tailS c f Q P Q - f Q)
  | 0, _ => by show (0 : Rat) = _ - 1 * _; rw [Nat.sub_zero]; grind
  | t + 1, h => by
    have ih := hor_tail c1 q1 g hK t (by omega)
    have k1 := hK (Q - 1 - t) (by omega)
    have e1 : Q - 1 - (Q - 1 - t) = t := by omega
    have e2 : Q - 1 - t + 1 = Q - t := by omega
    have e3 : Q - (t + 1) = Q - 1 - t := by omega
    rw [e1, e2] at k1
    have st := tailS_step c1 q1 g (Q - 1 - t)
    rw [e2] at st
    show c * hor c K t + K t = _
    rw [ih, k1, e3, st]
    show _ = _ - pwQ c t * c * _
    generalize tailS c f Q P (Q - t) = x
    generalize f (Q - t) = y
    generalize pwQ c t = z
    grind
theorem hor_all {c P : Rat} {f K : Nat → Rat} {Q : Nat} (c1 : c < 1) (q1 : pwQ c Q < 1) (g : Grow f Q P) (f0 : f 0 = 0) (hK : ∀ j, j < Q → K (Q - 1 - j) = f (j + 1) - f j) : hor c K Q = (1 - c) * (1 - pwQ c Q) * tailS c f Q P 0 := by
  have h := hor_tail c1 q1 g hK Q (Nat.le_refl _)
  have gr := tailS_grow c1 q1 g 0
  have fg := g 0
  rw [Nat.zero_add] at gr fg
  rw [Nat.sub_self] at h
  rw [h, gr, fg, f0]
  have z2 : 1 - c ≠ 0 := by grind
  generalize tailS c f Q P 0 = x
  generalize pwQ c Q = z
  grind
end Sx

set_option Elab.async false
set_option linter.all false
set_option maxRecDepth 100000
set_option maxHeartbeats 4000000
namespace Sx
open PySem PySem.Spec L2
def flQ (q : Rat) (M : Nat) : Int := ((M : Int) * q.num) / (q.den : Int)
def flF (q : Rat) (M : Nat) : Rat := (flQ q M : Rat)
theorem flF_grow (q : Rat) : Grow (flF q) q.den (q.num : Rat) := fun k => by
  have dp := q.den_pos
  have e : ((k + q.den : Nat) : Int) * q.num = (k : Int) * q.num + q.num * (q.den : Int) := by
    have : ((k + q.den : Nat) : Int) = (k : Int) + (q.den : Int) := by omega
    rw [this, Int.add_mul, Int.mul_comm (q.den : Int)]
  unfold flF flQ
  rw [e, Int.add_mul_ediv_right _ _ (by omega), Rat.intCast_add]
theorem flF_zero (q : Rat) : flF q 0 = 0 := by
  unfold flF flQ
  have : ((0 : Nat) : Int) * q.num = 0 := by simp
  rw [this]
  simp
theorem flF_le (q : Rat) (k : Nat) : flF q k ≤ linF q k := by
  have dp := q.den_pos
  have h : ((k : Int) * q.num) / (q.den : Int) * (q.den : Int) ≤ (k : Int) * q.num := Int.ediv_mul_le _ (by omega)
  have h2 := Rat.intCast_le_intCast.2 h
  rw [Rat.intCast_mul, Rat.intCast_mul, ← q_den q] at h2
  unfold flF flQ linF
  have z := den_q q
  generalize ((((k : Int) * q.num) / (q.den : Int) : Int) : Rat) = x at *
  generalize ((k : Int) : Rat) = y at *
  generalize ((q.den : Int) : Rat) = w at *
  have h3 : x * w ≤ (y * q) * w := by grind
  by_cases t : x ≤ y * q
  · exact t
  · exfalso
    have := Rat.mul_lt_mul_of_pos_right (Rat.not_le.1 t) z
    grind
theorem thK_fl (q : Rat) {j : Nat} (hj : j < q.den) : thK q (q.den - 1 - j) = flQ q (j + 1) - flQ q j := by
  have dp := q.den_pos
  have up : ∀ i : Nat, i ≤ q.den → upT q (((q.den - i : Nat) : Int)) = q.num - flQ q i := fun i hi => by
    have e : -(((q.den - i : Nat) : Int)) * q.num = (i : Int) * q.num + (-q.num) * (q.den : Int) := by
      have : (((q.den - i : Nat)) : Int) = (q.den : Int) - (i : Int) := by omega
      rw [this]
      grind
    unfold upT flQ
    rw [e, Int.add_mul_ediv_right _ _ (by omega)]
    omega
  have a := up j (by omega)
  have b := up (j + 1) (by omega)
  unfold thK
  have e1 : (((q.den - 1 - j : Nat)) : Int) + 1 = ((q.den - j : Nat) : Int) := by omega
  have e2 : q.den - 1 - j = q.den - (j + 1) := by omega
  rw [e1, a, e2, b]
  omega
theorem rsS_hor (c q : Rat) : ∀ t, (rsS c q t : Rat) * ((c.den : Int) : Rat) = pwQ ((c.den : Int) : Rat) t * hor c (fun i => (thK q i : Rat)) t
  | 0 => by
    show ((0 : Int) : Rat) * _ = 1 * 0
    have : ((0 : Int) : Rat) = 0 := rfl
    rw [this]; grind
  | t + 1 => by
    have ih := rsS_hor c q t
    have pe : ∀ t : Nat, (((c.den : Int) ^ t : Int) : Rat) = pwQ ((c.den : Int) : Rat) t := fun t => by
      induction t with
      | zero => rfl
      | succ t ih => rw [Int.pow_succ, Rat.intCast_mul, ih]; rfl
    have cn := q_den c
    show ((rsS c q t * c.num + thK q t * (c.den : Int) ^ t : Int) : Rat) * _ = pwQ _ t * _ * (c * hor c _ t + (thK q t : Rat))
    rw [Rat.intCast_add, Rat.intCast_mul, Rat.intCast_mul, pe, ← cn]
    generalize hor c (fun i => (thK q i : Rat)) t = x at *
    generalize (thK q t : Rat) = y at *
    generalize pwQ ((c.den : Int) : Rat) t = z at *
    generalize ((c.den : Int) : Rat) = w at *
    generalize (rsS c q t : Rat) = v at *
    grind
theorem pow_split (c : Rat) : ∀ t : Nat, ((c.num ^ t : Int) : Rat) = pwQ c t * (((c.den : Int) ^ t : Int) : Rat)
  | 0 => by
    rw [Int.pow_zero, Int.pow_zero]
    show ((1 : Int) : Rat) = 1 * ((1 : Int) : Rat)
    rw [Rat.one_mul]
  | t + 1 => by
    rw [Int.pow_succ, Int.pow_succ, Rat.intCast_mul, Rat.intCast_mul, pow_split c t, ← q_den c]
    show _ = pwQ c t * c * _
    grind
theorem fsP_eq {c q : Rat} (C : Prt c) : fsP c q = tailS c (flF q) q.den (q.num : Rat) 0 := by
  have q0 := q.den_pos
  have ex : ∃ m, q.den = m + 1 := ⟨q.den - 1, by omega⟩
  obtain ⟨m, hm⟩ := ex
  have q1 : pwQ c q.den < 1 := by rw [hm]; exact pwQ_lt C.c0 C.c1 m
  have h := hor_all (K := fun i => (thK q i : Rat)) C.c1 q1 (flF_grow q) (flF_zero q) fun j hj => by
    show (thK q (q.den - 1 - j) : Rat) = _
    rw [thK_fl q hj, Rat.intCast_sub]
    rfl
  have r := rsS_hor c q q.den
  rw [h] at r
  have pe : ∀ t : Nat, (((c.den : Int) ^ t : Int) : Rat) = pwQ ((c.den : Int) : Rat) t := fun t => by
    induction t with
    | zero => rfl
    | succ t ih => rw [Int.pow_succ, Rat.intCast_mul, ih]; rfl
  have ps := pow_split c q.den
  rw [pe] at ps
  have dpos := den_q c
  have wp := pwQ_pos dpos q.den
  unfold fsP
  rw [Rat.intCast_mul, Rat.intCast_mul, Rat.intCast_mul, Rat.intCast_sub, Rat.intCast_sub, ps, pe, ← q_den c]
  have c1 := C.c1
  generalize tailS c (flF q) q.den (q.num : Rat) 0 = x at *
  generalize pwQ c q.den = y at *
  generalize pwQ ((c.den : Int) : Rat) q.den = z at *
  generalize ((c.den : Int) : Rat) = w at *
  generalize (rsS c q q.den : Rat) = v at *
  have a1 : 1 - c ≠ 0 := by grind
  have a2 : 1 - y ≠ 0 := by grind
  have a3 : z ≠ 0 := by grind
  have a4 : w ≠ 0 := by grind
  have e1 : w * w * v = w * (z * ((1 - c) * (1 - y) * x)) := by grind
  have e2 : (w - c * w) * (z - y * z) = w * z * ((1 - c) * (1 - y)) := by grind
  rw [e1, e2]
  have a5 : w * z * ((1 - c) * (1 - y)) ≠ 0 := by
    intro h0
    rcases Rat.mul_eq_zero.1 h0 with h0 | h0
    · rcases Rat.mul_eq_zero.1 h0 with h0 | h0 <;> contradiction
    · rcases Rat.mul_eq_zero.1 h0 with h0 | h0 <;> contradiction
  have e3 : w * (z * ((1 - c) * (1 - y) * x)) = x * (w * z * ((1 - c) * (1 - y))) := by grind
  rw [e3]
  generalize w * z * ((1 - c) * (1 - y)) = u at *
  grind
end Sx

set_option Elab.async false
set_option linter.all false
set_option maxRecDepth 100000
set_option maxHeartbeats 4000000
namespace Sx
open PySem PySem.Spec L2
/-- what a drawn mean is -/
structure Pr (q : Rat) : Prop where
  one : 1 ≤ q
  den : q.den ≤ 12
  num : q.num ≤ 100
/-- what the law's own ends are asked of -/
structure Pq (q : Rat) : Prop where
  one : 1 ≤ q
  den : q.den ≤ 60
  num : q.num ≤ 1000
theorem Pr.pq {q : Rat} (h : Pr q) : Pq q := ⟨h.one, by have := h.den; omega, by have := h.num; omega⟩
theorem Pr.of {a b : Int} (b0 : 0 < b) (b12 : b ≤ 12) (ab : b ≤ a) (a1 : a ≤ 100) : Pr ((a : Rat) / (b : Rat)) := by
  obtain ⟨e1, e2⟩ := red (a := a) b0
  have g : (0 : Int) < (Nat.gcd a.natAbs b.natAbs : Nat) := by
    have := Nat.gcd_pos_of_pos_right a.natAbs (show 0 < b.natAbs by omega)
    omega
  have h1 : a / (Nat.gcd a.natAbs b.natAbs : Nat) ≤ a := Int.ediv_le_self _ (by omega)
  have h2 : b / (Nat.gcd a.natAbs b.natAbs : Nat) ≤ b := Int.ediv_le_self _ (by omega)
  refine ⟨?_, by omega, by omega⟩
  have bp : (0 : Rat) < (b : Rat) := Rat.intCast_pos.2 b0
  have h := Rat.intCast_le_intCast.2 ab
  have e : (b : Rat) / (b : Rat) = 1 := by
    have : (b : Rat) ≠ 0 := by grind
    grind
  rw [← e, Rat.div_def, Rat.div_def]
  exact Rat.mul_le_mul_of_nonneg_right h (Rat.le_of_lt (Rat.inv_pos.2 bp))
theorem Pr.num0 {q : Rat} (h : Pr q) : 0 < q.num := by have := one_le_num h.one; have := q.den_pos; omega
theorem Pr.sz {q : Rat} (h : Pr q) : Sz 7 q := by
  have := h.num0
  have := h.num
  have := h.den
  constructor
  · exact B.of (by omega)
  · exact B.of (by omega)
theorem Pq.num0 {q : Rat} (h : Pq q) : 0 < q.num := by have := one_le_num h.one; have := q.den_pos; omega
theorem Pq.sz {q : Rat} (h : Pq q) : Sz 10 q := by
  have := h.num0
  have := h.num
  have := h.den
  constructor
  · exact B.of (by omega)
  · exact B.of (by omega)
theorem fl_sz {q : Rat} (h : Pq q) {M : Nat} (hM : M ≤ 60) : Sz 16 (flF q M) := by
  have n0 := h.num0
  have n1 := h.num
  unfold flF flQ
  refine sz_int ?_ (by decide)
  refine (show B 16 ((M : Int) * q.num).natAbs from B.of ?_).le (Int.natAbs_ediv_le_natAbs _ _)
  have a : 0 ≤ (M : Int) * q.num := Int.mul_nonneg (by omega) (by omega)
  have b : (M : Int) * q.num ≤ 60 * q.num := Int.mul_le_mul_of_nonneg_right (by omega) (by omega)
  omega
theorem fl_de {q : Rat} (h : Pq q) {M : Nat} (hM : M ≤ 60) : De 1 60000 (flF q M) := by
  have n0 := h.num0
  have n1 := h.num
  unfold flF flQ
  refine De.int _ _ (Nat.le_trans (Int.natAbs_ediv_le_natAbs _ _) ?_)
  have a : 0 ≤ (M : Int) * q.num := Int.mul_nonneg (by omega) (by omega)
  have b : (M : Int) * q.num ≤ 60 * q.num := Int.mul_le_mul_of_nonneg_right (by omega) (by omega)
  omega
theorem c_de {c : Rat} (c0 : 0 < c) (c1 : c < 1) : De c.den 1 c := by
  have h := num_le_den (Rat.le_of_lt c1)
  have n0 : 0 ≤ c.num := Rat.num_nonneg.2 (Rat.le_of_lt c0)
  exact ⟨c.den_pos, c.num, as_div c, by omega⟩
theorem pwQ_de {c : Rat} (c0 : 0 < c) (c1 : c < 1) : ∀ j, De (c.den ^ j) 1 (pwQ c j)
  | 0 => De.int 1 1 (by decide)
  | j + 1 => by
    have h := (pwQ_de c0 c1 j).mul (c_de c0 c1)
    rw [Nat.pow_succ]
    exact h
theorem cd_pow {c : Rat} (zc : Sz 4 c) (j : Nat) : B (4 * j + 1) (c.den ^ j) := by
  have h : c.den ≤ 2 ^ 4 := Nat.le_of_lt zc.d
  show c.den ^ j < 2 ^ (4 * j + 1)
  refine Nat.lt_of_le_of_lt (Nat.pow_le_pow_left h j) ?_
  rw [← Nat.pow_mul]
  exact Nat.pow_lt_pow_right (by decide) (by omega)
theorem pwQ_szd {c : Rat} (c0 : 0 < c) (c1 : c < 1) (zc : Sz 4 c) (j : Nat) : Sz (4 * j + 2) (pwQ c j) :=
  ((pwQ_de c0 c1 j).sz (show B 1 1 from B.of (by decide)) (cd_pow zc j)).mono (by omega)
theorem sgm_de {c q : Rat} (c0 : 0 < c) (c1 : c < 1) (h : Pq q) : ∀ n : Nat, n ≤ 60 → De (c.den ^ n) (n * 60000) (sgm c (flF q) 0 n)
  | 0, _ => De.int 0 _ (by decide)
  | n + 1, hn => by
    have ih := sgm_de c0 c1 h n (by omega)
    have z := (pwQ_de c0 c1 n).mul (fl_de h (M := 0 + n + 1) (by omega))
    have p : 0 < c.den ^ (n + 1) := Nat.pow_pos c.den_pos
    have z1 := ih.dvd c.den (Nat.pow_succ c.den n) p
    have z2 := z.dvd c.den (E := c.den ^ (n + 1)) (by rw [Nat.mul_one, Nat.pow_succ]) p
    exact (z1.add z2).mono (by omega)
theorem sgm_sz {c q : Rat} (c0 : 0 < c) (c1 : c < 1) (zc : Sz 4 c) (h : Pq q) (n : Nat) (hn : n ≤ 60) : Sz (4 * n + 23) (sgm c (flF q) 0 n) :=
  ((sgm_de c0 c1 h n hn).sz (show B 22 (n * 60000) from B.of (by omega)) (cd_pow zc n)).mono (by omega)
def s__law_floors : DSp := fun ds n R => ∃ c q : Rat, ds = [FV c, FV q] ∧ 0 < c ∧ c < 1 ∧ Sz 4 c ∧ Pq q ∧ (Sz 1750 (tailS c (flF q) q.den (q.num : Rat) 0) → R (FV (tailS c (flF q) q.den (q.num : Rat) 0)) n)
def t__law_floors_b1 : DTS :=
  (dSeq (dAsg 4 (dCall s__law_plus (dCons (dVar 4) (dCons (dCall s__law_times (dCons (dVar 5) (dCons (dTup (dCons (dOp oDiv (dOp oMul (dVar 6) (dVar 2)) (dVar 3)) (dCons (dC (.int 1)) dNil))) dNil))) dNil))))
  (dAsg 5 (dCall s__law_times (dCons (dVar 5) (dCons (dVar 0) dNil)))))
/-- _law_floors. Slots: cut_so, pair_so, above, below, one, power_v, step, rest, whole, more -/
def t__law_floors : DTS :=
  (dSeq (dUnp [2, 3] (dVar 1))
  (dSeq (dUnp [4, 5] (dTup (dCons (dTup (dCons (dC (.int 0)) (dCons (dC (.int 1)) dNil))) (dCons (dTup (dCons (dC (.int 1)) (dCons (dC (.int 1)) dNil))) dNil))))
  (dSeq (dForR2 6 (dCons (dC (.int 1)) (dCons (dOp oAdd (dVar 3) (dC (.int 1))) dNil)) t__law_floors_b1)
  (dSeq (dAsg 7 (dCall s__law_minus (dCons (dTup (dCons (dC (.int 1)) (dCons (dC (.int 1)) dNil))) (dCons (dVar 5) dNil))))
  (dSeq (dAsg 8 (dCall s__law_over (dCons (dVar 7) (dCons (dCall s__law_minus (dCons (dTup (dCons (dC (.int 1)) (dCons (dC (.int 1)) dNil))) (dCons (dVar 0) dNil))) dNil))))
  (dSeq (dAsg 9 (dCall s__law_over (dCons (dVar 5) (dCons (dCall s__law_times (dCons (dVar 7) (dCons (dVar 7) dNil))) dNil))))
  (dRet (dCall s__law_plus (dCons (dCall s__law_over (dCons (dVar 4) (dCons (dVar 7) dNil))) (dCons (dCall s__law_times (dCons (dCall s__law_times (dCons (dTup (dCons (dVar 2) (dCons (dC (.int 1)) dNil))) (dCons (dVar 8) dNil))) (dCons (dVar 9) dNil))) dNil))))))))))
theorem p__law_floors (ds : List DV) (n : Nat) (R : DV → Nat → Prop) (hh : s__law_floors ds n R) : Goal t__law_floors 10 ds n R := by
  obtain ⟨c, q, rfl, c0, c1, zc, hq, k⟩ := hh
  have f01 : PyData.tuple [.int 0, .int 1] = fr 0 := fr_of (by decide +kernel) (by decide +kernel)
  have f11 : PyData.tuple [.int 1, .int 1] = fr 1 := fr_of (by decide +kernel) (by decide +kernel)
  have zq := hq.sz
  have q0 := q.den_pos
  have hd := hq.den
  have l0 : 0 < 1 - c := by grind
  have zl := one_sz.sub zc
  have ex : ∃ m, q.den = m + 1 := ⟨q.den - 1, by omega⟩
  obtain ⟨m, hm⟩ := ex
  have q1 : pwQ c q.den < 1 := by rw [hm]; exact pwQ_lt c0 c1 m
  have r0 : 0 < 1 - pwQ c q.den := by grind
  unfold Goal t__law_floors
  simp only [↓oOdd_ap, ↓oHalf_ap, ↓dAsg2_ap, ↓dTruL_ap, ↓dCatOwn_ap, ↓oRepT_ap, ↓dParDX_ap, ↓dVar_ap, ↓dC_ap, ↓dOp_ap, ↓dUn_ap, ↓dCB_ap, ↓dCall_ap, ↓dCallId_ap, ↓dNil_ap, ↓dCons_ap, ↓dTup_ap, ↓dLst_ap, ↓dTest_ap, ↓dNot_ap, ↓dAnd_ap, ↓dOr_ap, ↓dIf_ap, ↓dAndV_ap, ↓dOrV_ap, ↓dNotV_ap, ↓dChain_ap, ↓dChain3_ap, ↓dTy_ap, ↓dIsi_ap, ↓dNoPart_ap, ↓dPart_ap, ↓dSliceL_ap, ↓dSliceA_ap, ↓dPeekT_ap, ↓dPeekI_ap, ↓dYes_ap, ↓dNext_ap, ↓dSeq_ap, ↓dRet_ap, ↓dRetN_ap, ↓dIfS_ap, ↓dDrop_ap, ↓dAsg_ap, ↓dAsgOwn_ap, ↓dFreeze_ap, ↓dAppend_ap, ↓dUnp_ap, ↓unpF_ap, ↓unpT_ap, ↓dPar_ap, ↓dPar3_ap, ↓dParO2_ap, ↓dParO3_ap, ↓dParOD_ap, ↓dParDO_ap, ↓dBreak_ap, ↓dCont_ap, ↓oI_ap, ↓oI0_ap, ↓oNeg_ap, ↓oEq_ap, ↓oNe_ap, ↓oIxT_ap, ↓oIxL_ap, ↓oIx0_ap, ↓oIx1_ap, ↓oIsN_ap, ↓oNotN_ap, ↓oIsB_ap, ↓oNotB_ap, ↓oEqS_ap, ↓oCat_ap, ↓oCatA_ap, ↓oRepL_ap, ↓oLenT_ap, ↓oLenL_ap, ↓oAbs_ap, ↓oInt_ap, ↓oGcd_ap, ↓oListT_ap, ↓oListL_ap, ↓oTupT_ap, ↓oTupL_ap, ↓oMin_ap, ↓oSum_ap, ↓oMax_ap, ↓oMinL_ap, ↓oLcm4_ap, ↓allD_ap, ↓allD_nil, ↓setAll_ap, ↓setAll_nil, TV, LV, IV, BV, FV, atI_0, atI_1, atI_2, atI_3, List.map_cons, List.map_nil, List.length_cons, List.length_nil, List.set_cons_zero, List.set_cons_succ, List.getElem?_cons_zero, List.getElem?_cons_succ, List.cons_append, List.nil_append, Nat.reduceAdd, Nat.reduceSub, Nat.reduceLeDiff, List.replicate, Bool.false_eq_true, if_false, if_true, ite_true, ite_false, true_and, and_true, Bool.not_true, Bool.not_false, decide_true, decide_false, entry, isNone_fr, isNone_non, isNone_tup, isNone_list, isNone_int, isNone_bool, pId, pRev, pR3, pR4, pR5, ↓dCallK_ap, f01, f11]
  refine forR2_go 1 ((q.den : Int) + 1) n (fun i env m => m = n ∧ i ≤ q.den ∧ ∃ o6, env = [some (FV c), some (FV q), some (IV q.num), some (IV (q.den : Int)), some (FV (sgm c (flF q) 0 i)), some (FV (pwQ c i)), o6, none, none, none]) (fun R' k' => ?_) ⟨by omega, by omega, by omega, by omega⟩ ⟨rfl, by omega, none, rfl⟩ ?_ ?_
  · simp only [↓oOdd_ap, ↓oHalf_ap, ↓dAsg2_ap, ↓dTruL_ap, ↓dCatOwn_ap, ↓oRepT_ap, ↓dParDX_ap, ↓dVar_ap, ↓dC_ap, ↓dOp_ap, ↓dUn_ap, ↓dCB_ap, ↓dCall_ap, ↓dCallId_ap, ↓dNil_ap, ↓dCons_ap, ↓dTup_ap, ↓dLst_ap, ↓dTest_ap, ↓dNot_ap, ↓dAnd_ap, ↓dOr_ap, ↓dIf_ap, ↓dAndV_ap, ↓dOrV_ap, ↓dNotV_ap, ↓dChain_ap, ↓dChain3_ap, ↓dTy_ap, ↓dIsi_ap, ↓dNoPart_ap, ↓dPart_ap, ↓dSliceL_ap, ↓dSliceA_ap, ↓dPeekT_ap, ↓dPeekI_ap, ↓dYes_ap, ↓dNext_ap, ↓dSeq_ap, ↓dRet_ap, ↓dRetN_ap, ↓dIfS_ap, ↓dDrop_ap, ↓dAsg_ap, ↓dAsgOwn_ap, ↓dFreeze_ap, ↓dAppend_ap, ↓dUnp_ap, ↓unpF_ap, ↓unpT_ap, ↓dPar_ap, ↓dPar3_ap, ↓dParO2_ap, ↓dParO3_ap, ↓dParOD_ap, ↓dParDO_ap, ↓dBreak_ap, ↓dCont_ap, ↓oI_ap, ↓oI0_ap, ↓oNeg_ap, ↓oEq_ap, ↓oNe_ap, ↓oIxT_ap, ↓oIxL_ap, ↓oIx0_ap, ↓oIx1_ap, ↓oIsN_ap, ↓oNotN_ap, ↓oIsB_ap, ↓oNotB_ap, ↓oEqS_ap, ↓oCat_ap, ↓oCatA_ap, ↓oRepL_ap, ↓oLenT_ap, ↓oLenL_ap, ↓oAbs_ap, ↓oInt_ap, ↓oGcd_ap, ↓oListT_ap, ↓oListL_ap, ↓oTupT_ap, ↓oTupL_ap, ↓oMin_ap, ↓oSum_ap, ↓oMax_ap, ↓oMinL_ap, ↓oLcm4_ap, ↓allD_ap, ↓allD_nil, ↓setAll_ap, ↓setAll_nil, TV, LV, IV, BV, FV, atI_0, atI_1, atI_2, atI_3, List.map_cons, List.map_nil, List.length_cons, List.length_nil, List.set_cons_zero, List.set_cons_succ, List.getElem?_cons_zero, List.getElem?_cons_succ, List.cons_append, List.nil_append, Nat.reduceAdd, Nat.reduceSub, Nat.reduceLeDiff, List.replicate, Bool.false_eq_true, if_false, if_true, ite_true, ite_false, true_and, and_true, Bool.not_true, Bool.not_false, decide_true, decide_false, entry, isNone_fr, isNone_non, isNone_tup, isNone_list, isNone_int, isNone_bool, pId, pRev, pR3, pR4, pR5, ↓dCallK_ap]
    exact k'
  · rintro i env m hi ⟨rfl, hi0, o6, rfl⟩
    have hi' : i < q.den := by omega
    have z1 := sgm_sz c0 c1 zc hq i (by omega)
    have z2 := pwQ_szd c0 c1 zc i
    have z3 := fl_sz hq (M := i + 1) (by omega)
    have ef : (1 + (i : Int)) * q.num / (q.den : Int) = flQ q (i + 1) := by
      unfold flQ
      have : ((i + 1 : Nat) : Int) = 1 + (i : Int) := by omega
      rw [this]
    have ez : flF q (0 + i + 1) = ((flQ q (i + 1) : Int) : Rat) := by rw [Nat.zero_add]; rfl
    have z3' : Sz 16 ((flQ q (i + 1) : Int) : Rat) := z3
    have bi : B 6 (1 + (i : Int)).natAbs := B.of (by omega)
    unfold t__law_floors_b1
    simp only [↓oOdd_ap, ↓oHalf_ap, ↓dAsg2_ap, ↓dTruL_ap, ↓dCatOwn_ap, ↓oRepT_ap, ↓dParDX_ap, ↓dVar_ap, ↓dC_ap, ↓dOp_ap, ↓dUn_ap, ↓dCB_ap, ↓dCall_ap, ↓dCallId_ap, ↓dNil_ap, ↓dCons_ap, ↓dTup_ap, ↓dLst_ap, ↓dTest_ap, ↓dNot_ap, ↓dAnd_ap, ↓dOr_ap, ↓dIf_ap, ↓dAndV_ap, ↓dOrV_ap, ↓dNotV_ap, ↓dChain_ap, ↓dChain3_ap, ↓dTy_ap, ↓dIsi_ap, ↓dNoPart_ap, ↓dPart_ap, ↓dSliceL_ap, ↓dSliceA_ap, ↓dPeekT_ap, ↓dPeekI_ap, ↓dYes_ap, ↓dNext_ap, ↓dSeq_ap, ↓dRet_ap, ↓dRetN_ap, ↓dIfS_ap, ↓dDrop_ap, ↓dAsg_ap, ↓dAsgOwn_ap, ↓dFreeze_ap, ↓dAppend_ap, ↓dUnp_ap, ↓unpF_ap, ↓unpT_ap, ↓dPar_ap, ↓dPar3_ap, ↓dParO2_ap, ↓dParO3_ap, ↓dParOD_ap, ↓dParDO_ap, ↓dBreak_ap, ↓dCont_ap, ↓oI_ap, ↓oI0_ap, ↓oNeg_ap, ↓oEq_ap, ↓oNe_ap, ↓oIxT_ap, ↓oIxL_ap, ↓oIx0_ap, ↓oIx1_ap, ↓oIsN_ap, ↓oNotN_ap, ↓oIsB_ap, ↓oNotB_ap, ↓oEqS_ap, ↓oCat_ap, ↓oCatA_ap, ↓oRepL_ap, ↓oLenT_ap, ↓oLenL_ap, ↓oAbs_ap, ↓oInt_ap, ↓oGcd_ap, ↓oListT_ap, ↓oListL_ap, ↓oTupT_ap, ↓oTupL_ap, ↓oMin_ap, ↓oSum_ap, ↓oMax_ap, ↓oMinL_ap, ↓oLcm4_ap, ↓allD_ap, ↓allD_nil, ↓setAll_ap, ↓setAll_nil, TV, LV, IV, BV, FV, atI_0, atI_1, atI_2, atI_3, List.map_cons, List.map_nil, List.length_cons, List.length_nil, List.set_cons_zero, List.set_cons_succ, List.getElem?_cons_zero, List.getElem?_cons_succ, List.cons_append, List.nil_append, Nat.reduceAdd, Nat.reduceSub, Nat.reduceLeDiff, List.replicate, Bool.false_eq_true, if_false, if_true, ite_true, ite_false, true_and, and_true, Bool.not_true, Bool.not_false, decide_true, decide_false, entry, isNone_fr, isNone_non, isNone_tup, isNone_list, isNone_int, isNone_bool, pId, pRev, pR3, pR4, pR5, ↓dCallK_ap, ↓ixF0, ↓ixF1, ef, ↓fr_int_ap, ↓e__law_times, ↓e__law_plus]
    refine ⟨mulB bi zq.n (by decide), ⟨by omega, logB (den_B zq) (by decide)⟩, z2.mono (by omega), z3'.mono (by decide), z1.mono (by omega), (z2.mul z3').mono (by omega), z2.mono (by omega), zc.mono (by decide), by omega, some (IV (1 + (i : Int))), ?_⟩
    rw [← ez]
    rfl
  · rintro env m ⟨rfl, hi0, o6, rfl⟩
    have e : ((q.den : Int) + 1 - 1).toNat = q.den := by omega
    rw [e]
    have z1 := (sgm_sz c0 c1 zc hq q.den (by omega)).mono (show _ ≤ 263 by omega)
    have z2 := (pwQ_szd c0 c1 zc q.den).mono (show _ ≤ 242 by omega)
    have zr := one_sz.sub z2
    have rr := Rat.mul_pos r0 r0
    have zn : Sz 10 (q.num : Rat) := sz_int zq.n (by decide)
    have za := Sz.div z1 zr r0
    have zw := Sz.div zr zl l0
    have zm := Sz.div z2 (zr.mul zr) rr
    have ev : sgm c (flF q) 0 q.den / (1 - pwQ c q.den) + (q.num : Rat) * ((1 - pwQ c q.den) / (1 - c)) * (pwQ c q.den / ((1 - pwQ c q.den) * (1 - pwQ c q.den))) = tailS c (flF q) q.den (q.num : Rat) 0 := by
      unfold tailS
      generalize sgm c (flF q) 0 q.den = x
      generalize (q.num : Rat) = y
      generalize pwQ c q.den = z at *
      have h1 : 1 - z ≠ 0 := by grind
      have h2 : 1 - c ≠ 0 := by grind
      grind
    have zt : Sz 1750 (tailS c (flF q) q.den (q.num : Rat) 0) := by
      rw [← ev]
      exact (za.add ((zn.mul zw).mul zm)).mono (by decide)
    simp only [↓oOdd_ap, ↓oHalf_ap, ↓dAsg2_ap, ↓dTruL_ap, ↓dCatOwn_ap, ↓oRepT_ap, ↓dParDX_ap, ↓dVar_ap, ↓dC_ap, ↓dOp_ap, ↓dUn_ap, ↓dCB_ap, ↓dCall_ap, ↓dCallId_ap, ↓dNil_ap, ↓dCons_ap, ↓dTup_ap, ↓dLst_ap, ↓dTest_ap, ↓dNot_ap, ↓dAnd_ap, ↓dOr_ap, ↓dIf_ap, ↓dAndV_ap, ↓dOrV_ap, ↓dNotV_ap, ↓dChain_ap, ↓dChain3_ap, ↓dTy_ap, ↓dIsi_ap, ↓dNoPart_ap, ↓dPart_ap, ↓dSliceL_ap, ↓dSliceA_ap, ↓dPeekT_ap, ↓dPeekI_ap, ↓dYes_ap, ↓dNext_ap, ↓dSeq_ap, ↓dRet_ap, ↓dRetN_ap, ↓dIfS_ap, ↓dDrop_ap, ↓dAsg_ap, ↓dAsgOwn_ap, ↓dFreeze_ap, ↓dAppend_ap, ↓dUnp_ap, ↓unpF_ap, ↓unpT_ap, ↓dPar_ap, ↓dPar3_ap, ↓dParO2_ap, ↓dParO3_ap, ↓dParOD_ap, ↓dParDO_ap, ↓dBreak_ap, ↓dCont_ap, ↓oI_ap, ↓oI0_ap, ↓oNeg_ap, ↓oEq_ap, ↓oNe_ap, ↓oIxT_ap, ↓oIxL_ap, ↓oIx0_ap, ↓oIx1_ap, ↓oIsN_ap, ↓oNotN_ap, ↓oIsB_ap, ↓oNotB_ap, ↓oEqS_ap, ↓oCat_ap, ↓oCatA_ap, ↓oRepL_ap, ↓oLenT_ap, ↓oLenL_ap, ↓oAbs_ap, ↓oInt_ap, ↓oGcd_ap, ↓oListT_ap, ↓oListL_ap, ↓oTupT_ap, ↓oTupL_ap, ↓oMin_ap, ↓oSum_ap, ↓oMax_ap, ↓oMinL_ap, ↓oLcm4_ap, ↓allD_ap, ↓allD_nil, ↓setAll_ap, ↓setAll_nil, TV, LV, IV, BV, FV, atI_0, atI_1, atI_2, atI_3, List.map_cons, List.map_nil, List.length_cons, List.length_nil, List.set_cons_zero, List.set_cons_succ, List.getElem?_cons_zero, List.getElem?_cons_succ, List.cons_append, List.nil_append, Nat.reduceAdd, Nat.reduceSub, Nat.reduceLeDiff, List.replicate, Bool.false_eq_true, if_false, if_true, ite_true, ite_false, true_and, and_true, Bool.not_true, Bool.not_false, decide_true, decide_false, entry, isNone_fr, isNone_non, isNone_tup, isNone_list, isNone_int, isNone_bool, pId, pRev, pR3, pR4, pR5, ↓dCallK_ap, ↓f11, ↓fr_int_ap, one_rat, ↓e__law_minus, ↓e__law_over, ↓e__law_times, ↓e__law_plus, ev]
    exact ⟨one_sz.mono (by decide), z2.mono (by decide), one_sz.mono (by decide), zc.mono (by decide), zr.mono (by decide), zl.mono (by decide), l0, zr.mono (by decide), zr.mono (by decide), z2.mono (by decide), (zr.mul zr).mono (by decide), rr, z1.mono (by decide), zr.mono (by decide), r0, zn.mono (by decide), zw.mono (by decide), (zn.mul zw).mono (by decide), zm.mono (by decide), za.mono (by decide), ((zn.mul zw).mul zm).mono (by decide), k zt⟩
theorem e__law_floors (c q : Rat) (n : Nat) (R : DV → Nat → Prop) : s__law_floors [FV c, FV q] n R = (0 < c ∧ c < 1 ∧ Sz 4 c ∧ Pq q ∧ (Sz 1750 (tailS c (flF q) q.den (q.num : Rat) 0) → R (FV (tailS c (flF q) q.den (q.num : Rat) 0)) n)) := by
  refine propext ⟨?_, fun hh => ⟨c, q, rfl, hh⟩⟩
  rintro ⟨c', q', hh, rr⟩
  simp only [List.cons.injEq, DV.dat.injEq, PyData.tuple.injEq, PyData.int.injEq, PyData.list.injEq, fr_eq, natc_eq, and_true, true_and] at hh
  try simp only [hh]
  first | exact rr | (subst hh; exact rr)
end Sx

set_option Elab.async false
set_option linter.all false
set_option maxRecDepth 100000
set_option maxHeartbeats 4000000
namespace Sx
open PySem PySem.Spec L2
def TT (c q : Rat) : Rat := tailS c (flF q) q.den (q.num : Rat) 0
def hiE (c q : Rat) : Rat := (1 - c) * (1 - c) * TT c q
def lenE (c : Rat) (N : Nat) : Rat := (1 - c) * (1 - c) * pwQ c (N - 1) / (1 - pwQ c N)
def loE (c q : Rat) : Rat := hiE c q - lenE c q.den
def hiA (c q : Rat) : Int := ((c.den : Int) - c.num) * rsS c q q.den
def apN (c : Rat) (N : Nat) : Int := (c.den : Int) ^ N - c.num ^ N
def lnA (c : Rat) (N : Nat) : Int := ((c.den : Int) - c.num) * ((c.den : Int) - c.num) * c.num ^ (N - 1)
def s_length_of : DSp := fun ds n R => ∃ c : Rat, ∃ N : Nat, ds = [FV c, IV (N : Int)] ∧ Prt c ∧ 1 ≤ N ∧ N ≤ 300 ∧ R (TV [.int (lnA c N), .int ((c.den : Int) * apN c N)]) n
/-- length_of. Slots: part, below, rest -/
def t_length_of : DTS :=
  (dSeq (dAsg 2 (dOp oSub (dOp oIxT (dVar 0) (dC (.int 1))) (dOp oIxT (dVar 0) (dC (.int 0)))))
  (dRet (dTup (dCons (dOp oMul (dOp oMul (dVar 2) (dVar 2)) (dCall s_power (dCons (dOp oIxT (dVar 0) (dC (.int 0))) (dCons (dOp oSub (dVar 1) (dC (.int 1))) dNil)))) (dCons (dOp oMul (dOp oIxT (dVar 0) (dC (.int 1))) (dCall s_powers_apart (dCons (dVar 0) (dCons (dVar 1) dNil)))) dNil)))))
theorem Prt.zc {c : Rat} (C : Prt c) : Sz 10 c := (⟨C.b, C.c0, C.c1, C.cd, C.b, Rat.le_refl⟩ : Ht c c).zc
theorem Prt.n {c : Rat} (C : Prt c) : 0 < c.num ∧ c.num < (c.den : Int) := by
  refine ⟨(num_pos_iff c).2 C.c0, ?_⟩
  have h1 := q_den c
  have h2 := Rat.mul_lt_mul_of_pos_right C.c1 (den_q c)
  rw [h1, Rat.one_mul] at h2
  exact Rat.intCast_lt_intCast.1 h2
theorem apN_pos {c : Rat} (C : Prt c) {N : Nat} (h : 1 ≤ N) : 0 < apN c N := by
  obtain ⟨n0, n1⟩ := C.n
  have ex : ∃ m, N = m + 1 := ⟨N - 1, by omega⟩
  obtain ⟨m, rfl⟩ := ex
  have := pow_lt_pow n0 n1 m
  unfold apN
  omega
theorem apN_q {c : Rat} (N : Nat) : ((apN c N : Int) : Rat) = (1 - pwQ c N) * ((((c.den : Int) ^ N : Int)) : Rat) := by
  unfold apN
  rw [Rat.intCast_sub, pow_split c N]
  generalize (((c.den : Int) ^ N : Int) : Rat) = x
  grind
theorem pw1 {c : Rat} (C : Prt c) {N : Nat} (h : 1 ≤ N) : pwQ c N < 1 := by
  have ex : ∃ m, N = m + 1 := ⟨N - 1, by omega⟩
  obtain ⟨m, rfl⟩ := ex
  exact pwQ_lt C.c0 C.c1 m
theorem hi_q {c q : Rat} (C : Prt c) : ((hiA c q : Int) : Rat) / ((apN c q.den : Int) : Rat) = hiE c q := by
  have h := fsP_eq (q := q) C
  have q0 := q.den_pos
  have dp := den_q c
  have ap := Rat.intCast_pos.2 (apN_pos C (show 1 ≤ q.den by omega))
  unfold fsP at h
  unfold hiE TT hiA
  rw [← h]
  have cn := q_den c
  have c1 := C.c1
  show _ = (1 - c) * (1 - c) * ((((c.den : Int) * (c.den : Int) * rsS c q q.den : Int) : Rat) / ((((c.den : Int) - c.num) * (apN c q.den) : Int) : Rat))
  rw [Rat.intCast_mul, Rat.intCast_mul, Rat.intCast_mul, Rat.intCast_mul, Rat.intCast_sub, ← cn]
  generalize ((c.den : Int) : Rat) = w at *
  generalize ((apN c q.den : Int) : Rat) = z at *
  generalize (rsS c q q.den : Rat) = v at *
  have a1 : 1 - c ≠ 0 := by grind
  have a2 : z ≠ 0 := by grind
  have a3 : w ≠ 0 := by grind
  have e : w - c * w = (1 - c) * w := by grind
  rw [e, Rat.div_def, Rat.div_def, Rat.inv_mul_rev, Rat.inv_mul_rev]
  have i1 := Rat.mul_inv_cancel _ a1
  have i2 := Rat.mul_inv_cancel _ a3
  generalize (1 - c)⁻¹ = x1 at *
  generalize w⁻¹ = x2 at *
  generalize z⁻¹ = x3 at *
  generalize 1 - c = y at *
  grind
theorem len_q {c : Rat} (C : Prt c) {N : Nat} (h : 1 ≤ N) : ((lnA c N : Int) : Rat) / (((c.den : Int) * apN c N : Int) : Rat) = lenE c N := by
  have dp := den_q c
  have p1 := pw1 C h
  have cn := q_den c
  have c1 := C.c1
  have ex : ∃ m, N = m + 1 := ⟨N - 1, by omega⟩
  obtain ⟨m, rfl⟩ := ex
  have ps := pow_split c m
  have es : (((c.den : Int) ^ (m + 1) : Int) : Rat) = (((c.den : Int) ^ m : Int) : Rat) * ((c.den : Int) : Rat) := by rw [Int.pow_succ, Rat.intCast_mul]
  have pm : (0 : Rat) < (((c.den : Int) ^ m : Int) : Rat) := Rat.intCast_pos.2 (Int.pow_pos (by have := c.den_pos; omega))
  unfold lenE lnA
  rw [Nat.add_sub_cancel]
  rw [Rat.intCast_mul, Rat.intCast_mul, Rat.intCast_mul, Rat.intCast_sub, apN_q, ps, es, ← cn]
  generalize ((c.den : Int) : Rat) = w at *
  generalize (((c.den : Int) ^ m : Int) : Rat) = z at *
  generalize pwQ c (m + 1) = v at *
  generalize pwQ c m = u at *
  have a1 : 1 - v ≠ 0 := by grind
  have a2 : z ≠ 0 := by grind
  have a3 : w ≠ 0 := by grind
  rw [Rat.div_def, Rat.div_def, Rat.inv_mul_rev, Rat.inv_mul_rev, Rat.inv_mul_rev]
  have i1 := Rat.mul_inv_cancel _ a1
  have i2 := Rat.mul_inv_cancel _ a3
  have i3 := Rat.mul_inv_cancel _ a2
  generalize (1 - v)⁻¹ = x1 at *
  generalize w⁻¹ = x2 at *
  generalize z⁻¹ = x3 at *
  grind
theorem lo_q {c q : Rat} (C : Prt c) : ((((c.den : Int) * hiA c q - lnA c q.den : Int)) : Rat) / (((c.den : Int) * apN c q.den : Int) : Rat) = loE c q := by
  have q0 := q.den_pos
  have dp := den_q c
  have ap := Rat.intCast_pos.2 (apN_pos C (show 1 ≤ q.den by omega))
  unfold loE
  rw [← hi_q C, ← len_q C (by omega)]
  rw [Rat.intCast_sub, Rat.intCast_mul, Rat.intCast_mul]
  generalize ((c.den : Int) : Rat) = w at *
  generalize ((apN c q.den : Int) : Rat) = z at *
  generalize ((hiA c q : Int) : Rat) = x
  generalize ((lnA c q.den : Int) : Rat) = y
  have a2 : z ≠ 0 := by grind
  have a3 : w ≠ 0 := by grind
  rw [Rat.div_def, Rat.div_def, Rat.div_def, Rat.inv_mul_rev]
  have i2 := Rat.mul_inv_cancel _ a3
  generalize w⁻¹ = x2 at *
  generalize z⁻¹ = x3 at *
  grind
theorem apN_B {c : Rat} (C : Prt c) {N : Nat} (h : N ≤ 300) : B 3510 (apN c N).natAbs := by
  have zc := C.zc
  exact (natAbs_sub_B2 ((powZ_B (den_B zc) N).mono (show _ ≤ 3500 by omega)) ((powZ_B zc.n N).mono (show _ ≤ 3500 by omega))).mono (by decide)
theorem p_length_of (ds : List DV) (n : Nat) (R : DV → Nat → Prop) (hh : s_length_of ds n R) : Goal t_length_of 3 ds n R := by
  obtain ⟨c, N, rfl, C, N1, N3, k⟩ := hh
  have zc := C.zc
  have b3 := natAbs_sub_B2 (den_B zc) zc.n
  have eN : (N : Int) - 1 = ((N - 1 : Nat) : Int) := by omega
  unfold Goal t_length_of
  simp only [↓oOdd_ap, ↓oHalf_ap, ↓dAsg2_ap, ↓dTruL_ap, ↓dCatOwn_ap, ↓oRepT_ap, ↓dParDX_ap, ↓dVar_ap, ↓dC_ap, ↓dOp_ap, ↓dUn_ap, ↓dCB_ap, ↓dCall_ap, ↓dCallId_ap, ↓dNil_ap, ↓dCons_ap, ↓dTup_ap, ↓dLst_ap, ↓dTest_ap, ↓dNot_ap, ↓dAnd_ap, ↓dOr_ap, ↓dIf_ap, ↓dAndV_ap, ↓dOrV_ap, ↓dNotV_ap, ↓dChain_ap, ↓dChain3_ap, ↓dTy_ap, ↓dIsi_ap, ↓dNoPart_ap, ↓dPart_ap, ↓dSliceL_ap, ↓dSliceA_ap, ↓dPeekT_ap, ↓dPeekI_ap, ↓dYes_ap, ↓dNext_ap, ↓dSeq_ap, ↓dRet_ap, ↓dRetN_ap, ↓dIfS_ap, ↓dDrop_ap, ↓dAsg_ap, ↓dAsgOwn_ap, ↓dFreeze_ap, ↓dAppend_ap, ↓dUnp_ap, ↓unpF_ap, ↓unpT_ap, ↓dPar_ap, ↓dPar3_ap, ↓dParO2_ap, ↓dParO3_ap, ↓dParOD_ap, ↓dParDO_ap, ↓dBreak_ap, ↓dCont_ap, ↓oI_ap, ↓oI0_ap, ↓oNeg_ap, ↓oEq_ap, ↓oNe_ap, ↓oIxT_ap, ↓oIxL_ap, ↓oIx0_ap, ↓oIx1_ap, ↓oIsN_ap, ↓oNotN_ap, ↓oIsB_ap, ↓oNotB_ap, ↓oEqS_ap, ↓oCat_ap, ↓oCatA_ap, ↓oRepL_ap, ↓oLenT_ap, ↓oLenL_ap, ↓oAbs_ap, ↓oInt_ap, ↓oGcd_ap, ↓oListT_ap, ↓oListL_ap, ↓oTupT_ap, ↓oTupL_ap, ↓oMin_ap, ↓oSum_ap, ↓oMax_ap, ↓oMinL_ap, ↓oLcm4_ap, ↓allD_ap, ↓allD_nil, ↓setAll_ap, ↓setAll_nil, TV, LV, IV, BV, FV, atI_0, atI_1, atI_2, atI_3, List.map_cons, List.map_nil, List.length_cons, List.length_nil, List.set_cons_zero, List.set_cons_succ, List.getElem?_cons_zero, List.getElem?_cons_succ, List.cons_append, List.nil_append, Nat.reduceAdd, Nat.reduceSub, Nat.reduceLeDiff, List.replicate, Bool.false_eq_true, if_false, if_true, ite_true, ite_false, true_and, and_true, Bool.not_true, Bool.not_false, decide_true, decide_false, entry, isNone_fr, isNone_non, isNone_tup, isNone_list, isNone_int, isNone_bool, pId, pRev, pR3, pR4, pR5, ↓dCallK_ap, ↓ixF0, ↓ixF1, eN, ↓e_power, ↓e_powers_apart]
  exact ⟨mulB b3 b3 (by decide), PowOk.of zc.n (by omega), by omega, mulB (natAbs_mul_B b3 b3) ((powZ_B zc.n (N - 1)).mono (show _ ≤ 3500 by omega)) (by decide), zc, by omega, mulB (den_B zc) (apN_B C N3) (by decide), k⟩
end Sx

set_option Elab.async false
set_option linter.all false
set_option maxRecDepth 100000
set_option maxHeartbeats 4000000
namespace Sx
theorem up_dvd {a d : Int} (hd : 0 < d) (h : d ∣ a) : -(-a / d) = a / d := by
  obtain ⟨m, rfl⟩ := h
  rw [← Int.mul_neg, Int.mul_ediv_cancel_left _ (by omega), Int.mul_ediv_cancel_left _ (by omega)]
  omega
theorem up_ndvd {a d : Int} (hd : 0 < d) (h : ¬ d ∣ a) : -(-a / d) = a / d + 1 := by
  have e := Int.mul_ediv_add_emod a d
  have r0 := Int.emod_nonneg a (show d ≠ 0 by omega)
  have r1 := Int.emod_lt_of_pos a hd
  have rn : a % d ≠ 0 := fun z => h (Int.dvd_of_emod_eq_zero z)
  have ef : ∃ f, f = a / d := ⟨_, rfl⟩
  obtain ⟨f, hf⟩ := ef
  rw [← hf] at e ⊢
  have : -a / d = -f - 1 := by
    apply Int.le_antisymm
    · have h2 : -a < (-f) * d := by
        rw [Int.neg_mul, Int.mul_comm f d]
        omega
      have := Int.ediv_lt_of_lt_mul hd h2
      omega
    · apply Int.le_ediv_of_mul_le hd
      rw [Int.sub_mul, Int.neg_mul, Int.one_mul, Int.mul_comm f d]
      omega
  omega
theorem den_ndvd (q : Rat) {M : Nat} (h0 : 0 < M) (h : M < q.den) : ¬ (q.den : Int) ∣ (M : Int) * q.num := by
  intro z
  have z2 : q.den ∣ M * q.num.natAbs := by
    have := Int.natAbs_dvd_natAbs.2 z
    rw [Int.natAbs_mul] at this
    simpa using this
  have co : Nat.Coprime q.den q.num.natAbs := Nat.Coprime.symm q.reduced
  have := Nat.le_of_dvd h0 (co.dvd_of_dvd_mul_right z2)
  omega
/-- ceil less 1 -/
def ceF (q : Rat) (M : Nat) : Rat := ((upT q (M : Int) - 1 : Int) : Rat)
theorem ceF_lt (q : Rat) {M : Nat} (h0 : 0 < M) (h : M < q.den) : ceF q M = flF q M := by
  have d := q.den_pos
  have e := up_ndvd (show (0 : Int) < (q.den : Int) by omega) (den_ndvd q h0 h)
  unfold ceF flF upT flQ
  rw [Int.neg_mul, e]
  congr 1
  omega
theorem ceF_den (q : Rat) : ceF q q.den = flF q q.den - 1 := by
  have d := q.den_pos
  have e := up_dvd (show (0 : Int) < (q.den : Int) by omega) (a := (q.den : Int) * q.num) ⟨q.num, rfl⟩
  unfold ceF flF upT flQ
  rw [Int.neg_mul, e, Rat.intCast_sub]
  rfl
theorem ceF_grow (q : Rat) : Grow (ceF q) q.den (q.num : Rat) := fun k => by
  have d := q.den_pos
  unfold ceF upT
  rw [← Rat.intCast_add]
  congr 1
  have e : -((k + q.den : Nat) : Int) * q.num = -(k : Int) * q.num + (-q.num) * (q.den : Int) := by
    rw [Int.natCast_add, Int.neg_add, Int.add_mul, Int.neg_mul, Int.neg_mul, Int.neg_mul, Int.mul_comm q.num]
  rw [e, Int.add_mul_ediv_right _ _ (by omega)]
  omega
theorem sgm_ce (c q : Rat) : ∀ n, n < q.den → sgm c (ceF q) 0 n = sgm c (flF q) 0 n
  | 0, _ => rfl
  | n + 1, h => by
    show sgm c (ceF q) 0 n + pwQ c n * ceF q (0 + n + 1) = sgm c (flF q) 0 n + pwQ c n * flF q (0 + n + 1)
    rw [sgm_ce c q n (by omega), ceF_lt q (by omega) (by omega)]
theorem loE_eq {c q : Rat} (c1 : c < 1) (q1 : pwQ c q.den < 1) : loE c q = (1 - c) * (1 - c) * tailS c (ceF q) q.den (q.num : Rat) 0 := by
  have d := q.den_pos
  have e : sgm c (ceF q) 0 q.den = sgm c (flF q) 0 q.den - pwQ c (q.den - 1) := by
    have ex : ∃ m, q.den = m + 1 := ⟨q.den - 1, by omega⟩
    obtain ⟨m, hm⟩ := ex
    have a := sgm_ce c q m (by omega)
    have b := ceF_den q
    rw [hm] at b ⊢
    show sgm c (ceF q) 0 m + pwQ c m * ceF q (0 + m + 1) = sgm c (flF q) 0 m + pwQ c m * flF q (0 + m + 1) - pwQ c (m + 1 - 1)
    rw [a, Nat.zero_add, b, Nat.add_sub_cancel]
    grind
  unfold loE hiE TT lenE tailS
  rw [e]
  generalize sgm c (flF q) 0 q.den = x
  generalize (q.num : Rat) = y
  generalize pwQ c q.den = z at *
  generalize pwQ c (q.den - 1) = u at *
  have h1 : 1 - z ≠ 0 := by grind
  have h2 : 1 - c ≠ 0 := by grind
  rw [Rat.div_def, Rat.div_def, Rat.div_def, Rat.div_def]
  generalize (1 - z)⁻¹ = i
  grind
theorem sgm_sub (c : Rat) (f h : Nat → Rat) (k : Nat) : ∀ n, sgm c (fun M => f M - h M) k n = sgm c f k n - sgm c h k n
  | 0 => by show (0 : Rat) = 0 - 0; grind
  | n + 1 => by
    show sgm c (fun M => f M - h M) k n + pwQ c n * (f (k + n + 1) - h (k + n + 1)) = (sgm c f k n + pwQ c n * f (k + n + 1)) - (sgm c h k n + pwQ c n * h (k + n + 1))
    rw [sgm_sub c f h k n]
    grind
theorem tailS_sub (c P P' : Rat) (f h : Nat → Rat) (Q k : Nat) : tailS c (fun M => f M - h M) Q (P - P') k = tailS c f Q P k - tailS c h Q P' k := by
  unfold tailS
  rw [sgm_sub]
  generalize sgm c f k Q = x
  generalize sgm c h k Q = y
  generalize pwQ c Q = z
  rw [Rat.div_def, Rat.div_def, Rat.div_def, Rat.div_def, Rat.div_def, Rat.div_def]
  generalize (1 - z)⁻¹ = i
  generalize ((1 - c) * (1 - z))⁻¹ = j
  grind
theorem grow_sub {f h : Nat → Rat} {Q : Nat} {P P' : Rat} (a : Grow f Q P) (b : Grow h Q P') : Grow (fun M => f M - h M) Q (P - P') := fun k => by
  show f (k + Q) - h (k + Q) = _
  rw [a k, b k]
  grind
/-- M - 1 -/
def preF (M : Nat) : Rat := (((M : Int) - 1 : Int) : Rat)
theorem preF_grow (Q : Nat) : Grow preF Q (((Q : Int) : Rat)) := fun k => by
  unfold preF
  rw [← Rat.intCast_add]
  congr 1
  omega
theorem sgm_pre (c : Rat) : ∀ n, sgm c preF 1 n = sgm c (linF 1) 0 n
  | 0 => rfl
  | n + 1 => by
    show sgm c preF 1 n + pwQ c n * preF (1 + n + 1) = sgm c (linF 1) 0 n + pwQ c n * linF 1 (0 + n + 1)
    have e : preF (1 + n + 1) = linF 1 (0 + n + 1) := by
      unfold preF linF
      rw [Rat.mul_one]
      congr 1
      omega
    rw [sgm_pre c n, e]
theorem tail_pre {c : Rat} (c0 : 0 < c) (c1 : c < 1) {Q : Nat} (q1 : pwQ c Q < 1) : (1 - c) * (1 - c) * tailS c preF Q ((Q : Int) : Rat) 0 = c := by
  have st := tailS_step c1 q1 (preF_grow Q) 0
  have li := tailS_lin (r := 1) (Q := Q) c0 c1 q1 0
  rw [Rat.mul_one] at li
  have e : tailS c preF Q ((Q : Int) : Rat) (0 + 1) = tailS c (linF 1) Q ((Q : Int) : Rat) 0 := by
    unfold tailS
    rw [Nat.zero_add, sgm_pre]
  have e0 : preF (0 + 1) = 0 := rfl
  have one : (((0 + 1 : Nat) : Int) : Rat) = 1 := rfl
  rw [e0, e, li, one] at st
  rw [st]
  have : 1 - c ≠ 0 := by grind
  grind
theorem ceF_ge {q : Rat} (h : 1 ≤ q) (M : Nat) : preF M ≤ ceF q M := by
  have d := q.den_pos
  have n1 : (q.den : Int) ≤ q.num := by
    have e := q_den q
    have dq := den_q q
    have := Rat.mul_le_mul_of_nonneg_right h (Rat.le_of_lt dq)
    rw [Rat.one_mul, e] at this
    exact Rat.intCast_le_intCast.1 this
  unfold preF ceF upT
  refine Rat.intCast_le_intCast.2 ?_
  have h2 : -(M : Int) * q.num / (q.den : Int) ≤ -(M : Int) := by
    have h3 : -(M : Int) * q.num ≤ -(M : Int) * (q.den : Int) := by
      rw [Int.neg_mul, Int.neg_mul]
      have := Int.mul_le_mul_of_nonneg_left n1 (show (0 : Int) ≤ (M : Int) by omega)
      omega
    have := Int.ediv_le_ediv (show (0 : Int) < (q.den : Int) by omega) h3
    rw [Int.mul_ediv_cancel _ (by omega)] at this
    exact this
  omega
theorem tail_mono {c P P' : Rat} {f h : Nat → Rat} {Q : Nat} (c0 : 0 < c) (c1 : c < 1) (q1 : pwQ c Q < 1) (a : Grow f Q P) (b : Grow h Q P') (le : ∀ k, h k ≤ f k) (P0 : P' ≤ P) (k : Nat) : tailS c h Q P' k ≤ tailS c f Q P k := by
  have t := tailS_pos c0 c1 q1 (grow_sub a b) (fun k => by have := le k; show 0 ≤ f k - h k; grind) (show 0 ≤ P - P' by grind) k
  rw [tailS_sub] at t
  grind
theorem loE_ge {c q : Rat} (c0 : 0 < c) (c1 : c < 1) (q1 : pwQ c q.den < 1) (h : 1 ≤ q) : c ≤ loE c q := by
  have e := q_den q
  have dq := den_q q
  have p := Rat.mul_le_mul_of_nonneg_right h (Rat.le_of_lt dq)
  rw [Rat.one_mul, e] at p
  have t := tail_mono c0 c1 q1 (ceF_grow q) (preF_grow q.den) (ceF_ge h) p 0
  have u := Rat.mul_le_mul_of_nonneg_left t (Rat.le_of_lt (Rat.mul_pos (show 0 < 1 - c by grind) (show 0 < 1 - c by grind)))
  rw [tail_pre c0 c1 q1, ← loE_eq c1 q1] at u
  exact u
theorem lenE_pos {c : Rat} (c0 : 0 < c) (c1 : c < 1) {N : Nat} (q1 : pwQ c N < 1) : 0 < lenE c N := by
  have a := pwQ_pos c0 (N - 1)
  have l : 0 < 1 - c := by grind
  have r : 0 < 1 - pwQ c N := by grind
  unfold lenE
  rw [Rat.div_def]
  exact Rat.mul_pos (Rat.mul_pos (Rat.mul_pos l l) a) (Rat.inv_pos.2 r)
theorem lenE_diff (c q : Rat) : hiE c q - loE c q = lenE c q.den := by unfold loE; grind
end Sx

set_option Elab.async false
set_option linter.all false
set_option maxRecDepth 100000
set_option maxHeartbeats 4000000
namespace Sx
section
variable {c h q : Rat}
/-- the HEIGHT lies in the stretch -/
structure InS (c h q : Rat) : Prop where
  c0 : 0 < c
  c1 : c < 1
  lo : loE c q ≤ h
  hi : h ≤ hiE c q
theorem InS.q1 (I : InS c h q) : pwQ c q.den < 1 := by
  have q0 := q.den_pos
  have ex : ∃ m, q.den = m + 1 := ⟨q.den - 1, by omega⟩
  obtain ⟨m, hm⟩ := ex
  rw [hm]
  exact pwQ_lt I.c0 I.c1 m
end
end Sx

set_option Elab.async false
set_option linter.all false
set_option maxRecDepth 100000
set_option maxHeartbeats 4000000
namespace Sx
section
variable {c h q : Rat}
end
theorem InS.low {c q : Rat} (c0 : 0 < c) (c1 : c < 1) : InS c (loE c q) q := by
  have q0 := q.den_pos
  have ex : ∃ m, q.den = m + 1 := ⟨q.den - 1, by omega⟩
  obtain ⟨m, hm⟩ := ex
  have q1 : pwQ c q.den < 1 := by rw [hm]; exact pwQ_lt c0 c1 m
  have := lenE_pos c0 c1 q1
  have := lenE_diff c q
  exact ⟨c0, c1, Rat.le_refl, by grind⟩
end Sx

set_option Elab.async false
set_option linter.all false
set_option maxRecDepth 100000
set_option maxHeartbeats 4000000
namespace Sx
open PySem PySem.Spec L2
def s__law_power : DSp := fun ds n R => ∃ c : Rat, ∃ N : Nat, ds = [FV c, IV (N : Int)] ∧ N ≤ 60 ∧ 0 < c ∧ c < 1 ∧ Sz 4 c ∧ R (FV (pwQ c N)) n
def s__law_ends : DSp := fun ds n R => ∃ c q : Rat, ds = [FV c, FV q] ∧ 0 < c ∧ c < 1 ∧ Sz 4 c ∧ Pq q ∧ (Sz 270 (loE c q) → Sz 270 (hiE c q) → R (TV [fr (loE c q), fr (hiE c q)]) n)
def t__law_power_b1 : DTS :=
  (dAsg 2 (dCall s__law_times (dCons (dVar 2) (dCons (dVar 0) dNil))))
/-- _law_power. Slots: one, times_so, found, step -/
def t__law_power : DTS :=
  (dSeq (dAsg 2 (dTup (dCons (dC (.int 1)) (dCons (dC (.int 1)) dNil))))
  (dSeq (dForR 3 (dVar 1) t__law_power_b1)
  (dRet (dVar 2))))
/-- _law_ends. Slots: cut_so, pair_so, left, far, power_v, rest -/
def t__law_ends : DTS :=
  (dSeq (dAsg 2 (dCall s__law_minus (dCons (dTup (dCons (dC (.int 1)) (dCons (dC (.int 1)) dNil))) (dCons (dVar 0) dNil))))
  (dSeq (dAsg 3 (dCall s__law_times (dCons (dCall s__law_times (dCons (dVar 2) (dCons (dVar 2) dNil))) (dCons (dCall s__law_floors (dCons (dVar 0) (dCons (dVar 1) dNil))) dNil))))
  (dSeq (dAsg 4 (dCall s__law_power (dCons (dVar 0) (dCons (dOp oSub (dOp oIxT (dVar 1) (dC (.int 1))) (dC (.int 1))) dNil))))
  (dSeq (dAsg 5 (dCall s__law_minus (dCons (dTup (dCons (dC (.int 1)) (dCons (dC (.int 1)) dNil))) (dCons (dCall s__law_times (dCons (dVar 4) (dCons (dVar 0) dNil))) dNil))))
  (dRet (dTup (dCons (dCall s__law_minus (dCons (dVar 3) (dCons (dCall s__law_over (dCons (dCall s__law_times (dCons (dCall s__law_times (dCons (dVar 2) (dCons (dVar 2) dNil))) (dCons (dVar 4) dNil))) (dCons (dVar 5) dNil))) dNil))) (dCons (dVar 3) dNil))))))))
theorem e__law_power (c : Rat) (N : Nat) (n : Nat) (R : DV → Nat → Prop) : s__law_power [FV c, IV (N : Int)] n R = (N ≤ 60 ∧ 0 < c ∧ c < 1 ∧ Sz 4 c ∧ R (FV (pwQ c N)) n) := by
  refine propext ⟨?_, fun hh => ⟨c, N, rfl, hh⟩⟩
  rintro ⟨c', N', hh, rr⟩
  simp only [List.cons.injEq, DV.dat.injEq, PyData.tuple.injEq, PyData.int.injEq, PyData.list.injEq, fr_eq, natc_eq, and_true, true_and] at hh
  try simp only [hh]
  first | exact rr | (subst hh; exact rr)
theorem e__law_ends (c q : Rat) (n : Nat) (R : DV → Nat → Prop) : s__law_ends [FV c, FV q] n R = (0 < c ∧ c < 1 ∧ Sz 4 c ∧ Pq q ∧ (Sz 270 (loE c q) → Sz 270 (hiE c q) → R (TV [fr (loE c q), fr (hiE c q)]) n)) := by
  refine propext ⟨?_, fun hh => ⟨c, q, rfl, hh⟩⟩
  rintro ⟨c', q', hh, rr⟩
  simp only [List.cons.injEq, DV.dat.injEq, PyData.tuple.injEq, PyData.int.injEq, PyData.list.injEq, fr_eq, natc_eq, and_true, true_and] at hh
  try simp only [hh]
  first | exact rr | (subst hh; exact rr)
theorem p__law_power (ds : List DV) (n : Nat) (R : DV → Nat → Prop) (hh : s__law_power ds n R) : Goal t__law_power 4 ds n R := by
  obtain ⟨c, N, rfl, hN, c0, c1, zc, k⟩ := hh
  have f11 : PyData.tuple [.int 1, .int 1] = fr 1 := fr_of (by decide +kernel) (by decide +kernel)
  unfold Goal t__law_power
  simp only [↓oOdd_ap, ↓oHalf_ap, ↓dAsg2_ap, ↓dTruL_ap, ↓dCatOwn_ap, ↓oRepT_ap, ↓dParDX_ap, ↓dVar_ap, ↓dC_ap, ↓dOp_ap, ↓dUn_ap, ↓dCB_ap, ↓dCall_ap, ↓dCallId_ap, ↓dNil_ap, ↓dCons_ap, ↓dTup_ap, ↓dLst_ap, ↓dTest_ap, ↓dNot_ap, ↓dAnd_ap, ↓dOr_ap, ↓dIf_ap, ↓dAndV_ap, ↓dOrV_ap, ↓dNotV_ap, ↓dChain_ap, ↓dChain3_ap, ↓dTy_ap, ↓dIsi_ap, ↓dNoPart_ap, ↓dPart_ap, ↓dSliceL_ap, ↓dSliceA_ap, ↓dPeekT_ap, ↓dPeekI_ap, ↓dYes_ap, ↓dNext_ap, ↓dSeq_ap, ↓dRet_ap, ↓dRetN_ap, ↓dIfS_ap, ↓dDrop_ap, ↓dAsg_ap, ↓dAsgOwn_ap, ↓dFreeze_ap, ↓dAppend_ap, ↓dUnp_ap, ↓unpF_ap, ↓unpT_ap, ↓dPar_ap, ↓dPar3_ap, ↓dParO2_ap, ↓dParO3_ap, ↓dParOD_ap, ↓dParDO_ap, ↓dBreak_ap, ↓dCont_ap, ↓oI_ap, ↓oI0_ap, ↓oNeg_ap, ↓oEq_ap, ↓oNe_ap, ↓oIxT_ap, ↓oIxL_ap, ↓oIx0_ap, ↓oIx1_ap, ↓oIsN_ap, ↓oNotN_ap, ↓oIsB_ap, ↓oNotB_ap, ↓oEqS_ap, ↓oCat_ap, ↓oCatA_ap, ↓oRepL_ap, ↓oLenT_ap, ↓oLenL_ap, ↓oAbs_ap, ↓oInt_ap, ↓oGcd_ap, ↓oListT_ap, ↓oListL_ap, ↓oTupT_ap, ↓oTupL_ap, ↓oMin_ap, ↓oSum_ap, ↓oMax_ap, ↓oMinL_ap, ↓oLcm4_ap, ↓allD_ap, ↓allD_nil, ↓setAll_ap, ↓setAll_nil, TV, LV, IV, BV, FV, atI_0, atI_1, atI_2, atI_3, List.map_cons, List.map_nil, List.length_cons, List.length_nil, List.set_cons_zero, List.set_cons_succ, List.getElem?_cons_zero, List.getElem?_cons_succ, List.cons_append, List.nil_append, Nat.reduceAdd, Nat.reduceSub, Nat.reduceLeDiff, List.replicate, Bool.false_eq_true, if_false, if_true, ite_true, ite_false, true_and, and_true, Bool.not_true, Bool.not_false, decide_true, decide_false, entry, isNone_fr, isNone_non, isNone_tup, isNone_list, isNone_int, isNone_bool, pId, pRev, pR3, pR4, pR5, ↓dCallK_ap, f11]
  refine forRg_go N n (fun j env m => m = n ∧ ∃ o3, env = [some (FV c), some (IV (N : Int)), some (FV (pwQ c j)), o3]) (by omega) (fun R' k' => ?_) ⟨rfl, none, rfl⟩ ?_ ?_
  · simp only [↓oOdd_ap, ↓oHalf_ap, ↓dAsg2_ap, ↓dTruL_ap, ↓dCatOwn_ap, ↓oRepT_ap, ↓dParDX_ap, ↓dVar_ap, ↓dC_ap, ↓dOp_ap, ↓dUn_ap, ↓dCB_ap, ↓dCall_ap, ↓dCallId_ap, ↓dNil_ap, ↓dCons_ap, ↓dTup_ap, ↓dLst_ap, ↓dTest_ap, ↓dNot_ap, ↓dAnd_ap, ↓dOr_ap, ↓dIf_ap, ↓dAndV_ap, ↓dOrV_ap, ↓dNotV_ap, ↓dChain_ap, ↓dChain3_ap, ↓dTy_ap, ↓dIsi_ap, ↓dNoPart_ap, ↓dPart_ap, ↓dSliceL_ap, ↓dSliceA_ap, ↓dPeekT_ap, ↓dPeekI_ap, ↓dYes_ap, ↓dNext_ap, ↓dSeq_ap, ↓dRet_ap, ↓dRetN_ap, ↓dIfS_ap, ↓dDrop_ap, ↓dAsg_ap, ↓dAsgOwn_ap, ↓dFreeze_ap, ↓dAppend_ap, ↓dUnp_ap, ↓unpF_ap, ↓unpT_ap, ↓dPar_ap, ↓dPar3_ap, ↓dParO2_ap, ↓dParO3_ap, ↓dParOD_ap, ↓dParDO_ap, ↓dBreak_ap, ↓dCont_ap, ↓oI_ap, ↓oI0_ap, ↓oNeg_ap, ↓oEq_ap, ↓oNe_ap, ↓oIxT_ap, ↓oIxL_ap, ↓oIx0_ap, ↓oIx1_ap, ↓oIsN_ap, ↓oNotN_ap, ↓oIsB_ap, ↓oNotB_ap, ↓oEqS_ap, ↓oCat_ap, ↓oCatA_ap, ↓oRepL_ap, ↓oLenT_ap, ↓oLenL_ap, ↓oAbs_ap, ↓oInt_ap, ↓oGcd_ap, ↓oListT_ap, ↓oListL_ap, ↓oTupT_ap, ↓oTupL_ap, ↓oMin_ap, ↓oSum_ap, ↓oMax_ap, ↓oMinL_ap, ↓oLcm4_ap, ↓allD_ap, ↓allD_nil, ↓setAll_ap, ↓setAll_nil, TV, LV, IV, BV, FV, atI_0, atI_1, atI_2, atI_3, List.map_cons, List.map_nil, List.length_cons, List.length_nil, List.set_cons_zero, List.set_cons_succ, List.getElem?_cons_zero, List.getElem?_cons_succ, List.cons_append, List.nil_append, Nat.reduceAdd, Nat.reduceSub, Nat.reduceLeDiff, List.replicate, Bool.false_eq_true, if_false, if_true, ite_true, ite_false, true_and, and_true, Bool.not_true, Bool.not_false, decide_true, decide_false, entry, isNone_fr, isNone_non, isNone_tup, isNone_list, isNone_int, isNone_bool, pId, pRev, pR3, pR4, pR5, ↓dCallK_ap]
    exact k'
  · rintro j env m hj ⟨rfl, o3, rfl⟩
    have z := pwQ_szd c0 c1 zc j
    unfold t__law_power_b1
    simp only [↓oOdd_ap, ↓oHalf_ap, ↓dAsg2_ap, ↓dTruL_ap, ↓dCatOwn_ap, ↓oRepT_ap, ↓dParDX_ap, ↓dVar_ap, ↓dC_ap, ↓dOp_ap, ↓dUn_ap, ↓dCB_ap, ↓dCall_ap, ↓dCallId_ap, ↓dNil_ap, ↓dCons_ap, ↓dTup_ap, ↓dLst_ap, ↓dTest_ap, ↓dNot_ap, ↓dAnd_ap, ↓dOr_ap, ↓dIf_ap, ↓dAndV_ap, ↓dOrV_ap, ↓dNotV_ap, ↓dChain_ap, ↓dChain3_ap, ↓dTy_ap, ↓dIsi_ap, ↓dNoPart_ap, ↓dPart_ap, ↓dSliceL_ap, ↓dSliceA_ap, ↓dPeekT_ap, ↓dPeekI_ap, ↓dYes_ap, ↓dNext_ap, ↓dSeq_ap, ↓dRet_ap, ↓dRetN_ap, ↓dIfS_ap, ↓dDrop_ap, ↓dAsg_ap, ↓dAsgOwn_ap, ↓dFreeze_ap, ↓dAppend_ap, ↓dUnp_ap, ↓unpF_ap, ↓unpT_ap, ↓dPar_ap, ↓dPar3_ap, ↓dParO2_ap, ↓dParO3_ap, ↓dParOD_ap, ↓dParDO_ap, ↓dBreak_ap, ↓dCont_ap, ↓oI_ap, ↓oI0_ap, ↓oNeg_ap, ↓oEq_ap, ↓oNe_ap, ↓oIxT_ap, ↓oIxL_ap, ↓oIx0_ap, ↓oIx1_ap, ↓oIsN_ap, ↓oNotN_ap, ↓oIsB_ap, ↓oNotB_ap, ↓oEqS_ap, ↓oCat_ap, ↓oCatA_ap, ↓oRepL_ap, ↓oLenT_ap, ↓oLenL_ap, ↓oAbs_ap, ↓oInt_ap, ↓oGcd_ap, ↓oListT_ap, ↓oListL_ap, ↓oTupT_ap, ↓oTupL_ap, ↓oMin_ap, ↓oSum_ap, ↓oMax_ap, ↓oMinL_ap, ↓oLcm4_ap, ↓allD_ap, ↓allD_nil, ↓setAll_ap, ↓setAll_nil, TV, LV, IV, BV, FV, atI_0, atI_1, atI_2, atI_3, List.map_cons, List.map_nil, List.length_cons, List.length_nil, List.set_cons_zero, List.set_cons_succ, List.getElem?_cons_zero, List.getElem?_cons_succ, List.cons_append, List.nil_append, Nat.reduceAdd, Nat.reduceSub, Nat.reduceLeDiff, List.replicate, Bool.false_eq_true, if_false, if_true, ite_true, ite_false, true_and, and_true, Bool.not_true, Bool.not_false, decide_true, decide_false, entry, isNone_fr, isNone_non, isNone_tup, isNone_list, isNone_int, isNone_bool, pId, pRev, pR3, pR4, pR5, ↓dCallK_ap, ↓e__law_times]
    exact ⟨z.mono (by omega), zc.mono (by decide), some (IV (j : Int)), rfl⟩
  · rintro env m ⟨rfl, o3, rfl⟩
    simp only [↓oOdd_ap, ↓oHalf_ap, ↓dAsg2_ap, ↓dTruL_ap, ↓dCatOwn_ap, ↓oRepT_ap, ↓dParDX_ap, ↓dVar_ap, ↓dC_ap, ↓dOp_ap, ↓dUn_ap, ↓dCB_ap, ↓dCall_ap, ↓dCallId_ap, ↓dNil_ap, ↓dCons_ap, ↓dTup_ap, ↓dLst_ap, ↓dTest_ap, ↓dNot_ap, ↓dAnd_ap, ↓dOr_ap, ↓dIf_ap, ↓dAndV_ap, ↓dOrV_ap, ↓dNotV_ap, ↓dChain_ap, ↓dChain3_ap, ↓dTy_ap, ↓dIsi_ap, ↓dNoPart_ap, ↓dPart_ap, ↓dSliceL_ap, ↓dSliceA_ap, ↓dPeekT_ap, ↓dPeekI_ap, ↓dYes_ap, ↓dNext_ap, ↓dSeq_ap, ↓dRet_ap, ↓dRetN_ap, ↓dIfS_ap, ↓dDrop_ap, ↓dAsg_ap, ↓dAsgOwn_ap, ↓dFreeze_ap, ↓dAppend_ap, ↓dUnp_ap, ↓unpF_ap, ↓unpT_ap, ↓dPar_ap, ↓dPar3_ap, ↓dParO2_ap, ↓dParO3_ap, ↓dParOD_ap, ↓dParDO_ap, ↓dBreak_ap, ↓dCont_ap, ↓oI_ap, ↓oI0_ap, ↓oNeg_ap, ↓oEq_ap, ↓oNe_ap, ↓oIxT_ap, ↓oIxL_ap, ↓oIx0_ap, ↓oIx1_ap, ↓oIsN_ap, ↓oNotN_ap, ↓oIsB_ap, ↓oNotB_ap, ↓oEqS_ap, ↓oCat_ap, ↓oCatA_ap, ↓oRepL_ap, ↓oLenT_ap, ↓oLenL_ap, ↓oAbs_ap, ↓oInt_ap, ↓oGcd_ap, ↓oListT_ap, ↓oListL_ap, ↓oTupT_ap, ↓oTupL_ap, ↓oMin_ap, ↓oSum_ap, ↓oMax_ap, ↓oMinL_ap, ↓oLcm4_ap, ↓allD_ap, ↓allD_nil, ↓setAll_ap, ↓setAll_nil, TV, LV, IV, BV, FV, atI_0, atI_1, atI_2, atI_3, List.map_cons, List.map_nil, List.length_cons, List.length_nil, List.set_cons_zero, List.set_cons_succ, List.getElem?_cons_zero, List.getElem?_cons_succ, List.cons_append, List.nil_append, Nat.reduceAdd, Nat.reduceSub, Nat.reduceLeDiff, List.replicate, Bool.false_eq_true, if_false, if_true, ite_true, ite_false, true_and, and_true, Bool.not_true, Bool.not_false, decide_true, decide_false, entry, isNone_fr, isNone_non, isNone_tup, isNone_list, isNone_int, isNone_bool, pId, pRev, pR3, pR4, pR5, ↓dCallK_ap]
    exact k
theorem lenE_sz {c q : Rat} (c0 : 0 < c) (c1 : c < 1) (zc : Sz 4 c) (hd : q.den ≤ 60) : Sz 510 (lenE c q.den) := by
  have q0 := q.den_pos
  have ex : ∃ m, q.den = m + 1 := ⟨q.den - 1, by omega⟩
  obtain ⟨m, hm⟩ := ex
  have q1 : pwQ c q.den < 1 := by rw [hm]; exact pwQ_lt c0 c1 m
  have zl := one_sz.sub zc
  have z1 := (pwQ_szd c0 c1 zc (q.den - 1)).mono (show _ ≤ 242 by omega)
  have z2 := (pwQ_szd c0 c1 zc q.den).mono (show _ ≤ 242 by omega)
  exact (Sz.div ((zl.mul zl).mul z1) (one_sz.sub z2) (by grind)).mono (by decide)
theorem tidy1 {q : Rat} {k : Nat} (h : Sz k q) (e : k ≤ 1900) : seqD (fr q) = true ∧ Tidy (fr q) := ⟨rfl, tame_fr h e, by rw [bulk_fr]; decide, by rw [depth_fr]; decide⟩
theorem hiE_le {c q : Rat} (c0 : 0 < c) (c1 : c < 1) : hiE c q ≤ q := by
  have q1 : pwQ c q.den < 1 := (InS.low (q := q) c0 c1).q1
  have lg := linF_grow q q.den
  have eP : ((q.den : Int) : Rat) * q = (q.num : Rat) := by rw [Rat.mul_comm]; exact q_den q
  rw [eP] at lg
  have le := tailS_le c0 c1 q1 (flF_grow q) lg (flF_le q) 0
  have li := tailS_lin (r := q) (Q := q.den) c0 c1 q1 0
  rw [eP] at li
  have one : (((0 + 1 : Nat) : Int) : Rat) = 1 := rfl
  rw [li, one] at le
  have l0 : 0 < 1 - c := by grind
  have u := Rat.mul_le_mul_of_nonneg_left le (Rat.le_of_lt (Rat.mul_pos l0 l0))
  unfold hiE TT
  have e : (1 - c) * (1 - c) * (1 * q / (1 - c) + c * q / ((1 - c) * (1 - c))) = q := by
    have : 1 - c ≠ 0 := by grind
    grind
  rw [e] at u
  exact u
/-- the divisor of both ends -/
def eD (c : Rat) (Q : Nat) : Nat := ((c.den : Int) * apN c Q).toNat
theorem eD_int {c : Rat} (C : Prt c) {Q : Nat} (h : 1 ≤ Q) : ((eD c Q : Nat) : Int) = (c.den : Int) * apN c Q := by
  have := Int.mul_pos (show (0 : Int) < (c.den : Int) by have := c.den_pos; omega) (apN_pos C h)
  unfold eD
  omega
theorem eD_pos {c : Rat} (C : Prt c) {Q : Nat} (h : 1 ≤ Q) : 0 < eD c Q := by
  have e := eD_int C h
  have := Int.mul_pos (show (0 : Int) < (c.den : Int) by have := c.den_pos; omega) (apN_pos C h)
  omega
theorem eD_leD {c : Rat} (C : Prt c) {D : Nat} (h8 : c.den ≤ D) {Q : Nat} (h : 1 ≤ Q) : eD c Q ≤ D ^ (Q + 1) := by
  have e := eD_int C h
  obtain ⟨n0, n1⟩ := C.n
  have p : 0 < c.num ^ Q := Int.pow_pos n0
  have a : apN c Q ≤ (c.den : Int) ^ Q := by unfold apN; omega
  have b := Int.mul_le_mul_of_nonneg_left a (show (0 : Int) ≤ (c.den : Int) by omega)
  have d : (c.den : Int) * (c.den : Int) ^ Q = ((c.den ^ (Q + 1) : Nat) : Int) := by
    rw [Int.mul_comm, ← Int.pow_succ]
    simp
  have f : c.den ^ (Q + 1) ≤ D ^ (Q + 1) := Nat.pow_le_pow_left (by omega) _
  omega
theorem De.ends {c q : Rat} (C : Prt c) (hq : 1 ≤ q) {m : Nat} (hm : q ≤ ((m : Int) : Rat)) : De (eD c q.den) m (hiE c q) ∧ De (eD c q.den) m (loE c q) := by
  have q0 := q.den_pos
  have e := eD_int C (show 1 ≤ q.den by omega)
  have ep := eD_pos C (show 1 ≤ q.den by omega)
  have dp := den_q c
  have ap := Rat.intCast_pos.2 (apN_pos C (show 1 ≤ q.den by omega))
  have q1 := pw1 C (show 1 ≤ q.den by omega)
  have g := loE_ge C.c0 C.c1 q1 hq
  have c0 := C.c0
  have l := lenE_pos C.c0 C.c1 q1
  have dl := lenE_diff c q
  have hl := hiE_le (q := q) C.c0 C.c1
  have m0 : -((m : Int) : Rat) ≤ 0 := by
    have : (0 : Rat) ≤ ((m : Int) : Rat) := Rat.intCast_nonneg.2 (by omega)
    grind
  have e1 : hiE c q = (((c.den : Int) * hiA c q : Int) : Rat) / (((eD c q.den : Nat) : Int) : Rat) := by
    rw [← hi_q C, e, Rat.intCast_mul, Rat.intCast_mul]
    generalize ((c.den : Int) : Rat) = w at *
    generalize ((apN c q.den : Int) : Rat) = z at *
    have a2 : z ≠ 0 := by grind
    have a3 : w ≠ 0 := by grind
    rw [Rat.div_def, Rat.div_def, Rat.inv_mul_rev]
    have i2 := Rat.mul_inv_cancel _ a3
    generalize w⁻¹ = x2 at *
    generalize z⁻¹ = x3 at *
    grind
  have e2 : loE c q = (((c.den : Int) * hiA c q - lnA c q.den : Int) : Rat) / (((eD c q.den : Nat) : Int) : Rat) := by
    rw [← lo_q C, e]
  constructor
  · refine De.down (m := ((c.den : Int) * hiA c q).natAbs) ⟨ep, _, e1, Nat.le_mul_of_pos_right _ ep⟩ (by grind) (by grind)
  · refine De.down (m := ((c.den : Int) * hiA c q - lnA c q.den).natAbs) ⟨ep, _, e2, Nat.le_mul_of_pos_right _ ep⟩ (by grind) (by grind)
theorem p__law_ends (ds : List DV) (n : Nat) (R : DV → Nat → Prop) (hh : s__law_ends ds n R) : Goal t__law_ends 6 ds n R := by
  obtain ⟨c, q, rfl, c0, c1, zc, hq, k⟩ := hh
  have f11 : PyData.tuple [.int 1, .int 1] = fr 1 := fr_of (by decide +kernel) (by decide +kernel)
  have q0 := q.den_pos
  have hd := hq.den
  have ex : ∃ m, q.den = m + 1 := ⟨q.den - 1, by omega⟩
  obtain ⟨m, hm⟩ := ex
  have q1 : pwQ c q.den < 1 := by rw [hm]; exact pwQ_lt c0 c1 m
  have r0 : 0 < 1 - pwQ c q.den := by grind
  have zl := one_sz.sub zc
  have z1 := (pwQ_szd c0 c1 zc (q.den - 1)).mono (show _ ≤ 242 by omega)
  have z2 := (pwQ_szd c0 c1 zc q.den).mono (show _ ≤ 242 by omega)
  have eN : (q.den : Int) - 1 = ((q.den - 1 : Nat) : Int) := by omega
  have eP : pwQ c (q.den - 1) * c = pwQ c q.den := by
    rw [hm]
    rfl
  have zL := lenE_sz c0 c1 zc hd
  unfold Goal t__law_ends
  simp only [↓oOdd_ap, ↓oHalf_ap, ↓dAsg2_ap, ↓dTruL_ap, ↓dCatOwn_ap, ↓oRepT_ap, ↓dParDX_ap, ↓dVar_ap, ↓dC_ap, ↓dOp_ap, ↓dUn_ap, ↓dCB_ap, ↓dCall_ap, ↓dCallId_ap, ↓dNil_ap, ↓dCons_ap, ↓dTup_ap, ↓dLst_ap, ↓dTest_ap, ↓dNot_ap, ↓dAnd_ap, ↓dOr_ap, ↓dIf_ap, ↓dAndV_ap, ↓dOrV_ap, ↓dNotV_ap, ↓dChain_ap, ↓dChain3_ap, ↓dTy_ap, ↓dIsi_ap, ↓dNoPart_ap, ↓dPart_ap, ↓dSliceL_ap, ↓dSliceA_ap, ↓dPeekT_ap, ↓dPeekI_ap, ↓dYes_ap, ↓dNext_ap, ↓dSeq_ap, ↓dRet_ap, ↓dRetN_ap, ↓dIfS_ap, ↓dDrop_ap, ↓dAsg_ap, ↓dAsgOwn_ap, ↓dFreeze_ap, ↓dAppend_ap, ↓dUnp_ap, ↓unpF_ap, ↓unpT_ap, ↓dPar_ap, ↓dPar3_ap, ↓dParO2_ap, ↓dParO3_ap, ↓dParOD_ap, ↓dParDO_ap, ↓dBreak_ap, ↓dCont_ap, ↓oI_ap, ↓oI0_ap, ↓oNeg_ap, ↓oEq_ap, ↓oNe_ap, ↓oIxT_ap, ↓oIxL_ap, ↓oIx0_ap, ↓oIx1_ap, ↓oIsN_ap, ↓oNotN_ap, ↓oIsB_ap, ↓oNotB_ap, ↓oEqS_ap, ↓oCat_ap, ↓oCatA_ap, ↓oRepL_ap, ↓oLenT_ap, ↓oLenL_ap, ↓oAbs_ap, ↓oInt_ap, ↓oGcd_ap, ↓oListT_ap, ↓oListL_ap, ↓oTupT_ap, ↓oTupL_ap, ↓oMin_ap, ↓oSum_ap, ↓oMax_ap, ↓oMinL_ap, ↓oLcm4_ap, ↓allD_ap, ↓allD_nil, ↓setAll_ap, ↓setAll_nil, TV, LV, IV, BV, FV, atI_0, atI_1, atI_2, atI_3, List.map_cons, List.map_nil, List.length_cons, List.length_nil, List.set_cons_zero, List.set_cons_succ, List.getElem?_cons_zero, List.getElem?_cons_succ, List.cons_append, List.nil_append, Nat.reduceAdd, Nat.reduceSub, Nat.reduceLeDiff, List.replicate, Bool.false_eq_true, if_false, if_true, ite_true, ite_false, true_and, and_true, Bool.not_true, Bool.not_false, decide_true, decide_false, entry, isNone_fr, isNone_non, isNone_tup, isNone_list, isNone_int, isNone_bool, pId, pRev, pR3, pR4, pR5, ↓dCallK_ap, ↓f11, ↓ixF1, eN, eP, ↓e__law_minus, ↓e__law_times, ↓e__law_floors, ↓e__law_power, ↓e__law_over]
  refine ⟨one_sz.mono (by decide), zc.mono (by decide), zl.mono (by decide), zl.mono (by decide), c0, c1, zc, hq, fun zt => ?_⟩
  have C : Prt c := ⟨(zc.mono (by decide)).bd, c0, c1, by have := zc.d; unfold B at this; omega⟩
  have hq1 : q ≤ (((1000 : Nat) : Int) : Rat) := by
    have h := q_den q
    have d := den_q q
    have d1 : (1 : Rat) ≤ ((q.den : Int) : Rat) := by
      have := Rat.intCast_le_intCast.2 (show (1 : Int) ≤ (q.den : Int) by omega)
      exact this
    have n1 := Rat.intCast_le_intCast.2 hq.num
    have q1 := hq.one
    have u := Rat.mul_le_mul_of_nonneg_left d1 (show (0 : Rat) ≤ q by grind)
    have e : (((1000 : Nat) : Int) : Rat) = ((1000 : Int) : Rat) := rfl
    grind
  have dE := De.ends C hq.one hq1
  have bE : B 256 (eD c q.den) := by
    have c4 := zc.d
    have h := eD_leD C (D := 2 ^ 4) (Nat.le_of_lt c4) (show 1 ≤ q.den by omega)
    show eD c q.den < 2 ^ 256
    refine Nat.lt_of_le_of_lt h ?_
    rw [← Nat.pow_mul]
    exact Nat.pow_lt_pow_right (by decide) (by omega)
  have zh : Sz 270 (hiE c q) := (dE.1.sz (show B 10 1000 from B.of (by decide)) bE).mono (by decide)
  have zo : Sz 270 (loE c q) := (dE.2.sz (show B 10 1000 from B.of (by decide)) bE).mono (by decide)
  exact ⟨(zl.mul zl).mono (by decide), zt.mono (by decide), by omega, c0, c1, zc, z1.mono (by decide), zc.mono (by decide), one_sz.mono (by decide), z2.mono (by decide), zl.mono (by decide), zl.mono (by decide), (zl.mul zl).mono (by decide), z1.mono (by decide), ((zl.mul zl).mul z1).mono (by decide), (one_sz.sub z2).mono (by decide), r0, zh.mono (by decide), zL.mono (by decide), k zo zh⟩
end Sx

set_option Elab.async false
set_option linter.all false
set_option maxRecDepth 100000
set_option maxHeartbeats 2000000
namespace Sx
open PySem L2
section
variable {X : Cx} {ta : DT} {ts : DTS}
end
section
variable {X : Cx} {ta tb : DT} {st : Stmt}
end
section
variable {X : Cx} {S : DSp} {f : Addr} {fd : FuncData} {ps : List Str} {k : Nat} {x : Str} {p pos : Pos}
end
end Sx

set_option Elab.async false
set_option linter.all false
set_option maxRecDepth 100000
set_option maxHeartbeats 2000000
namespace Sx
open PySem L2
section
variable {X : Cx} {ta : DT}
end
end Sx

set_option Elab.async false
set_option linter.all false
set_option maxRecDepth 100000
set_option maxHeartbeats 2000000
namespace Sx
open PySem L2
section
variable {M M' : Addr → Prop} {H : Hp} {a : Addr} {xs : List V}
end
section
variable {X : Cx} {e : Expr} {ta : DT}
end
end Sx

set_option Elab.async false
set_option linter.all false
set_option maxRecDepth 100000
set_option maxHeartbeats 2000000
namespace Sx
open PySem L2
section
variable {X : Cx} {e : Expr} {tl : DTA} {tt : DTB} {tb : DT} {ts : DTS}
end
end Sx

set_option Elab.async false
set_option linter.all false
set_option maxRecDepth 100000
set_option maxHeartbeats 2000000
namespace Sx
open PySem L2
section
variable {X : Cx} {ta : DT} {ts : DTS}
end
end Sx

set_option Elab.async false
set_option linter.all false
set_option maxRecDepth 100000
set_option maxHeartbeats 2000000
namespace Sx
open PySem L2
section
variable {X : Cx} {tb : DT} {tl : DTA} {st : Stmt}
end
end Sx

set_option Elab.async false
set_option linter.all false
set_option maxRecDepth 100000
set_option maxHeartbeats 2000000
namespace Sx
open PySem L2
section
variable {X : Cx} {ta : DT} {ts : DTS}
end
end Sx

set_option Elab.async false
set_option linter.all false
set_option maxRecDepth 100000
set_option maxHeartbeats 2000000
namespace Sx
open PySem L2
section
variable {X : Cx} {e : Expr} {tl : DTA} {tt : DTB} {tb : DT} {ts : DTS}
end
end Sx

set_option Elab.async false
set_option linter.all false
set_option maxRecDepth 100000
set_option maxHeartbeats 2000000
namespace Sx
open PySem L2
open PyProof.Rows hiding St
section
variable {prog : Program} {w : World} {A : Around} {E : Value → Shared → Prop} {s : Shared} {t : Addr} {vs : List Value} {is : List Int} {Q : Value → Shared → Prop}
end
end Sx

set_option Elab.async false
set_option linter.all false
set_option maxRecDepth 100000
set_option maxHeartbeats 2000000
namespace Sx
open PySem L2
end Sx

set_option Elab.async false
set_option linter.all false
set_option maxRecDepth 100000
set_option maxHeartbeats 2000000
namespace Sx
open PySem L2
section
variable {X : Cx} {e : Expr} {ta : DT}
end
end Sx

set_option Elab.async false
set_option linter.all false
set_option maxRecDepth 100000
set_option maxHeartbeats 2000000
namespace Sx
open PySem L2
end Sx

set_option Elab.async false
set_option linter.all false
set_option maxRecDepth 100000
set_option maxHeartbeats 2000000
namespace Sx
open PySem PySem.Spec PyProof.Rows PySem.P L2
section
variable {prog : Program} {w : World} {A : Around} {E : Value → Shared → Prop} {s : Shared}
end
section
variable {X : Cx} {e : Expr} {ta : DT} {pos : Pos}
end
end Sx

set_option Elab.async false
set_option linter.all false
set_option maxRecDepth 100000
set_option maxHeartbeats 4000000
namespace L2
open PySem PySem.Spec PyProof.Rows
section
variable {X : Cx}
end
end L2
namespace Sx
open PySem L2
end Sx

set_option Elab.async false
set_option linter.all false
set_option maxRecDepth 100000
set_option maxHeartbeats 4000000
namespace L2
open PySem PySem.Spec PyProof.Rows
section
variable {X : Cx} {e : Expr} {ta : TA} {p1 p2 pos pos2 : Pos}
end
end L2
namespace Sx
open PySem L2
section
variable {X : Cx} {f : Expr} {tl : DTA}
end
end Sx

set_option Elab.async false
set_option linter.all false
set_option maxRecDepth 100000
set_option maxHeartbeats 2000000
namespace Sx
open PySem L2 PySem.Spec
open PyProof.Rows hiding St
end Sx

set_option Elab.async false
set_option linter.all false
set_option maxRecDepth 100000
set_option maxHeartbeats 2000000
namespace Sx
open PySem L2
section
variable {X : Cx} {tl : DTA} {ts : DTS} {i j : Nat}
end
end Sx

set_option Elab.async false
set_option linter.all false
set_option maxRecDepth 100000
set_option maxHeartbeats 2000000
namespace Sx
open PySem PySem.Spec L2
open PyProof.Rows hiding St
theorem fnG_no {P : Program} {w : World} {K : PySem.W.Frag} {mg : Str → Option Value} {base : Heap} {k : Nat} {f : Addr} {fd : FuncData} {ps : List Str} : FnG P w K mg base CX0 k f fd ps (cSp fun _ _ _ => False) :=
  ⟨fun vs H Q E ⟨_, _, _, _, _, _, _, _, _, h, _⟩ => h.elim, fun A out s H ar us vs Q E _ _ _ _ ⟨_, _, _, _, _, _, _, _, _, h, _⟩ => h.elim⟩
theorem cut_to {ds : List PyData} {i : Nat} (h : i ≤ ds.length) : cutD ds none (some (i : Int)) = ds.take i := by
  have e1 : HT.sIx ds.length 0 none = 0 := rfl
  have e2 : HT.sIx ds.length ds.length (some (i : Int)) = i := by
    rw [HT.sIx_nat]
    omega
  unfold cutD
  rw [e1, e2, List.drop_zero, Nat.sub_zero]
theorem cut_from {ds : List PyData} {i : Nat} (h : i ≤ ds.length) : cutD ds (some (i : Int)) none = ds.drop i := by
  have e1 : HT.sIx ds.length 0 (some (i : Int)) = i := by
    rw [HT.sIx_nat]
    omega
  have e2 : HT.sIx ds.length ds.length none = ds.length := rfl
  unfold cutD
  rw [e1, e2, List.take_of_length_le (by rw [List.length_drop]; omega)]
end Sx

set_option Elab.async false
set_option linter.all false
set_option maxRecDepth 100000
set_option maxHeartbeats 4000000
namespace Sx
open PySem PySem.Spec L2
/-- how many of 1 .. i have no common divisor with N -/
def cntG (N : Nat) : Nat → Nat
  | 0 => 0
  | i + 1 => cntG N i + (if Nat.gcd (i + 1) N = 1 then 1 else 0)
abbrev phN (N : Nat) : Nat := cntG N N
theorem cntG_le (N : Nat) : ∀ i, cntG N i ≤ i
  | 0 => Nat.le_refl _
  | i + 1 => by
    have := cntG_le N i
    show cntG N i + _ ≤ _
    split <;> omega
def covQ (c : Rat) : Nat → Rat
  | 0 => 0
  | N + 1 => covQ c N + (((phN (N + 1) : Nat) : Int) : Rat) * lenE c (N + 1)
def prY : List (Int × Int) → Int
  | [] => 1
  | p :: l => p.2 * prY l
def smA : List (Int × Int) → Int
  | [] => 0
  | p :: l => p.1 * prY l + smA l * p.2
def pD (p : Int × Int) : PyData := .tuple [.int p.1, .int p.2]
theorem prY_app : ∀ l m : List (Int × Int), prY (l ++ m) = prY l * prY m
  | [], m => (Int.one_mul _).symm
  | p :: l, m => by
    show p.2 * prY (l ++ m) = p.2 * prY l * prY m
    rw [prY_app l m, Int.mul_assoc]
theorem smA_app : ∀ l m : List (Int × Int), smA (l ++ m) = smA l * prY m + smA m * prY l
  | [], m => by
    show smA m = 0 * prY m + smA m * 1
    omega
  | p :: l, m => by
    show p.1 * prY (l ++ m) + smA (l ++ m) * p.2 = (p.1 * prY l + smA l * p.2) * prY m + smA m * (p.2 * prY l)
    rw [prY_app, smA_app l m]
    grind
theorem prY_B {k : Nat} : ∀ {l : List (Int × Int)}, (∀ p ∈ l, B k p.1.natAbs ∧ B k p.2.natAbs) → (prY l).natAbs ≤ 2 ^ (k * l.length)
  | [], _ => by show (1 : Int).natAbs ≤ 2 ^ (k * 0); rw [Nat.mul_zero]; decide
  | p :: l, h => by
    have a := prY_B (l := l) fun q hq => h q (List.mem_cons_of_mem _ hq)
    have b : p.2.natAbs < 2 ^ k := (h p List.mem_cons_self).2
    show (p.2 * prY l).natAbs ≤ 2 ^ (k * (l.length + 1))
    rw [Int.natAbs_mul, Nat.mul_succ, Nat.pow_add, Nat.mul_comm (2 ^ (k * l.length))]
    exact Nat.mul_le_mul (Nat.le_of_lt b) a
theorem smA_B {k : Nat} : ∀ {l : List (Int × Int)}, (∀ p ∈ l, B k p.1.natAbs ∧ B k p.2.natAbs) → (smA l).natAbs ≤ l.length * 2 ^ (k * l.length)
  | [], _ => by show (0 : Int).natAbs ≤ _; omega
  | p :: l, h => by
    have h' : ∀ q ∈ l, B k q.1.natAbs ∧ B k q.2.natAbs := fun q hq => h q (List.mem_cons_of_mem _ hq)
    have a := smA_B h'
    have y := prY_B h'
    have b1 : p.1.natAbs < 2 ^ k := (h p List.mem_cons_self).1
    have b2 : p.2.natAbs < 2 ^ k := (h p List.mem_cons_self).2
    show (p.1 * prY l + smA l * p.2).natAbs ≤ (l.length + 1) * 2 ^ (k * (l.length + 1))
    have x1 : (p.1 * prY l).natAbs ≤ 2 ^ k * 2 ^ (k * l.length) := by
      rw [Int.natAbs_mul]
      exact Nat.mul_le_mul (Nat.le_of_lt b1) y
    have x2 : (smA l * p.2).natAbs ≤ (l.length * 2 ^ (k * l.length)) * 2 ^ k := by
      rw [Int.natAbs_mul]
      exact Nat.mul_le_mul a (Nat.le_of_lt b2)
    have e : 2 ^ (k * (l.length + 1)) = 2 ^ k * 2 ^ (k * l.length) := by rw [Nat.mul_succ, Nat.pow_add, Nat.mul_comm]
    have e2 : (l.length * 2 ^ (k * l.length)) * 2 ^ k = l.length * (2 ^ k * 2 ^ (k * l.length)) := by rw [Nat.mul_assoc, Nat.mul_comm (2 ^ (k * l.length))]
    rw [e, Nat.succ_mul]
    omega
theorem prY_Bk {l : List (Int × Int)} (h : ∀ p ∈ l, B 60 p.1.natAbs ∧ B 60 p.2.natAbs) (hl : l.length ≤ 16) : B 1000 (prY l).natAbs := by
  have a := prY_B h
  have b : 2 ^ (60 * l.length) ≤ 2 ^ (60 * 16) := Nat.pow_le_pow_right (by decide) (Nat.mul_le_mul_left _ hl)
  have c : 2 ^ (60 * 16) < 2 ^ 1000 := Nat.pow_lt_pow_right (by decide) (by decide)
  unfold B
  omega
theorem smA_Bk {l : List (Int × Int)} (h : ∀ p ∈ l, B 60 p.1.natAbs ∧ B 60 p.2.natAbs) (hl : l.length ≤ 16) : B 1000 (smA l).natAbs := by
  have a := smA_B h
  have b : 2 ^ (60 * l.length) ≤ 2 ^ (60 * 16) := Nat.pow_le_pow_right (by decide) (Nat.mul_le_mul_left _ hl)
  have d : l.length * 2 ^ (60 * l.length) ≤ 16 * 2 ^ (60 * 16) := Nat.mul_le_mul hl b
  have c : 16 * 2 ^ (60 * 16) < 2 ^ 1000 := by
    have : (16 : Nat) = 2 ^ 4 := rfl
    rw [this, ← Nat.pow_add]
    exact Nat.pow_lt_pow_right (by decide) (by decide)
  unfold B
  omega
def sr_total_of : Nat → DSp
  | 0 => fun _ _ _ => False
  | d + 1 => fun ds n R => ∃ l : List (Int × Int), ds = [LV (l.map pD)] ∧ (1 ≤ l.length ∧ l.length ≤ 2 ^ d ∧ l.length ≤ 16) ∧ (∀ p ∈ l, B 60 p.1.natAbs ∧ B 60 p.2.natAbs) ∧ R (TV [.int (smA l), .int (prY l)]) n
def s_total_of : DSp := sr_total_of 12
theorem ln_total_of (d : Nat) (ds : List DV) (n : Nat) (R : DV → Nat → Prop) (h : sr_total_of (d + 1) ds n R) : ds.length = 1 := by
  obtain ⟨l, rfl, _⟩ := h
  rfl
/-- total_of. Slots: numbers, half, one, other -/
def t_total_of (d : Nat) : DTS :=
  (dSeq (dIfS (dTest (dOp oEq (dCB oLen (dCons (dVar 0) dNil)) (dC (.int 1)))) (dRet (dOp oIxL (dVar 0) (dC (.int 0)))) dNext)
  (dSeq (dAsg 1 (dOp oDiv (dCB oLen (dCons (dVar 0) dNil)) (dC (.int 2))))
  (dSeq (dAsg 2 (dCall (sr_total_of d) (dCons (dSliceL (dVar 0) dNoPart (dPart (dVar 1))) dNil)))
  (dSeq (dAsg 3 (dCall (sr_total_of d) (dCons (dSliceL (dVar 0) (dPart (dVar 1)) dNoPart) dNil)))
  (dRet (dTup (dCons (dOp oAdd (dOp oMul (dOp oIxT (dVar 2) (dC (.int 0))) (dOp oIxT (dVar 3) (dC (.int 1)))) (dOp oMul (dOp oIxT (dVar 3) (dC (.int 0))) (dOp oIxT (dVar 2) (dC (.int 1))))) (dCons (dOp oMul (dOp oIxT (dVar 2) (dC (.int 1))) (dOp oIxT (dVar 3) (dC (.int 1)))) dNil))))))))
theorem p_total_of (d : Nat) (ds : List DV) (n : Nat) (R : DV → Nat → Prop) (hh : sr_total_of (d + 1) ds n R) : Goal (t_total_of d) 4 ds n R := by
  obtain ⟨l, rfl, ⟨l1, l2, l16⟩, hB, k⟩ := hh
  unfold Goal t_total_of
  rw [dSeq_ap, dIfS_ap]
  simp only [↓oOdd_ap, ↓oHalf_ap, ↓dAsg2_ap, ↓dTruL_ap, ↓dCatOwn_ap, ↓oRepT_ap, ↓dParDX_ap, ↓dVar_ap, ↓dC_ap, ↓dOp_ap, ↓dUn_ap, ↓dCB_ap, ↓dCall_ap, ↓dCallId_ap, ↓dNil_ap, ↓dCons_ap, ↓dTup_ap, ↓dLst_ap, ↓dTest_ap, ↓dNot_ap, ↓dAnd_ap, ↓dOr_ap, ↓dIf_ap, ↓dOrV_ap, ↓dNotV_ap, ↓dChain_ap, ↓dChain3_ap, ↓dTy_ap, ↓dIsi_ap, ↓dNoPart_ap, ↓dPart_ap, ↓dSliceL_ap, ↓dSliceA_ap, ↓dPeekT_ap, ↓dPeekI_ap, ↓dYes_ap, ↓dNext_ap, ↓dSeq_ap, ↓dRet_ap, ↓dRetN_ap, ↓dDrop_ap, ↓dAsg_ap, ↓dAsgOwn_ap, ↓dFreeze_ap, ↓dAppend_ap, ↓dUnp_ap, ↓unpF_ap, ↓unpT_ap, ↓dPar_ap, ↓dPar3_ap, ↓dParO2_ap, ↓dParO3_ap, ↓dParOD_ap, ↓dParDO_ap, ↓dBreak_ap, ↓dCont_ap, ↓oI_ap, ↓oI0_ap, ↓oNeg_ap, ↓oEq_ap, ↓oNe_ap, ↓oIxT_ap, ↓oIxL_ap, ↓oIx0_ap, ↓oIx1_ap, ↓oIsN_ap, ↓oNotN_ap, ↓oIsB_ap, ↓oNotB_ap, ↓oEqS_ap, ↓oCat_ap, ↓oCatA_ap, ↓oRepL_ap, ↓oLenT_ap, ↓oLenL_ap, ↓oAbs_ap, ↓oInt_ap, ↓oGcd_ap, ↓oListT_ap, ↓oListL_ap, ↓oTupT_ap, ↓oTupL_ap, ↓oMin_ap, ↓oSum_ap, ↓oMax_ap, ↓oMinL_ap, ↓oLcm4_ap, ↓allD_ap, ↓allD_nil, ↓setAll_ap, ↓setAll_nil, TV, LV, IV, BV, FV, atI_0, atI_1, atI_2, atI_3, List.map_cons, List.map_nil, List.length_cons, List.length_nil, List.set_cons_zero, List.set_cons_succ, List.getElem?_cons_zero, List.getElem?_cons_succ, List.cons_append, List.nil_append, Nat.reduceAdd, Nat.reduceSub, Nat.reduceLeDiff, List.replicate, Bool.false_eq_true, if_false, if_true, ite_true, ite_false, true_and, and_true, Bool.not_true, Bool.not_false, decide_true, decide_false, entry, isNone_fr, isNone_non, isNone_tup, isNone_list, isNone_int, isNone_bool, pId, pRev, pR3, pR4, pR5, ↓dCallK_ap, List.length_map, shaped_int, eqv_int, beq_iff_eq]
  by_cases h1 : l.length = 1
  · rw [if_pos (by omega)]
    obtain ⟨p, rfl⟩ : ∃ p, l = [p] := by
      cases l with
      | nil => cases h1
      | cons p l =>
        cases l with
        | nil => exact ⟨p, rfl⟩
        | cons q l => simp at h1
    have e1 : smA [p] = p.1 := by show p.1 * 1 + 0 * p.2 = p.1; omega
    have e2 : prY [p] = p.2 := by show p.2 * 1 = p.2; omega
    rw [e1, e2] at k
    exact k
  · rw [if_neg (by omega)]
    have eh : (l.length : Int) / 2 = ((l.length / 2 : Nat) : Int) := by omega
    cases d with
    | zero =>
      have : l.length ≤ 1 := l2
      omega
    | succ d =>
      have p2 : 2 ^ (d + 1) = 2 * 2 ^ d := by rw [Nat.pow_succ]; omega
      rw [p2] at l2
      have hle : l.length / 2 ≤ (l.map pD).length := by rw [List.length_map]; omega
      have ha : (l.take (l.length / 2)).length = l.length / 2 := by rw [List.length_take]; omega
      have hb : (l.drop (l.length / 2)).length = l.length - l.length / 2 := by rw [List.length_drop]
      have Ba : ∀ p ∈ l.take (l.length / 2), B 60 p.1.natAbs ∧ B 60 p.2.natAbs := fun p hp => hB p (List.mem_of_mem_take hp)
      have Bb : ∀ p ∈ l.drop (l.length / 2), B 60 p.1.natAbs ∧ B 60 p.2.natAbs := fun p hp => hB p (List.mem_of_mem_drop hp)
      have es := smA_app (l.take (l.length / 2)) (l.drop (l.length / 2))
      have ep := prY_app (l.take (l.length / 2)) (l.drop (l.length / 2))
      rw [List.take_append_drop] at es ep
      simp only [↓oOdd_ap, ↓oHalf_ap, ↓dAsg2_ap, ↓dTruL_ap, ↓dCatOwn_ap, ↓oRepT_ap, ↓dParDX_ap, ↓dVar_ap, ↓dC_ap, ↓dOp_ap, ↓dUn_ap, ↓dCB_ap, ↓dCall_ap, ↓dCallId_ap, ↓dNil_ap, ↓dCons_ap, ↓dTup_ap, ↓dLst_ap, ↓dTest_ap, ↓dNot_ap, ↓dAnd_ap, ↓dOr_ap, ↓dIf_ap, ↓dOrV_ap, ↓dNotV_ap, ↓dChain_ap, ↓dChain3_ap, ↓dTy_ap, ↓dIsi_ap, ↓dNoPart_ap, ↓dPart_ap, ↓dSliceL_ap, ↓dSliceA_ap, ↓dPeekT_ap, ↓dPeekI_ap, ↓dYes_ap, ↓dNext_ap, ↓dSeq_ap, ↓dRet_ap, ↓dRetN_ap, ↓dDrop_ap, ↓dAsg_ap, ↓dAsgOwn_ap, ↓dFreeze_ap, ↓dAppend_ap, ↓dUnp_ap, ↓unpF_ap, ↓unpT_ap, ↓dPar_ap, ↓dPar3_ap, ↓dParO2_ap, ↓dParO3_ap, ↓dParOD_ap, ↓dParDO_ap, ↓dBreak_ap, ↓dCont_ap, ↓oI_ap, ↓oI0_ap, ↓oNeg_ap, ↓oEq_ap, ↓oNe_ap, ↓oIxT_ap, ↓oIxL_ap, ↓oIx0_ap, ↓oIx1_ap, ↓oIsN_ap, ↓oNotN_ap, ↓oIsB_ap, ↓oNotB_ap, ↓oEqS_ap, ↓oCat_ap, ↓oCatA_ap, ↓oRepL_ap, ↓oLenT_ap, ↓oLenL_ap, ↓oAbs_ap, ↓oInt_ap, ↓oGcd_ap, ↓oListT_ap, ↓oListL_ap, ↓oTupT_ap, ↓oTupL_ap, ↓oMin_ap, ↓oSum_ap, ↓oMax_ap, ↓oMinL_ap, ↓oLcm4_ap, ↓allD_ap, ↓allD_nil, ↓setAll_ap, ↓setAll_nil, TV, LV, IV, BV, FV, atI_0, atI_1, atI_2, atI_3, List.map_cons, List.map_nil, List.length_cons, List.length_nil, List.set_cons_zero, List.set_cons_succ, List.getElem?_cons_zero, List.getElem?_cons_succ, List.cons_append, List.nil_append, Nat.reduceAdd, Nat.reduceSub, Nat.reduceLeDiff, List.replicate, Bool.false_eq_true, if_false, if_true, ite_true, ite_false, true_and, and_true, Bool.not_true, Bool.not_false, decide_true, decide_false, entry, isNone_fr, isNone_non, isNone_tup, isNone_list, isNone_int, isNone_bool, pId, pRev, pR3, pR4, pR5, ↓dCallK_ap, eh, List.length_map]
      refine ⟨⟨by decide, by decide⟩, ?_⟩
      refine ⟨l.take (l.length / 2), by rw [cut_to hle, List.map_take], ⟨by omega, by omega, by omega⟩, Ba, ?_⟩
      simp only [↓oOdd_ap, ↓oHalf_ap, ↓dAsg2_ap, ↓dTruL_ap, ↓dCatOwn_ap, ↓oRepT_ap, ↓dParDX_ap, ↓dVar_ap, ↓dC_ap, ↓dOp_ap, ↓dUn_ap, ↓dCB_ap, ↓dCall_ap, ↓dCallId_ap, ↓dNil_ap, ↓dCons_ap, ↓dTup_ap, ↓dLst_ap, ↓dTest_ap, ↓dNot_ap, ↓dAnd_ap, ↓dOr_ap, ↓dIf_ap, ↓dOrV_ap, ↓dNotV_ap, ↓dChain_ap, ↓dChain3_ap, ↓dTy_ap, ↓dIsi_ap, ↓dNoPart_ap, ↓dPart_ap, ↓dSliceL_ap, ↓dSliceA_ap, ↓dPeekT_ap, ↓dPeekI_ap, ↓dYes_ap, ↓dNext_ap, ↓dSeq_ap, ↓dRet_ap, ↓dRetN_ap, ↓dDrop_ap, ↓dAsg_ap, ↓dAsgOwn_ap, ↓dFreeze_ap, ↓dAppend_ap, ↓dUnp_ap, ↓unpF_ap, ↓unpT_ap, ↓dPar_ap, ↓dPar3_ap, ↓dParO2_ap, ↓dParO3_ap, ↓dParOD_ap, ↓dParDO_ap, ↓dBreak_ap, ↓dCont_ap, ↓oI_ap, ↓oI0_ap, ↓oNeg_ap, ↓oEq_ap, ↓oNe_ap, ↓oIxT_ap, ↓oIxL_ap, ↓oIx0_ap, ↓oIx1_ap, ↓oIsN_ap, ↓oNotN_ap, ↓oIsB_ap, ↓oNotB_ap, ↓oEqS_ap, ↓oCat_ap, ↓oCatA_ap, ↓oRepL_ap, ↓oLenT_ap, ↓oLenL_ap, ↓oAbs_ap, ↓oInt_ap, ↓oGcd_ap, ↓oListT_ap, ↓oListL_ap, ↓oTupT_ap, ↓oTupL_ap, ↓oMin_ap, ↓oSum_ap, ↓oMax_ap, ↓oMinL_ap, ↓oLcm4_ap, ↓allD_ap, ↓allD_nil, ↓setAll_ap, ↓setAll_nil, TV, LV, IV, BV, FV, atI_0, atI_1, atI_2, atI_3, List.map_cons, List.map_nil, List.length_cons, List.length_nil, List.set_cons_zero, List.set_cons_succ, List.getElem?_cons_zero, List.getElem?_cons_succ, List.cons_append, List.nil_append, Nat.reduceAdd, Nat.reduceSub, Nat.reduceLeDiff, List.replicate, Bool.false_eq_true, if_false, if_true, ite_true, ite_false, true_and, and_true, Bool.not_true, Bool.not_false, decide_true, decide_false, entry, isNone_fr, isNone_non, isNone_tup, isNone_list, isNone_int, isNone_bool, pId, pRev, pR3, pR4, pR5, ↓dCallK_ap]
      refine ⟨l.drop (l.length / 2), by rw [cut_from hle, List.map_drop], ⟨by omega, by omega, by omega⟩, Bb, ?_⟩
      have z1 := smA_Bk Ba (by omega)
      have z2 := smA_Bk Bb (by omega)
      have z3 := prY_Bk Ba (by omega)
      have z4 := prY_Bk Bb (by omega)
      simp only [↓oOdd_ap, ↓oHalf_ap, ↓dAsg2_ap, ↓dTruL_ap, ↓dCatOwn_ap, ↓oRepT_ap, ↓dParDX_ap, ↓dVar_ap, ↓dC_ap, ↓dOp_ap, ↓dUn_ap, ↓dCB_ap, ↓dCall_ap, ↓dCallId_ap, ↓dNil_ap, ↓dCons_ap, ↓dTup_ap, ↓dLst_ap, ↓dTest_ap, ↓dNot_ap, ↓dAnd_ap, ↓dOr_ap, ↓dIf_ap, ↓dOrV_ap, ↓dNotV_ap, ↓dChain_ap, ↓dChain3_ap, ↓dTy_ap, ↓dIsi_ap, ↓dNoPart_ap, ↓dPart_ap, ↓dSliceL_ap, ↓dSliceA_ap, ↓dPeekT_ap, ↓dPeekI_ap, ↓dYes_ap, ↓dNext_ap, ↓dSeq_ap, ↓dRet_ap, ↓dRetN_ap, ↓dDrop_ap, ↓dAsg_ap, ↓dAsgOwn_ap, ↓dFreeze_ap, ↓dAppend_ap, ↓dUnp_ap, ↓unpF_ap, ↓unpT_ap, ↓dPar_ap, ↓dPar3_ap, ↓dParO2_ap, ↓dParO3_ap, ↓dParOD_ap, ↓dParDO_ap, ↓dBreak_ap, ↓dCont_ap, ↓oI_ap, ↓oI0_ap, ↓oNeg_ap, ↓oEq_ap, ↓oNe_ap, ↓oIxT_ap, ↓oIxL_ap, ↓oIx0_ap, ↓oIx1_ap, ↓oIsN_ap, ↓oNotN_ap, ↓oIsB_ap, ↓oNotB_ap, ↓oEqS_ap, ↓oCat_ap, ↓oCatA_ap, ↓oRepL_ap, ↓oLenT_ap, ↓oLenL_ap, ↓oAbs_ap, ↓oInt_ap, ↓oGcd_ap, ↓oListT_ap, ↓oListL_ap, ↓oTupT_ap, ↓oTupL_ap, ↓oMin_ap, ↓oSum_ap, ↓oMax_ap, ↓oMinL_ap, ↓oLcm4_ap, ↓allD_ap, ↓allD_nil, ↓setAll_ap, ↓setAll_nil, TV, LV, IV, BV, FV, atI_0, atI_1, atI_2, atI_3, List.map_cons, List.map_nil, List.length_cons, List.length_nil, List.set_cons_zero, List.set_cons_succ, List.getElem?_cons_zero, List.getElem?_cons_succ, List.cons_append, List.nil_append, Nat.reduceAdd, Nat.reduceSub, Nat.reduceLeDiff, List.replicate, Bool.false_eq_true, if_false, if_true, ite_true, ite_false, true_and, and_true, Bool.not_true, Bool.not_false, decide_true, decide_false, entry, isNone_fr, isNone_non, isNone_tup, isNone_list, isNone_int, isNone_bool, pId, pRev, pR3, pR4, pR5, ↓dCallK_ap]
      rw [es, ep] at k
      exact ⟨mulB z1 z4 (by decide), mulB z2 z3 (by decide), mulB z3 z4 (by decide), k⟩
theorem e_total_of (l : List (Int × Int)) (n : Nat) (R : DV → Nat → Prop) (h : 1 ≤ l.length ∧ l.length ≤ 16) (hB : ∀ p ∈ l, B 60 p.1.natAbs ∧ B 60 p.2.natAbs) (k : R (TV [.int (smA l), .int (prY l)]) n) : s_total_of [LV (l.map pD)] n R :=
  ⟨l, rfl, ⟨h.1, Nat.le_trans h.2 (by decide), h.2⟩, hB, k⟩
def cvP (c : Rat) (N : Nat) : Int × Int := (((phN N : Nat) : Int) * lnA c N, (c.den : Int) * apN c N)
def cvL (c : Rat) (M : Nat) : List (Int × Int) := (List.range M).map fun i => cvP c (i + 1)
theorem cvL_len (c : Rat) (M : Nat) : (cvL c M).length = M := by simp [cvL]
theorem cvL_succ (c : Rat) (M : Nat) : cvL c (M + 1) = cvL c M ++ [cvP c (M + 1)] := by
  unfold cvL
  rw [List.range_succ, List.map_append]
  rfl
theorem cv_pos {c : Rat} (C : Prt c) : ∀ M, 0 < prY (cvL c M)
  | 0 => by show (0 : Int) < 1; decide
  | M + 1 => by
    rw [cvL_succ, prY_app]
    have a := apN_pos C (show 1 ≤ M + 1 by omega)
    have d := c.den_pos
    have e : prY [cvP c (M + 1)] = (c.den : Int) * apN c (M + 1) := by show (c.den : Int) * apN c (M + 1) * 1 = _; omega
    rw [e]
    exact Int.mul_pos (cv_pos C M) (Int.mul_pos (by omega) a)
theorem cv_sum {c : Rat} (C : Prt c) : ∀ M, ((smA (cvL c M) : Int) : Rat) / ((prY (cvL c M) : Int) : Rat) = covQ c M
  | 0 => by
    show ((0 : Int) : Rat) / ((1 : Int) : Rat) = 0
    decide +kernel
  | M + 1 => by
    have a := apN_pos C (show 1 ≤ M + 1 by omega)
    have d := c.den_pos
    have y0 : (0 : Int) < (c.den : Int) * apN c (M + 1) := Int.mul_pos (by omega) a
    have p0 := cv_pos C M
    have e1 : prY [cvP c (M + 1)] = (c.den : Int) * apN c (M + 1) := by show (c.den : Int) * apN c (M + 1) * 1 = _; omega
    have e2 : smA [cvP c (M + 1)] = ((phN (M + 1) : Nat) : Int) * lnA c (M + 1) := by
      show (((phN (M + 1) : Nat) : Int) * lnA c (M + 1)) * 1 + 0 * _ = _
      omega
    have ih := cv_sum C M
    have lq := len_q C (show 1 ≤ M + 1 by omega)
    rw [cvL_succ, smA_app, prY_app, e1, e2]
    show _ = covQ c M + (((phN (M + 1) : Nat) : Int) : Rat) * lenE c (M + 1)
    rw [← ih, ← lq]
    generalize (c.den : Int) * apN c (M + 1) = Y at *
    rw [Rat.intCast_add, Rat.intCast_mul, Rat.intCast_mul, Rat.intCast_mul, Rat.intCast_mul (prY _)]
    have yq := Rat.intCast_pos.2 y0
    have pq := Rat.intCast_pos.2 p0
    generalize (Y : Rat) = y at *
    generalize ((prY (cvL c M) : Int) : Rat) = p at *
    generalize ((smA (cvL c M) : Int) : Rat) = x at *
    generalize ((lnA c (M + 1) : Int) : Rat) = z at *
    generalize (((phN (M + 1) : Nat) : Int) : Rat) = u at *
    have yn : y ≠ 0 := by grind
    have pn : p ≠ 0 := by grind
    have i1 := Rat.mul_inv_cancel y yn
    have i2 := Rat.mul_inv_cancel p pn
    rw [Rat.div_def, Rat.div_def, Rat.div_def, Rat.inv_mul_rev]
    generalize y⁻¹ = yi at *
    generalize p⁻¹ = pi at *
    grind
theorem small_c {c : Rat} (C : Prt c) (zc : Sz 4 c) : 0 < c.num ∧ c.num < (c.den : Int) ∧ c.den < 16 := by
  obtain ⟨a, b⟩ := C.n
  have d : c.den < 2 ^ 4 := zc.d
  have z : c.num ≠ 0 := by
    have := (num_pos_iff c).2 C.c0
    omega
  have n0 := (num_pos_iff c).2 C.c0
  have n1 : c.num < (c.den : Int) := by
    have e := q_den c
    have h := Rat.mul_lt_mul_of_pos_right C.c1 (den_q c)
    rw [e, Rat.one_mul] at h
    exact Rat.intCast_lt_intCast.1 h
  exact ⟨n0, n1, d⟩
theorem lnA_B4 {c : Rat} (C : Prt c) (zc : Sz 4 c) {N : Nat} (h : N ≤ 13) : B 56 (lnA c N).natAbs := by
  obtain ⟨n0, n1, d⟩ := small_c C zc
  have b1 : B 4 ((c.den : Int) - c.num).natAbs := B.of (by omega)
  have b2 : B 48 (c.num ^ (N - 1)).natAbs := by
    rw [Int.natAbs_pow]
    have x : c.num.natAbs ^ (N - 1) ≤ 15 ^ (N - 1) := Nat.pow_le_pow_left (by omega) _
    have y : (15 : Nat) ^ (N - 1) ≤ 15 ^ 12 := Nat.pow_le_pow_right (by decide) (by omega)
    have z : (15 : Nat) ^ 12 < 2 ^ 48 := by decide
    unfold B
    omega
  exact (natAbs_mul_B (natAbs_mul_B b1 b1) b2).mono (by decide)
theorem apD_B {c : Rat} (C : Prt c) (zc : Sz 4 c) {N : Nat} (h1 : 1 ≤ N) (h : N ≤ 13) : B 57 ((c.den : Int) * apN c N).natAbs := by
  obtain ⟨n0, n1, d⟩ := small_c C zc
  have a := apN_pos C h1
  have x : 0 ≤ c.num ^ N := Int.pow_nonneg (by omega)
  have y : apN c N = (c.den : Int) ^ N - c.num ^ N := rfl
  have z : (((c.den ^ N : Nat)) : Int) = (c.den : Int) ^ N := by rw [Int.natCast_pow]
  have b2 : B 52 (apN c N).natAbs := by
    have x : c.den ^ N ≤ 15 ^ N := Nat.pow_le_pow_left (by omega) _
    have y : (15 : Nat) ^ N ≤ 15 ^ 13 := Nat.pow_le_pow_right (by decide) (by omega)
    have z : (15 : Nat) ^ 13 < 2 ^ 52 := by decide
    unfold B
    omega
  exact (natAbs_mul_B (show B 4 (c.den : Int).natAbs from B.of (by omega)) b2).mono (by decide)
theorem cv_B {c : Rat} (C : Prt c) (zc : Sz 4 c) {M : Nat} (h : M ≤ 13) : ∀ p ∈ cvL c M, B 60 p.1.natAbs ∧ B 60 p.2.natAbs := fun p hp => by
  unfold cvL at hp
  rw [List.mem_map] at hp
  obtain ⟨i, hi, rfl⟩ := hp
  have hi2 := List.mem_range.1 hi
  have g : phN (i + 1) ≤ i + 1 := cntG_le (i + 1) (i + 1)
  exact ⟨(natAbs_mul_B (show B 4 (((phN (i + 1) : Nat)) : Int).natAbs from B.of (by omega)) (lnA_B4 C zc (by omega))).mono (by decide), (apD_B C zc (by omega) (by omega)).mono (by decide)⟩
def s_lengths_of : DSp := fun ds n R => ∃ c : Rat, ∃ N : Nat, ds = [FV c, IV (N : Int)] ∧ Prt c ∧ Sz 4 c ∧ 1 ≤ N ∧ N ≤ 13 ∧ R (.dat (pD (cvP c N))) n
def s_covered : DSp := fun ds n R => ∃ c : Rat, ∃ N : Nat, ds = [FV c, IV (N : Int)] ∧ Prt c ∧ Sz 4 c ∧ 1 ≤ N ∧ N ≤ 13 ∧ R (FV (covQ c N)) n
/-- lengths_of. Slots: part, below, many, above, length -/
def t_lengths_of : DTS :=
  (dSeq (dAsg 2 (dCB oLen (dCons (dLcR2 3 (dCons (dC (.int 1)) (dCons (dOp oAdd (dVar 1) (dC (.int 1))) dNil)) (dTest (dOp oEq (dCB oGcd (dCons (dVar 3) (dCons (dVar 1) dNil))) (dC (.int 1)))) (dVar 3)) dNil)))
  (dSeq (dAsg 4 (dCall s_length_of (dCons (dVar 0) (dCons (dVar 1) dNil))))
  (dRet (dTup (dCons (dOp oMul (dVar 2) (dOp oIxT (dVar 4) (dC (.int 0)))) (dCons (dOp oIxT (dVar 4) (dC (.int 1))) dNil))))))
/-- covered. Slots: part, most, total, below -/
def t_covered : DTS :=
  (dSeq (dDrop (dCall s_need_part (dCons (dVar 0) dNil)))
  (dSeq (dDrop (dCall s_need_number (dCons (dVar 1) (dCons (dC (.int 1)) (dCons (dC (.int 300)) dNil)))))
  (dSeq (dAsg 2 (dCall s_total_of (dCons (dLcR2 3 (dCons (dC (.int 1)) (dCons (dOp oAdd (dVar 1) (dC (.int 1))) dNil)) dYes (dCall s_lengths_of (dCons (dVar 0) (dCons (dVar 3) dNil)))) dNil)))
  (dRet (dCall s_reduced (dCons (dOp oIxT (dVar 2) (dC (.int 0))) (dCons (dOp oIxT (dVar 2) (dC (.int 1))) dNil)))))))
theorem e_covered (c : Rat) (N : Nat) (n : Nat) (R : DV → Nat → Prop) : s_covered [FV c, IV (N : Int)] n R = (Prt c ∧ Sz 4 c ∧ 1 ≤ N ∧ N ≤ 13 ∧ R (FV (covQ c N)) n) := by
  refine propext ⟨?_, fun hh => ⟨c, N, rfl, hh⟩⟩
  rintro ⟨c', N', hh, rr⟩
  simp only [List.cons.injEq, DV.dat.injEq, PyData.tuple.injEq, PyData.int.injEq, PyData.list.injEq, fr_eq, natc_eq, and_true, true_and] at hh
  try simp only [hh]
  first | exact rr | (subst hh; exact rr)
theorem gcd_of (i : Nat) (N : Nat) : Nat.gcd ((1 : Int) + (i : Int)).natAbs ((N : Int)).natAbs = Nat.gcd (i + 1) N := by
  have e : ((1 : Int) + (i : Int)).natAbs = i + 1 := by omega
  rw [e, Int.natAbs_natCast]
theorem p_lengths_of (ds : List DV) (n : Nat) (R : DV → Nat → Prop) (hh : s_lengths_of ds n R) : Goal t_lengths_of 5 ds n R := by
  obtain ⟨c, N, rfl, C, zc, h1, h13, k⟩ := hh
  have e1 : ((N : Int) + 1 - 1).toNat = N := by omega
  have g := cntG_le N N
  unfold Goal t_lengths_of
  simp only [↓oOdd_ap, ↓oHalf_ap, ↓dAsg2_ap, ↓dTruL_ap, ↓dCatOwn_ap, ↓oRepT_ap, ↓dParDX_ap, ↓dVar_ap, ↓dC_ap, ↓dOp_ap, ↓dUn_ap, ↓dCB_ap, ↓dCall_ap, ↓dCallId_ap, ↓dNil_ap, ↓dCons_ap, ↓dTup_ap, ↓dLst_ap, ↓dTest_ap, ↓dNot_ap, ↓dAnd_ap, ↓dOr_ap, ↓dIf_ap, ↓dOrV_ap, ↓dNotV_ap, ↓dChain_ap, ↓dChain3_ap, ↓dTy_ap, ↓dIsi_ap, ↓dNoPart_ap, ↓dPart_ap, ↓dSliceL_ap, ↓dSliceA_ap, ↓dPeekT_ap, ↓dPeekI_ap, ↓dYes_ap, ↓dNext_ap, ↓dSeq_ap, ↓dRet_ap, ↓dRetN_ap, ↓dDrop_ap, ↓dAsg_ap, ↓dAsgOwn_ap, ↓dFreeze_ap, ↓dAppend_ap, ↓dUnp_ap, ↓unpF_ap, ↓unpT_ap, ↓dPar_ap, ↓dPar3_ap, ↓dParO2_ap, ↓dParO3_ap, ↓dParOD_ap, ↓dParDO_ap, ↓dBreak_ap, ↓dCont_ap, ↓oI_ap, ↓oI0_ap, ↓oNeg_ap, ↓oEq_ap, ↓oNe_ap, ↓oIxT_ap, ↓oIxL_ap, ↓oIx0_ap, ↓oIx1_ap, ↓oIsN_ap, ↓oNotN_ap, ↓oIsB_ap, ↓oNotB_ap, ↓oEqS_ap, ↓oCat_ap, ↓oCatA_ap, ↓oRepL_ap, ↓oLenT_ap, ↓oLenL_ap, ↓oAbs_ap, ↓oInt_ap, ↓oGcd_ap, ↓oListT_ap, ↓oListL_ap, ↓oTupT_ap, ↓oTupL_ap, ↓oMin_ap, ↓oSum_ap, ↓oMax_ap, ↓oMinL_ap, ↓oLcm4_ap, ↓allD_ap, ↓allD_nil, ↓setAll_ap, ↓setAll_nil, TV, LV, IV, BV, FV, atI_0, atI_1, atI_2, atI_3, List.map_cons, List.map_nil, List.length_cons, List.length_nil, List.set_cons_zero, List.set_cons_succ, List.getElem?_cons_zero, List.getElem?_cons_succ, List.cons_append, List.nil_append, Nat.reduceAdd, Nat.reduceSub, Nat.reduceLeDiff, List.replicate, Bool.false_eq_true, if_false, if_true, ite_true, ite_false, true_and, and_true, Bool.not_true, Bool.not_false, decide_true, decide_false, entry, isNone_fr, isNone_non, isNone_tup, isNone_list, isNone_int, isNone_bool, pId, pRev, pR3, pR4, pR5, ↓dCallK_ap, dLcR2]
  refine ⟨by omega, ⟨by omega, by omega, by omega, by omega⟩, fun i acc m => m = n ∧ acc.length = cntG N i, ⟨rfl, rfl⟩, fun i hi => ?_, fun acc m ha => ?_⟩
  · rintro acc m ⟨rfl, ha⟩
    simp only [↓oOdd_ap, ↓oHalf_ap, ↓dAsg2_ap, ↓dTruL_ap, ↓dCatOwn_ap, ↓oRepT_ap, ↓dParDX_ap, ↓dVar_ap, ↓dC_ap, ↓dOp_ap, ↓dUn_ap, ↓dCB_ap, ↓dCall_ap, ↓dCallId_ap, ↓dNil_ap, ↓dCons_ap, ↓dTup_ap, ↓dLst_ap, ↓dTest_ap, ↓dNot_ap, ↓dAnd_ap, ↓dOr_ap, ↓dIf_ap, ↓dOrV_ap, ↓dNotV_ap, ↓dChain_ap, ↓dChain3_ap, ↓dTy_ap, ↓dIsi_ap, ↓dNoPart_ap, ↓dPart_ap, ↓dSliceL_ap, ↓dSliceA_ap, ↓dPeekT_ap, ↓dPeekI_ap, ↓dYes_ap, ↓dNext_ap, ↓dSeq_ap, ↓dRet_ap, ↓dRetN_ap, ↓dDrop_ap, ↓dAsg_ap, ↓dAsgOwn_ap, ↓dFreeze_ap, ↓dAppend_ap, ↓dUnp_ap, ↓unpF_ap, ↓unpT_ap, ↓dPar_ap, ↓dPar3_ap, ↓dParO2_ap, ↓dParO3_ap, ↓dParOD_ap, ↓dParDO_ap, ↓dBreak_ap, ↓dCont_ap, ↓oI_ap, ↓oI0_ap, ↓oNeg_ap, ↓oEq_ap, ↓oNe_ap, ↓oIxT_ap, ↓oIxL_ap, ↓oIx0_ap, ↓oIx1_ap, ↓oIsN_ap, ↓oNotN_ap, ↓oIsB_ap, ↓oNotB_ap, ↓oEqS_ap, ↓oCat_ap, ↓oCatA_ap, ↓oRepL_ap, ↓oLenT_ap, ↓oLenL_ap, ↓oAbs_ap, ↓oInt_ap, ↓oGcd_ap, ↓oListT_ap, ↓oListL_ap, ↓oTupT_ap, ↓oTupL_ap, ↓oMin_ap, ↓oSum_ap, ↓oMax_ap, ↓oMinL_ap, ↓oLcm4_ap, ↓allD_ap, ↓allD_nil, ↓setAll_ap, ↓setAll_nil, TV, LV, IV, BV, FV, atI_0, atI_1, atI_2, atI_3, List.map_cons, List.map_nil, List.length_cons, List.length_nil, List.set_cons_zero, List.set_cons_succ, List.getElem?_cons_zero, List.getElem?_cons_succ, List.cons_append, List.nil_append, Nat.reduceAdd, Nat.reduceSub, Nat.reduceLeDiff, List.replicate, Bool.false_eq_true, if_false, if_true, ite_true, ite_false, true_and, and_true, Bool.not_true, Bool.not_false, decide_true, decide_false, entry, isNone_fr, isNone_non, isNone_tup, isNone_list, isNone_int, isNone_bool, pId, pRev, pR3, pR4, pR5, ↓dCallK_ap, gcd_of, shaped_int, eqv_int, beq_iff_eq]
    by_cases hg : Nat.gcd (i + 1) N = 1
    · rw [if_pos (by omega)]
      rw [List.length_append, ha]
      show _ = cntG N i + (if Nat.gcd (i + 1) N = 1 then 1 else 0)
      rw [if_pos hg]
      rfl
    · rw [if_neg (by omega)]
      rw [ha]
      show _ = cntG N i + (if Nat.gcd (i + 1) N = 1 then 1 else 0)
      rw [if_neg hg]
      rfl
  · obtain ⟨rfl, ha⟩ := ha
    rw [e1] at ha
    simp only [↓oOdd_ap, ↓oHalf_ap, ↓dAsg2_ap, ↓dTruL_ap, ↓dCatOwn_ap, ↓oRepT_ap, ↓dParDX_ap, ↓dVar_ap, ↓dC_ap, ↓dOp_ap, ↓dUn_ap, ↓dCB_ap, ↓dCall_ap, ↓dCallId_ap, ↓dNil_ap, ↓dCons_ap, ↓dTup_ap, ↓dLst_ap, ↓dTest_ap, ↓dNot_ap, ↓dAnd_ap, ↓dOr_ap, ↓dIf_ap, ↓dOrV_ap, ↓dNotV_ap, ↓dChain_ap, ↓dChain3_ap, ↓dTy_ap, ↓dIsi_ap, ↓dNoPart_ap, ↓dPart_ap, ↓dSliceL_ap, ↓dSliceA_ap, ↓dPeekT_ap, ↓dPeekI_ap, ↓dYes_ap, ↓dNext_ap, ↓dSeq_ap, ↓dRet_ap, ↓dRetN_ap, ↓dDrop_ap, ↓dAsg_ap, ↓dAsgOwn_ap, ↓dFreeze_ap, ↓dAppend_ap, ↓dUnp_ap, ↓unpF_ap, ↓unpT_ap, ↓dPar_ap, ↓dPar3_ap, ↓dParO2_ap, ↓dParO3_ap, ↓dParOD_ap, ↓dParDO_ap, ↓dBreak_ap, ↓dCont_ap, ↓oI_ap, ↓oI0_ap, ↓oNeg_ap, ↓oEq_ap, ↓oNe_ap, ↓oIxT_ap, ↓oIxL_ap, ↓oIx0_ap, ↓oIx1_ap, ↓oIsN_ap, ↓oNotN_ap, ↓oIsB_ap, ↓oNotB_ap, ↓oEqS_ap, ↓oCat_ap, ↓oCatA_ap, ↓oRepL_ap, ↓oLenT_ap, ↓oLenL_ap, ↓oAbs_ap, ↓oInt_ap, ↓oGcd_ap, ↓oListT_ap, ↓oListL_ap, ↓oTupT_ap, ↓oTupL_ap, ↓oMin_ap, ↓oSum_ap, ↓oMax_ap, ↓oMinL_ap, ↓oLcm4_ap, ↓allD_ap, ↓allD_nil, ↓setAll_ap, ↓setAll_nil, TV, LV, IV, BV, FV, atI_0, atI_1, atI_2, atI_3, List.map_cons, List.map_nil, List.length_cons, List.length_nil, List.set_cons_zero, List.set_cons_succ, List.getElem?_cons_zero, List.getElem?_cons_succ, List.cons_append, List.nil_append, Nat.reduceAdd, Nat.reduceSub, Nat.reduceLeDiff, List.replicate, Bool.false_eq_true, if_false, if_true, ite_true, ite_false, true_and, and_true, Bool.not_true, Bool.not_false, decide_true, decide_false, entry, isNone_fr, isNone_non, isNone_tup, isNone_list, isNone_int, isNone_bool, pId, pRev, pR3, pR4, pR5, ↓dCallK_ap, ha]
    refine ⟨c, N, rfl, C, h1, by omega, ?_⟩
    simp only [↓oOdd_ap, ↓oHalf_ap, ↓dAsg2_ap, ↓dTruL_ap, ↓dCatOwn_ap, ↓oRepT_ap, ↓dParDX_ap, ↓dVar_ap, ↓dC_ap, ↓dOp_ap, ↓dUn_ap, ↓dCB_ap, ↓dCall_ap, ↓dCallId_ap, ↓dNil_ap, ↓dCons_ap, ↓dTup_ap, ↓dLst_ap, ↓dTest_ap, ↓dNot_ap, ↓dAnd_ap, ↓dOr_ap, ↓dIf_ap, ↓dOrV_ap, ↓dNotV_ap, ↓dChain_ap, ↓dChain3_ap, ↓dTy_ap, ↓dIsi_ap, ↓dNoPart_ap, ↓dPart_ap, ↓dSliceL_ap, ↓dSliceA_ap, ↓dPeekT_ap, ↓dPeekI_ap, ↓dYes_ap, ↓dNext_ap, ↓dSeq_ap, ↓dRet_ap, ↓dRetN_ap, ↓dDrop_ap, ↓dAsg_ap, ↓dAsgOwn_ap, ↓dFreeze_ap, ↓dAppend_ap, ↓dUnp_ap, ↓unpF_ap, ↓unpT_ap, ↓dPar_ap, ↓dPar3_ap, ↓dParO2_ap, ↓dParO3_ap, ↓dParOD_ap, ↓dParDO_ap, ↓dBreak_ap, ↓dCont_ap, ↓oI_ap, ↓oI0_ap, ↓oNeg_ap, ↓oEq_ap, ↓oNe_ap, ↓oIxT_ap, ↓oIxL_ap, ↓oIx0_ap, ↓oIx1_ap, ↓oIsN_ap, ↓oNotN_ap, ↓oIsB_ap, ↓oNotB_ap, ↓oEqS_ap, ↓oCat_ap, ↓oCatA_ap, ↓oRepL_ap, ↓oLenT_ap, ↓oLenL_ap, ↓oAbs_ap, ↓oInt_ap, ↓oGcd_ap, ↓oListT_ap, ↓oListL_ap, ↓oTupT_ap, ↓oTupL_ap, ↓oMin_ap, ↓oSum_ap, ↓oMax_ap, ↓oMinL_ap, ↓oLcm4_ap, ↓allD_ap, ↓allD_nil, ↓setAll_ap, ↓setAll_nil, TV, LV, IV, BV, FV, atI_0, atI_1, atI_2, atI_3, List.map_cons, List.map_nil, List.length_cons, List.length_nil, List.set_cons_zero, List.set_cons_succ, List.getElem?_cons_zero, List.getElem?_cons_succ, List.cons_append, List.nil_append, Nat.reduceAdd, Nat.reduceSub, Nat.reduceLeDiff, List.replicate, Bool.false_eq_true, if_false, if_true, ite_true, ite_false, true_and, and_true, Bool.not_true, Bool.not_false, decide_true, decide_false, entry, isNone_fr, isNone_non, isNone_tup, isNone_list, isNone_int, isNone_bool, pId, pRev, pR3, pR4, pR5, ↓dCallK_ap]
    exact ⟨mulB (show B 4 (((cntG N N : Nat)) : Int).natAbs from B.of (by omega)) (lnA_B4 C zc h13) (by decide), k⟩
theorem p_covered (ds : List DV) (n : Nat) (R : DV → Nat → Prop) (hh : s_covered ds n R) : Goal t_covered 4 ds n R := by
  obtain ⟨c, N, rfl, C, zc, h1, h13, k⟩ := hh
  have e1 : ((N : Int) + 1 - 1).toNat = N := by omega
  have pp := cv_pos C N
  have hB := cv_B C zc h13
  have z1 := smA_Bk hB (by rw [cvL_len]; omega)
  have z2 := prY_Bk hB (by rw [cvL_len]; omega)
  unfold Goal t_covered
  simp only [↓oOdd_ap, ↓oHalf_ap, ↓dAsg2_ap, ↓dTruL_ap, ↓dCatOwn_ap, ↓oRepT_ap, ↓dParDX_ap, ↓dVar_ap, ↓dC_ap, ↓dOp_ap, ↓dUn_ap, ↓dCB_ap, ↓dCall_ap, ↓dCallId_ap, ↓dNil_ap, ↓dCons_ap, ↓dTup_ap, ↓dLst_ap, ↓dTest_ap, ↓dNot_ap, ↓dAnd_ap, ↓dOr_ap, ↓dIf_ap, ↓dOrV_ap, ↓dNotV_ap, ↓dChain_ap, ↓dChain3_ap, ↓dTy_ap, ↓dIsi_ap, ↓dNoPart_ap, ↓dPart_ap, ↓dSliceL_ap, ↓dSliceA_ap, ↓dPeekT_ap, ↓dPeekI_ap, ↓dYes_ap, ↓dNext_ap, ↓dSeq_ap, ↓dRet_ap, ↓dRetN_ap, ↓dDrop_ap, ↓dAsg_ap, ↓dAsgOwn_ap, ↓dFreeze_ap, ↓dAppend_ap, ↓dUnp_ap, ↓unpF_ap, ↓unpT_ap, ↓dPar_ap, ↓dPar3_ap, ↓dParO2_ap, ↓dParO3_ap, ↓dParOD_ap, ↓dParDO_ap, ↓dBreak_ap, ↓dCont_ap, ↓oI_ap, ↓oI0_ap, ↓oNeg_ap, ↓oEq_ap, ↓oNe_ap, ↓oIxT_ap, ↓oIxL_ap, ↓oIx0_ap, ↓oIx1_ap, ↓oIsN_ap, ↓oNotN_ap, ↓oIsB_ap, ↓oNotB_ap, ↓oEqS_ap, ↓oCat_ap, ↓oCatA_ap, ↓oRepL_ap, ↓oLenT_ap, ↓oLenL_ap, ↓oAbs_ap, ↓oInt_ap, ↓oGcd_ap, ↓oListT_ap, ↓oListL_ap, ↓oTupT_ap, ↓oTupL_ap, ↓oMin_ap, ↓oSum_ap, ↓oMax_ap, ↓oMinL_ap, ↓oLcm4_ap, ↓allD_ap, ↓allD_nil, ↓setAll_ap, ↓setAll_nil, TV, LV, IV, BV, FV, atI_0, atI_1, atI_2, atI_3, List.map_cons, List.map_nil, List.length_cons, List.length_nil, List.set_cons_zero, List.set_cons_succ, List.getElem?_cons_zero, List.getElem?_cons_succ, List.cons_append, List.nil_append, Nat.reduceAdd, Nat.reduceSub, Nat.reduceLeDiff, List.replicate, Bool.false_eq_true, if_false, if_true, ite_true, ite_false, true_and, and_true, Bool.not_true, Bool.not_false, decide_true, decide_false, entry, isNone_fr, isNone_non, isNone_tup, isNone_list, isNone_int, isNone_bool, pId, pRev, pR3, pR4, pR5, ↓dCallK_ap, ↓e_need_part]
  refine ⟨C.b, C.c0, C.c1, C.cd, ?_⟩
  refine ⟨(N : Int), 1, 300, rfl, by omega, by omega, ?_⟩
  simp only [↓oOdd_ap, ↓oHalf_ap, ↓dAsg2_ap, ↓dTruL_ap, ↓dCatOwn_ap, ↓oRepT_ap, ↓dParDX_ap, ↓dVar_ap, ↓dC_ap, ↓dOp_ap, ↓dUn_ap, ↓dCB_ap, ↓dCall_ap, ↓dCallId_ap, ↓dNil_ap, ↓dCons_ap, ↓dTup_ap, ↓dLst_ap, ↓dTest_ap, ↓dNot_ap, ↓dAnd_ap, ↓dOr_ap, ↓dIf_ap, ↓dOrV_ap, ↓dNotV_ap, ↓dChain_ap, ↓dChain3_ap, ↓dTy_ap, ↓dIsi_ap, ↓dNoPart_ap, ↓dPart_ap, ↓dSliceL_ap, ↓dSliceA_ap, ↓dPeekT_ap, ↓dPeekI_ap, ↓dYes_ap, ↓dNext_ap, ↓dSeq_ap, ↓dRet_ap, ↓dRetN_ap, ↓dDrop_ap, ↓dAsg_ap, ↓dAsgOwn_ap, ↓dFreeze_ap, ↓dAppend_ap, ↓dUnp_ap, ↓unpF_ap, ↓unpT_ap, ↓dPar_ap, ↓dPar3_ap, ↓dParO2_ap, ↓dParO3_ap, ↓dParOD_ap, ↓dParDO_ap, ↓dBreak_ap, ↓dCont_ap, ↓oI_ap, ↓oI0_ap, ↓oNeg_ap, ↓oEq_ap, ↓oNe_ap, ↓oIxT_ap, ↓oIxL_ap, ↓oIx0_ap, ↓oIx1_ap, ↓oIsN_ap, ↓oNotN_ap, ↓oIsB_ap, ↓oNotB_ap, ↓oEqS_ap, ↓oCat_ap, ↓oCatA_ap, ↓oRepL_ap, ↓oLenT_ap, ↓oLenL_ap, ↓oAbs_ap, ↓oInt_ap, ↓oGcd_ap, ↓oListT_ap, ↓oListL_ap, ↓oTupT_ap, ↓oTupL_ap, ↓oMin_ap, ↓oSum_ap, ↓oMax_ap, ↓oMinL_ap, ↓oLcm4_ap, ↓allD_ap, ↓allD_nil, ↓setAll_ap, ↓setAll_nil, TV, LV, IV, BV, FV, atI_0, atI_1, atI_2, atI_3, List.map_cons, List.map_nil, List.length_cons, List.length_nil, List.set_cons_zero, List.set_cons_succ, List.getElem?_cons_zero, List.getElem?_cons_succ, List.cons_append, List.nil_append, Nat.reduceAdd, Nat.reduceSub, Nat.reduceLeDiff, List.replicate, Bool.false_eq_true, if_false, if_true, ite_true, ite_false, true_and, and_true, Bool.not_true, Bool.not_false, decide_true, decide_false, entry, isNone_fr, isNone_non, isNone_tup, isNone_list, isNone_int, isNone_bool, pId, pRev, pR3, pR4, pR5, ↓dCallK_ap, dLcR2]
  refine ⟨by omega, ⟨by omega, by omega, by omega, by omega⟩, fun i acc m => m = n ∧ acc = (cvL c i).map pD, ⟨rfl, rfl⟩, fun i hi => ?_, fun acc m ha => ?_⟩
  · rintro acc m ⟨rfl, rfl⟩
    have e2 : (1 : Int) + (i : Int) = ((i + 1 : Nat) : Int) := by omega
    simp only [↓oOdd_ap, ↓oHalf_ap, ↓dAsg2_ap, ↓dTruL_ap, ↓dCatOwn_ap, ↓oRepT_ap, ↓dParDX_ap, ↓dVar_ap, ↓dC_ap, ↓dOp_ap, ↓dUn_ap, ↓dCB_ap, ↓dCall_ap, ↓dCallId_ap, ↓dNil_ap, ↓dCons_ap, ↓dTup_ap, ↓dLst_ap, ↓dTest_ap, ↓dNot_ap, ↓dAnd_ap, ↓dOr_ap, ↓dIf_ap, ↓dOrV_ap, ↓dNotV_ap, ↓dChain_ap, ↓dChain3_ap, ↓dTy_ap, ↓dIsi_ap, ↓dNoPart_ap, ↓dPart_ap, ↓dSliceL_ap, ↓dSliceA_ap, ↓dPeekT_ap, ↓dPeekI_ap, ↓dYes_ap, ↓dNext_ap, ↓dSeq_ap, ↓dRet_ap, ↓dRetN_ap, ↓dDrop_ap, ↓dAsg_ap, ↓dAsgOwn_ap, ↓dFreeze_ap, ↓dAppend_ap, ↓dUnp_ap, ↓unpF_ap, ↓unpT_ap, ↓dPar_ap, ↓dPar3_ap, ↓dParO2_ap, ↓dParO3_ap, ↓dParOD_ap, ↓dParDO_ap, ↓dBreak_ap, ↓dCont_ap, ↓oI_ap, ↓oI0_ap, ↓oNeg_ap, ↓oEq_ap, ↓oNe_ap, ↓oIxT_ap, ↓oIxL_ap, ↓oIx0_ap, ↓oIx1_ap, ↓oIsN_ap, ↓oNotN_ap, ↓oIsB_ap, ↓oNotB_ap, ↓oEqS_ap, ↓oCat_ap, ↓oCatA_ap, ↓oRepL_ap, ↓oLenT_ap, ↓oLenL_ap, ↓oAbs_ap, ↓oInt_ap, ↓oGcd_ap, ↓oListT_ap, ↓oListL_ap, ↓oTupT_ap, ↓oTupL_ap, ↓oMin_ap, ↓oSum_ap, ↓oMax_ap, ↓oMinL_ap, ↓oLcm4_ap, ↓allD_ap, ↓allD_nil, ↓setAll_ap, ↓setAll_nil, TV, LV, IV, BV, FV, atI_0, atI_1, atI_2, atI_3, List.map_cons, List.map_nil, List.length_cons, List.length_nil, List.set_cons_zero, List.set_cons_succ, List.getElem?_cons_zero, List.getElem?_cons_succ, List.cons_append, List.nil_append, Nat.reduceAdd, Nat.reduceSub, Nat.reduceLeDiff, List.replicate, Bool.false_eq_true, if_false, if_true, ite_true, ite_false, true_and, and_true, Bool.not_true, Bool.not_false, decide_true, decide_false, entry, isNone_fr, isNone_non, isNone_tup, isNone_list, isNone_int, isNone_bool, pId, pRev, pR3, pR4, pR5, ↓dCallK_ap, e2]
    refine ⟨c, i + 1, rfl, C, zc, by omega, by omega, rfl, ?_⟩
    rw [cvL_succ, List.map_append]
    rfl
  · obtain ⟨rfl, rfl⟩ := ha
    rw [e1]
    refine e_total_of _ _ _ (by rw [cvL_len]; omega) hB ?_
    simp only [↓oOdd_ap, ↓oHalf_ap, ↓dAsg2_ap, ↓dTruL_ap, ↓dCatOwn_ap, ↓oRepT_ap, ↓dParDX_ap, ↓dVar_ap, ↓dC_ap, ↓dOp_ap, ↓dUn_ap, ↓dCB_ap, ↓dCall_ap, ↓dCallId_ap, ↓dNil_ap, ↓dCons_ap, ↓dTup_ap, ↓dLst_ap, ↓dTest_ap, ↓dNot_ap, ↓dAnd_ap, ↓dOr_ap, ↓dIf_ap, ↓dOrV_ap, ↓dNotV_ap, ↓dChain_ap, ↓dChain3_ap, ↓dTy_ap, ↓dIsi_ap, ↓dNoPart_ap, ↓dPart_ap, ↓dSliceL_ap, ↓dSliceA_ap, ↓dPeekT_ap, ↓dPeekI_ap, ↓dYes_ap, ↓dNext_ap, ↓dSeq_ap, ↓dRet_ap, ↓dRetN_ap, ↓dDrop_ap, ↓dAsg_ap, ↓dAsgOwn_ap, ↓dFreeze_ap, ↓dAppend_ap, ↓dUnp_ap, ↓unpF_ap, ↓unpT_ap, ↓dPar_ap, ↓dPar3_ap, ↓dParO2_ap, ↓dParO3_ap, ↓dParOD_ap, ↓dParDO_ap, ↓dBreak_ap, ↓dCont_ap, ↓oI_ap, ↓oI0_ap, ↓oNeg_ap, ↓oEq_ap, ↓oNe_ap, ↓oIxT_ap, ↓oIxL_ap, ↓oIx0_ap, ↓oIx1_ap, ↓oIsN_ap, ↓oNotN_ap, ↓oIsB_ap, ↓oNotB_ap, ↓oEqS_ap, ↓oCat_ap, ↓oCatA_ap, ↓oRepL_ap, ↓oLenT_ap, ↓oLenL_ap, ↓oAbs_ap, ↓oInt_ap, ↓oGcd_ap, ↓oListT_ap, ↓oListL_ap, ↓oTupT_ap, ↓oTupL_ap, ↓oMin_ap, ↓oSum_ap, ↓oMax_ap, ↓oMinL_ap, ↓oLcm4_ap, ↓allD_ap, ↓allD_nil, ↓setAll_ap, ↓setAll_nil, TV, LV, IV, BV, FV, atI_0, atI_1, atI_2, atI_3, List.map_cons, List.map_nil, List.length_cons, List.length_nil, List.set_cons_zero, List.set_cons_succ, List.getElem?_cons_zero, List.getElem?_cons_succ, List.cons_append, List.nil_append, Nat.reduceAdd, Nat.reduceSub, Nat.reduceLeDiff, List.replicate, Bool.false_eq_true, if_false, if_true, ite_true, ite_false, true_and, and_true, Bool.not_true, Bool.not_false, decide_true, decide_false, entry, isNone_fr, isNone_non, isNone_tup, isNone_list, isNone_int, isNone_bool, pId, pRev, pR3, pR4, pR5, ↓dCallK_ap, ↓e_reduced]
    refine ⟨pp, z1.mono (by decide), z2.mono (by decide), ?_⟩
    rw [cv_sum C]
    exact k

/-- what the drawn parts and numbers need -/
def covOk (c : Rat) (M : Nat) : Bool := decide (covQ c M < 1) && !decide (pwQ c M / 1 * ((((M : Int) + 1 : Int) : Rat) + c / (1 - c)) < 1 - covQ c M)
theorem cov_table : ∀ b : Nat, b < 9 → ∀ a : Nat, a < b → ∀ M : Nat, M < 12 → a = 0 ∨ M = 0 ∨ covOk (((a : Int) : Rat) / ((b : Int) : Rat)) M = true := by decide +kernel
theorem next_table : ∀ M : Nat, M < 12 → 0 < M → ((((M : Int) + 1 : Int) : Rat) / ((M : Int) : Rat)).num = (M : Int) + 1 ∧ ((((M : Int) + 1 : Int) : Rat) / ((M : Int) : Rat)).den = M := by decide +kernel
structure Cd (c : Rat) : Prop where
  C : Prt c
  zc : Sz 4 c
  d8 : (c.den : Int) ≤ 8
theorem Cd.ab {c : Rat} (h : Cd c) : ∃ a b : Nat, c = ((a : Int) : Rat) / ((b : Int) : Rat) ∧ b < 9 ∧ a < b ∧ 0 < a := by
  obtain ⟨n0, n1, _⟩ := small_c h.C h.zc
  have d := h.d8
  refine ⟨c.num.toNat, c.den, ?_, by omega, by omega, by omega⟩
  have e : ((c.num.toNat : Nat) : Int) = c.num := by omega
  rw [e]
  exact as_div c
/-- one divisor for the first lengths -/
def dnP (c : Rat) : Nat → Nat
  | 0 => 1
  | N + 1 => dnP c N * (c.den * (apN c (N + 1)).toNat)
theorem dnP_pos {c : Rat} (C : Prt c) : ∀ N, 0 < dnP c N
  | 0 => Nat.one_pos
  | N + 1 => by
    have a := apN_pos C (show 1 ≤ N + 1 by omega)
    exact Nat.mul_pos (dnP_pos C N) (Nat.mul_pos c.den_pos (by omega))
theorem dnP_B {c : Rat} (C : Prt c) (zc : Sz 4 c) : ∀ N, N ≤ 13 → B (57 * N + 1) (dnP c N)
  | 0, _ => by show 1 < 2 ^ (57 * 0 + 1); decide
  | N + 1, h => by
    have a := apN_pos C (show 1 ≤ N + 1 by omega)
    have b := apD_B C zc (show 1 ≤ N + 1 by omega) h
    have e : ((c.den * (apN c (N + 1)).toNat : Nat)) = ((c.den : Int) * apN c (N + 1)).natAbs := by
      rw [Int.natAbs_mul, Int.natAbs_natCast]
      congr 1
      omega
    have b' : B 57 (c.den * (apN c (N + 1)).toNat) := by rw [e]; exact b
    exact ((dnP_B C zc N (by omega)).mul b').mono (by omega)
theorem lenE_De {c : Rat} (C : Prt c) (zc : Sz 4 c) {N : Nat} (h1 : 1 ≤ N) (h : N ≤ 13) : De (c.den * (apN c N).toNat) (2 ^ 56) (lenE c N) := by
  have a := apN_pos C h1
  have d := c.den_pos
  have b := lnA_B4 C zc h
  have e : (((c.den * (apN c N).toNat : Nat)) : Int) = (c.den : Int) * apN c N := by
    rw [Int.natCast_mul]
    congr 1
    omega
  have p : 0 < c.den * (apN c N).toNat := Nat.mul_pos d (by omega)
  refine ⟨p, lnA c N, ?_, ?_⟩
  · rw [e]
    exact (len_q C h1).symm
  · have b2 : (lnA c N).natAbs < 2 ^ 56 := b
    have := Nat.le_mul_of_pos_right (2 ^ 56) p
    omega
theorem cov_part {c : Rat} (C : Prt c) (zc : Sz 4 c) : ∀ (N j : Nat), N + 1 ≤ 13 → j ≤ 13 → De (dnP c (N + 1)) ((N + 1) * (13 * 2 ^ 56)) (covQ c N + ((j : Int) : Rat) * lenE c (N + 1)) := by
  have cov : ∀ N, N ≤ 13 → De (dnP c N) (N * (13 * 2 ^ 56)) (covQ c N) := by
    intro N
    induction N with
    | zero =>
      intro _
      refine ⟨Nat.one_pos, 0, ?_, Nat.zero_le _⟩
      show (0 : Rat) = ((0 : Int) : Rat) / _
      have : ((0 : Int) : Rat) = 0 := rfl
      rw [this]
      grind
    | succ N ih =>
      intro hN
      have g : phN (N + 1) ≤ N + 1 := cntG_le (N + 1) (N + 1)
      have x := (De.int (((phN (N + 1) : Nat)) : Int) 13 (by omega)).mul (lenE_De C zc (show 1 ≤ N + 1 by omega) hN)
      rw [Nat.one_mul] at x
      have y := x.dvd (E := dnP c (N + 1)) (dnP c N) (by show dnP c N * _ = _; rw [Nat.mul_comm]) (dnP_pos C _)
      have z := (ih (by omega)).dvd (E := dnP c (N + 1)) (c.den * (apN c (N + 1)).toNat) rfl (dnP_pos C _)
      exact (z.add y).mono (by omega)
  intro N j hN hj
  have x := (De.int (j : Int) 13 (by omega)).mul (lenE_De C zc (show 1 ≤ N + 1 by omega) hN)
  rw [Nat.one_mul] at x
  have y := x.dvd (E := dnP c (N + 1)) (dnP c N) (by show dnP c N * _ = _; rw [Nat.mul_comm]) (dnP_pos C _)
  have z := (cov N (by omega)).dvd (E := dnP c (N + 1)) (c.den * (apN c (N + 1)).toNat) rfl (dnP_pos C _)
  exact (z.add y).mono (by omega)
theorem cov_sz {c : Rat} (C : Prt c) (zc : Sz 4 c) {N j : Nat} (hN : N + 1 ≤ 13) (hj : j ≤ 13) : Sz 820 (covQ c N + ((j : Int) : Rat) * lenE c (N + 1)) := by
  have m : (N + 1) * (13 * 2 ^ 56) ≤ 13 * (13 * 2 ^ 56) := Nat.mul_le_mul_right _ hN
  exact (((cov_part C zc N j hN hj).mono m).sz (a := 64) (B.of (by decide)) ((dnP_B C zc (N + 1) hN).mono (show _ ≤ 742 by omega))).mono (by decide)
theorem cov_sz0 {c : Rat} (C : Prt c) (zc : Sz 4 c) {N : Nat} (hN : N ≤ 13) : Sz 820 (covQ c N) := by
  cases N with
  | zero =>
    show Sz 820 (0 : Rat)
    exact ⟨(B.mono (k := 1) (B.of (by decide +kernel)) (by decide)), (B.mono (k := 1) (B.of (by decide +kernel)) (by decide))⟩
  | succ N =>
    have g : phN (N + 1) ≤ N + 1 := cntG_le (N + 1) (N + 1)
    exact cov_sz C zc (N := N) (j := phN (N + 1)) hN (by omega)
theorem lenE_sz13 {c : Rat} (C : Prt c) (zc : Sz 4 c) {N : Nat} (h1 : 1 ≤ N) (h : N ≤ 13) : Sz 120 (lenE c N) := by
  have a := apN_pos C h1
  have b := apD_B C zc h1 h
  have e : ((c.den * (apN c N).toNat : Nat)) = ((c.den : Int) * apN c N).natAbs := by
    rw [Int.natAbs_mul, Int.natAbs_natCast]
    congr 1
    omega
  have b' : B 57 (c.den * (apN c N).toNat) := by rw [e]; exact b
  exact ((lenE_De C zc h1 h).sz (a := 57) (B.of (by decide)) b').mono (by decide)
def s__law_wide : DSp := fun ds n R => ∃ c : Rat, ∃ N : Nat, ds = [FV c, IV (N : Int)] ∧ Cd c ∧ 1 ≤ N ∧ N ≤ 13 ∧ R (FV (lenE c N)) n
def s__law_together : DSp := fun ds n R => ∃ c : Rat, ∃ N : Nat, ds = [FV c, IV (N : Int)] ∧ Cd c ∧ N ≤ 11 ∧ R (FV (covQ c N)) n
def s__law_right : DSp := fun ds n R => ∃ c : Rat, ∃ N : Nat, ds = [FV c, IV (N : Int)] ∧ Cd c ∧ 1 ≤ N ∧ N ≤ 11 ∧ R (BV true) n
/-- _law_wide. Slots: cut_so, below, left, power_v -/
def t__law_wide : DTS :=
  (dSeq (dAsg 2 (dCall s__law_minus (dCons (dTup (dCons (dC (.int 1)) (dCons (dC (.int 1)) dNil))) (dCons (dVar 0) dNil))))
  (dSeq (dAsg 3 (dCall s__law_power (dCons (dVar 0) (dCons (dOp oSub (dVar 1) (dC (.int 1))) dNil))))
  (dRet (dCall s__law_over (dCons (dCall s__law_times (dCons (dCall s__law_times (dCons (dVar 2) (dCons (dVar 2) dNil))) (dCons (dVar 3) dNil))) (dCons (dCall s__law_minus (dCons (dTup (dCons (dC (.int 1)) (dCons (dC (.int 1)) dNil))) (dCons (dCall s__law_times (dCons (dVar 3) (dCons (dVar 0) dNil))) dNil))) dNil))))))
def t__law_together_b1 : DTS :=
  (dIfS (dTest (dOp oEq (dCall s__law_divisor (dCons (dVar 4) (dCons (dVar 3) dNil))) (dC (.int 1)))) (dAsg 2 (dCall s__law_plus (dCons (dVar 2) (dCons (dCall s__law_wide (dCons (dVar 0) (dCons (dVar 3) dNil))) dNil)))) dNext)
def t__law_together_b2 : DTS :=
  (dForR2 4 (dCons (dOp oAdd (dVar 3) (dC (.int 1))) (dCons (dOp oAdd (dOp oMul (dC (.int 2)) (dVar 3)) (dC (.int 1))) dNil)) t__law_together_b1)
/-- _law_together. Slots: cut_so, most_so, found, below, above -/
def t__law_together : DTS :=
  (dSeq (dAsg 2 (dTup (dCons (dC (.int 0)) (dCons (dC (.int 1)) dNil))))
  (dSeq (dForR2 3 (dCons (dC (.int 1)) (dCons (dOp oAdd (dVar 1) (dC (.int 1))) dNil)) t__law_together_b2)
  (dRet (dVar 2))))
/-- _law_right. Slots: cut_so, most_so, told, ends_so, left, first, room -/
def t__law_right : DTS :=
  (dSeq (dAsg 2 (dCall s_covered (dCons (dVar 0) (dCons (dVar 1) dNil))))
  (dSeq (dIfS (dOr (dNot (dTest (dCall s__law_like (dCons (dVar 2) (dCons (dCall s__law_together (dCons (dVar 0) (dCons (dVar 1) dNil))) dNil))))) (dNot (dTest (dCall s__law_below (dCons (dVar 2) (dCons (dTup (dCons (dC (.int 1)) (dCons (dC (.int 1)) dNil))) dNil)))))) (dRet (dC (.bool false))) dNext)
  (dSeq (dAsg 3 (dCall s__law_ends (dCons (dVar 0) (dCons (dTup (dCons (dOp oAdd (dVar 1) (dC (.int 1))) (dCons (dVar 1) dNil))) dNil))))
  (dSeq (dIfS (dNot (dTest (dCall s__law_like (dCons (dCall s__law_minus (dCons (dOp oIxT (dVar 3) (dC (.int 1))) (dCons (dOp oIxT (dVar 3) (dC (.int 0))) dNil))) (dCons (dCall s__law_wide (dCons (dVar 0) (dCons (dVar 1) dNil))) dNil))))) (dRet (dC (.bool false))) dNext)
  (dSeq (dAsg 4 (dCall s__law_minus (dCons (dTup (dCons (dC (.int 1)) (dCons (dC (.int 1)) dNil))) (dCons (dVar 0) dNil))))
  (dSeq (dAsg 5 (dCall s__law_over (dCons (dCall s__law_power (dCons (dVar 0) (dCons (dVar 1) dNil))) (dCons (dTup (dCons (dC (.int 1)) (dCons (dC (.int 1)) dNil))) dNil))))
  (dSeq (dAsg 6 (dCall s__law_times (dCons (dVar 5) (dCons (dCall s__law_plus (dCons (dTup (dCons (dOp oAdd (dVar 1) (dC (.int 1))) (dCons (dC (.int 1)) dNil))) (dCons (dCall s__law_over (dCons (dVar 0) (dCons (dVar 4) dNil))) dNil))) dNil))))
  (dRet (dNotV (dCall s__law_below (dCons (dVar 6) (dCons (dCall s__law_minus (dCons (dTup (dCons (dC (.int 1)) (dCons (dC (.int 1)) dNil))) (dCons (dVar 2) dNil))) dNil))))))))))))
theorem e__law_wide (c : Rat) (N : Nat) (n : Nat) (R : DV → Nat → Prop) : s__law_wide [FV c, IV (N : Int)] n R = (Cd c ∧ 1 ≤ N ∧ N ≤ 13 ∧ R (FV (lenE c N)) n) := by
  refine propext ⟨?_, fun hh => ⟨c, N, rfl, hh⟩⟩
  rintro ⟨c', N', hh, rr⟩
  simp only [List.cons.injEq, DV.dat.injEq, PyData.tuple.injEq, PyData.int.injEq, PyData.list.injEq, fr_eq, natc_eq, and_true, true_and] at hh
  try simp only [hh]
  first | exact rr | (subst hh; exact rr)
theorem e__law_together (c : Rat) (N : Nat) (n : Nat) (R : DV → Nat → Prop) : s__law_together [FV c, IV (N : Int)] n R = (Cd c ∧ N ≤ 11 ∧ R (FV (covQ c N)) n) := by
  refine propext ⟨?_, fun hh => ⟨c, N, rfl, hh⟩⟩
  rintro ⟨c', N', hh, rr⟩
  simp only [List.cons.injEq, DV.dat.injEq, PyData.tuple.injEq, PyData.int.injEq, PyData.list.injEq, fr_eq, natc_eq, and_true, true_and] at hh
  try simp only [hh]
  first | exact rr | (subst hh; exact rr)
theorem e__law_right (c : Rat) (N : Nat) (n : Nat) (R : DV → Nat → Prop) : s__law_right [FV c, IV (N : Int)] n R = (Cd c ∧ 1 ≤ N ∧ N ≤ 11 ∧ R (BV true) n) := by
  refine propext ⟨?_, fun hh => ⟨c, N, rfl, hh⟩⟩
  rintro ⟨c', N', hh, rr⟩
  simp only [List.cons.injEq, DV.dat.injEq, PyData.tuple.injEq, PyData.int.injEq, PyData.list.injEq, fr_eq, natc_eq, and_true, true_and] at hh
  try simp only [hh]
  first | exact rr | (subst hh; exact rr)
theorem p__law_wide (ds : List DV) (n : Nat) (R : DV → Nat → Prop) (hh : s__law_wide ds n R) : Goal t__law_wide 4 ds n R := by
  obtain ⟨c, N, rfl, K, h1, h13, k⟩ := hh
  have C := K.C
  have c0 := C.c0
  have c1 := C.c1
  have zc := K.zc
  have f11 : PyData.tuple [.int 1, .int 1] = fr 1 := fr_of (by decide +kernel) (by decide +kernel)
  have e1 : (N : Int) - 1 = ((N - 1 : Nat) : Int) := by omega
  have zl := one_sz.sub zc
  have zp := (pwQ_szd c0 c1 zc (N - 1)).mono (show _ ≤ 60 by omega)
  have zp2 : Sz 64 (pwQ c (N - 1) * c) := zp.mul zc
  have ep : pwQ c (N - 1) * c = pwQ c N := by
    have ex : ∃ m, N = m + 1 := ⟨N - 1, by omega⟩
    obtain ⟨m, rfl⟩ := ex
    rfl
  have q1 : pwQ c N < 1 := by
    have ex : ∃ m, N = m + 1 := ⟨N - 1, by omega⟩
    obtain ⟨m, rfl⟩ := ex
    exact pwQ_lt c0 c1 m
  unfold Goal t__law_wide
  simp only [↓oOdd_ap, ↓oHalf_ap, ↓dAsg2_ap, ↓dTruL_ap, ↓dCatOwn_ap, ↓oRepT_ap, ↓dParDX_ap, ↓dVar_ap, ↓dC_ap, ↓dOp_ap, ↓dUn_ap, ↓dCB_ap, ↓dCall_ap, ↓dCallId_ap, ↓dNil_ap, ↓dCons_ap, ↓dTup_ap, ↓dLst_ap, ↓dTest_ap, ↓dNot_ap, ↓dAnd_ap, ↓dOr_ap, ↓dIf_ap, ↓dOrV_ap, ↓dNotV_ap, ↓dChain_ap, ↓dChain3_ap, ↓dTy_ap, ↓dIsi_ap, ↓dNoPart_ap, ↓dPart_ap, ↓dSliceL_ap, ↓dSliceA_ap, ↓dPeekT_ap, ↓dPeekI_ap, ↓dYes_ap, ↓dNext_ap, ↓dSeq_ap, ↓dRet_ap, ↓dRetN_ap, ↓dDrop_ap, ↓dAsg_ap, ↓dAsgOwn_ap, ↓dFreeze_ap, ↓dAppend_ap, ↓dUnp_ap, ↓unpF_ap, ↓unpT_ap, ↓dPar_ap, ↓dPar3_ap, ↓dParO2_ap, ↓dParO3_ap, ↓dParOD_ap, ↓dParDO_ap, ↓dBreak_ap, ↓dCont_ap, ↓oI_ap, ↓oI0_ap, ↓oNeg_ap, ↓oEq_ap, ↓oNe_ap, ↓oIxT_ap, ↓oIxL_ap, ↓oIx0_ap, ↓oIx1_ap, ↓oIsN_ap, ↓oNotN_ap, ↓oIsB_ap, ↓oNotB_ap, ↓oEqS_ap, ↓oCat_ap, ↓oCatA_ap, ↓oRepL_ap, ↓oLenT_ap, ↓oLenL_ap, ↓oAbs_ap, ↓oInt_ap, ↓oGcd_ap, ↓oListT_ap, ↓oListL_ap, ↓oTupT_ap, ↓oTupL_ap, ↓oMin_ap, ↓oSum_ap, ↓oMax_ap, ↓oMinL_ap, ↓oLcm4_ap, ↓allD_ap, ↓allD_nil, ↓setAll_ap, ↓setAll_nil, TV, LV, IV, BV, FV, atI_0, atI_1, atI_2, atI_3, List.map_cons, List.map_nil, List.length_cons, List.length_nil, List.set_cons_zero, List.set_cons_succ, List.getElem?_cons_zero, List.getElem?_cons_succ, List.cons_append, List.nil_append, Nat.reduceAdd, Nat.reduceSub, Nat.reduceLeDiff, List.replicate, Bool.false_eq_true, if_false, if_true, ite_true, ite_false, true_and, and_true, Bool.not_true, Bool.not_false, decide_true, decide_false, entry, isNone_fr, isNone_non, isNone_tup, isNone_list, isNone_int, isNone_bool, pId, pRev, pR3, pR4, pR5, ↓dCallK_ap, ↓f11, ↓e__law_minus, ↓e__law_power, ↓e__law_times, ↓e__law_over, e1]
  refine ⟨one_sz.mono (by decide), zc.mono (by decide), by omega, c0, c1, zc, zl.mono (by decide), zl.mono (by decide), (zl.mul zl).mono (by decide), zp.mono (by decide), zp.mono (by decide), zc.mono (by decide), one_sz.mono (by decide), zp2.mono (by decide), ((zl.mul zl).mul zp).mono (by decide), (one_sz.sub zp2).mono (by decide), by rw [ep]; grind, ?_⟩
  rw [ep]
  exact k
theorem gcd_up (i j : Nat) : Nat.gcd (((i + 1 : Nat) : Int) + 1 + (j : Int)).natAbs (((i + 1 : Nat)) : Int).natAbs = Nat.gcd (j + 1) (i + 1) := by
  have e : (((i + 1 : Nat) : Int) + 1 + (j : Int)).natAbs = (j + 1) + (i + 1) := by omega
  rw [e, Int.natAbs_natCast]
  exact Nat.gcd_add_self_left ..
theorem p__law_together (ds : List DV) (n : Nat) (R : DV → Nat → Prop) (hh : s__law_together ds n R) : Goal t__law_together 5 ds n R := by
  obtain ⟨c, N, rfl, K, h11, k⟩ := hh
  have C := K.C
  have zc := K.zc
  have f01 : PyData.tuple [.int 0, .int 1] = fr 0 := fr_of (by decide +kernel) (by decide +kernel)
  unfold Goal t__law_together
  simp only [↓oOdd_ap, ↓oHalf_ap, ↓dAsg2_ap, ↓dTruL_ap, ↓dCatOwn_ap, ↓oRepT_ap, ↓dParDX_ap, ↓dVar_ap, ↓dC_ap, ↓dOp_ap, ↓dUn_ap, ↓dCB_ap, ↓dCall_ap, ↓dCallId_ap, ↓dNil_ap, ↓dCons_ap, ↓dTup_ap, ↓dLst_ap, ↓dTest_ap, ↓dNot_ap, ↓dAnd_ap, ↓dOr_ap, ↓dIf_ap, ↓dOrV_ap, ↓dNotV_ap, ↓dChain_ap, ↓dChain3_ap, ↓dTy_ap, ↓dIsi_ap, ↓dNoPart_ap, ↓dPart_ap, ↓dSliceL_ap, ↓dSliceA_ap, ↓dPeekT_ap, ↓dPeekI_ap, ↓dYes_ap, ↓dNext_ap, ↓dSeq_ap, ↓dRet_ap, ↓dRetN_ap, ↓dDrop_ap, ↓dAsg_ap, ↓dAsgOwn_ap, ↓dFreeze_ap, ↓dAppend_ap, ↓dUnp_ap, ↓unpF_ap, ↓unpT_ap, ↓dPar_ap, ↓dPar3_ap, ↓dParO2_ap, ↓dParO3_ap, ↓dParOD_ap, ↓dParDO_ap, ↓dBreak_ap, ↓dCont_ap, ↓oI_ap, ↓oI0_ap, ↓oNeg_ap, ↓oEq_ap, ↓oNe_ap, ↓oIxT_ap, ↓oIxL_ap, ↓oIx0_ap, ↓oIx1_ap, ↓oIsN_ap, ↓oNotN_ap, ↓oIsB_ap, ↓oNotB_ap, ↓oEqS_ap, ↓oCat_ap, ↓oCatA_ap, ↓oRepL_ap, ↓oLenT_ap, ↓oLenL_ap, ↓oAbs_ap, ↓oInt_ap, ↓oGcd_ap, ↓oListT_ap, ↓oListL_ap, ↓oTupT_ap, ↓oTupL_ap, ↓oMin_ap, ↓oSum_ap, ↓oMax_ap, ↓oMinL_ap, ↓oLcm4_ap, ↓allD_ap, ↓allD_nil, ↓setAll_ap, ↓setAll_nil, TV, LV, IV, BV, FV, atI_0, atI_1, atI_2, atI_3, List.map_cons, List.map_nil, List.length_cons, List.length_nil, List.set_cons_zero, List.set_cons_succ, List.getElem?_cons_zero, List.getElem?_cons_succ, List.cons_append, List.nil_append, Nat.reduceAdd, Nat.reduceSub, Nat.reduceLeDiff, List.replicate, Bool.false_eq_true, if_false, if_true, ite_true, ite_false, true_and, and_true, Bool.not_true, Bool.not_false, decide_true, decide_false, entry, isNone_fr, isNone_non, isNone_tup, isNone_list, isNone_int, isNone_bool, pId, pRev, pR3, pR4, pR5, ↓dCallK_ap, ↓f01]
  refine forR2_go 1 ((N : Int) + 1) n (fun i env m => m = n ∧ i ≤ N ∧ ∃ o3 o4, env = [some (FV c), some (IV (N : Int)), some (FV (covQ c i)), o3, o4]) (fun R' k' => ?_) ⟨by omega, by omega, by omega, by omega⟩ ⟨rfl, by omega, none, none, rfl⟩ ?_ ?_
  · simp only [↓oOdd_ap, ↓oHalf_ap, ↓dAsg2_ap, ↓dTruL_ap, ↓dCatOwn_ap, ↓oRepT_ap, ↓dParDX_ap, ↓dVar_ap, ↓dC_ap, ↓dOp_ap, ↓dUn_ap, ↓dCB_ap, ↓dCall_ap, ↓dCallId_ap, ↓dNil_ap, ↓dCons_ap, ↓dTup_ap, ↓dLst_ap, ↓dTest_ap, ↓dNot_ap, ↓dAnd_ap, ↓dOr_ap, ↓dIf_ap, ↓dOrV_ap, ↓dNotV_ap, ↓dChain_ap, ↓dChain3_ap, ↓dTy_ap, ↓dIsi_ap, ↓dNoPart_ap, ↓dPart_ap, ↓dSliceL_ap, ↓dSliceA_ap, ↓dPeekT_ap, ↓dPeekI_ap, ↓dYes_ap, ↓dNext_ap, ↓dSeq_ap, ↓dRet_ap, ↓dRetN_ap, ↓dDrop_ap, ↓dAsg_ap, ↓dAsgOwn_ap, ↓dFreeze_ap, ↓dAppend_ap, ↓dUnp_ap, ↓unpF_ap, ↓unpT_ap, ↓dPar_ap, ↓dPar3_ap, ↓dParO2_ap, ↓dParO3_ap, ↓dParOD_ap, ↓dParDO_ap, ↓dBreak_ap, ↓dCont_ap, ↓oI_ap, ↓oI0_ap, ↓oNeg_ap, ↓oEq_ap, ↓oNe_ap, ↓oIxT_ap, ↓oIxL_ap, ↓oIx0_ap, ↓oIx1_ap, ↓oIsN_ap, ↓oNotN_ap, ↓oIsB_ap, ↓oNotB_ap, ↓oEqS_ap, ↓oCat_ap, ↓oCatA_ap, ↓oRepL_ap, ↓oLenT_ap, ↓oLenL_ap, ↓oAbs_ap, ↓oInt_ap, ↓oGcd_ap, ↓oListT_ap, ↓oListL_ap, ↓oTupT_ap, ↓oTupL_ap, ↓oMin_ap, ↓oSum_ap, ↓oMax_ap, ↓oMinL_ap, ↓oLcm4_ap, ↓allD_ap, ↓allD_nil, ↓setAll_ap, ↓setAll_nil, TV, LV, IV, BV, FV, atI_0, atI_1, atI_2, atI_3, List.map_cons, List.map_nil, List.length_cons, List.length_nil, List.set_cons_zero, List.set_cons_succ, List.getElem?_cons_zero, List.getElem?_cons_succ, List.cons_append, List.nil_append, Nat.reduceAdd, Nat.reduceSub, Nat.reduceLeDiff, List.replicate, Bool.false_eq_true, if_false, if_true, ite_true, ite_false, true_and, and_true, Bool.not_true, Bool.not_false, decide_true, decide_false, entry, isNone_fr, isNone_non, isNone_tup, isNone_list, isNone_int, isNone_bool, pId, pRev, pR3, pR4, pR5, ↓dCallK_ap]
    exact k'
  · rintro i env m hi ⟨rfl, hi0, o3, o4, rfl⟩
    have e2 : (1 : Int) + (i : Int) = ((i + 1 : Nat) : Int) := by omega
    have hi' : i < N := by omega
    unfold t__law_together_b2
    simp only [↓oOdd_ap, ↓oHalf_ap, ↓dAsg2_ap, ↓dTruL_ap, ↓dCatOwn_ap, ↓oRepT_ap, ↓dParDX_ap, ↓dVar_ap, ↓dC_ap, ↓dOp_ap, ↓dUn_ap, ↓dCB_ap, ↓dCall_ap, ↓dCallId_ap, ↓dNil_ap, ↓dCons_ap, ↓dTup_ap, ↓dLst_ap, ↓dTest_ap, ↓dNot_ap, ↓dAnd_ap, ↓dOr_ap, ↓dIf_ap, ↓dOrV_ap, ↓dNotV_ap, ↓dChain_ap, ↓dChain3_ap, ↓dTy_ap, ↓dIsi_ap, ↓dNoPart_ap, ↓dPart_ap, ↓dSliceL_ap, ↓dSliceA_ap, ↓dPeekT_ap, ↓dPeekI_ap, ↓dYes_ap, ↓dNext_ap, ↓dSeq_ap, ↓dRet_ap, ↓dRetN_ap, ↓dDrop_ap, ↓dAsg_ap, ↓dAsgOwn_ap, ↓dFreeze_ap, ↓dAppend_ap, ↓dUnp_ap, ↓unpF_ap, ↓unpT_ap, ↓dPar_ap, ↓dPar3_ap, ↓dParO2_ap, ↓dParO3_ap, ↓dParOD_ap, ↓dParDO_ap, ↓dBreak_ap, ↓dCont_ap, ↓oI_ap, ↓oI0_ap, ↓oNeg_ap, ↓oEq_ap, ↓oNe_ap, ↓oIxT_ap, ↓oIxL_ap, ↓oIx0_ap, ↓oIx1_ap, ↓oIsN_ap, ↓oNotN_ap, ↓oIsB_ap, ↓oNotB_ap, ↓oEqS_ap, ↓oCat_ap, ↓oCatA_ap, ↓oRepL_ap, ↓oLenT_ap, ↓oLenL_ap, ↓oAbs_ap, ↓oInt_ap, ↓oGcd_ap, ↓oListT_ap, ↓oListL_ap, ↓oTupT_ap, ↓oTupL_ap, ↓oMin_ap, ↓oSum_ap, ↓oMax_ap, ↓oMinL_ap, ↓oLcm4_ap, ↓allD_ap, ↓allD_nil, ↓setAll_ap, ↓setAll_nil, TV, LV, IV, BV, FV, atI_0, atI_1, atI_2, atI_3, List.map_cons, List.map_nil, List.length_cons, List.length_nil, List.set_cons_zero, List.set_cons_succ, List.getElem?_cons_zero, List.getElem?_cons_succ, List.cons_append, List.nil_append, Nat.reduceAdd, Nat.reduceSub, Nat.reduceLeDiff, List.replicate, Bool.false_eq_true, if_false, if_true, ite_true, ite_false, true_and, and_true, Bool.not_true, Bool.not_false, decide_true, decide_false, entry, isNone_fr, isNone_non, isNone_tup, isNone_list, isNone_int, isNone_bool, pId, pRev, pR3, pR4, pR5, ↓dCallK_ap, e2]
    refine forR2_go (((i + 1 : Nat) : Int) + 1) (2 * ((i + 1 : Nat) : Int) + 1) m (fun j env m' => m' = m ∧ ∃ o4, env = [some (FV c), some (IV (N : Int)), some (FV (covQ c i + (((cntG (i + 1) j : Nat) : Int) : Rat) * lenE c (i + 1))), some (IV ((i + 1 : Nat) : Int)), o4]) (fun R' k' => ?_) ⟨by omega, by omega, by omega, by omega⟩ ⟨rfl, o4, ?_⟩ ?_ ?_
    · simp only [↓oOdd_ap, ↓oHalf_ap, ↓dAsg2_ap, ↓dTruL_ap, ↓dCatOwn_ap, ↓oRepT_ap, ↓dParDX_ap, ↓dVar_ap, ↓dC_ap, ↓dOp_ap, ↓dUn_ap, ↓dCB_ap, ↓dCall_ap, ↓dCallId_ap, ↓dNil_ap, ↓dCons_ap, ↓dTup_ap, ↓dLst_ap, ↓dTest_ap, ↓dNot_ap, ↓dAnd_ap, ↓dOr_ap, ↓dIf_ap, ↓dOrV_ap, ↓dNotV_ap, ↓dChain_ap, ↓dChain3_ap, ↓dTy_ap, ↓dIsi_ap, ↓dNoPart_ap, ↓dPart_ap, ↓dSliceL_ap, ↓dSliceA_ap, ↓dPeekT_ap, ↓dPeekI_ap, ↓dYes_ap, ↓dNext_ap, ↓dSeq_ap, ↓dRet_ap, ↓dRetN_ap, ↓dDrop_ap, ↓dAsg_ap, ↓dAsgOwn_ap, ↓dFreeze_ap, ↓dAppend_ap, ↓dUnp_ap, ↓unpF_ap, ↓unpT_ap, ↓dPar_ap, ↓dPar3_ap, ↓dParO2_ap, ↓dParO3_ap, ↓dParOD_ap, ↓dParDO_ap, ↓dBreak_ap, ↓dCont_ap, ↓oI_ap, ↓oI0_ap, ↓oNeg_ap, ↓oEq_ap, ↓oNe_ap, ↓oIxT_ap, ↓oIxL_ap, ↓oIx0_ap, ↓oIx1_ap, ↓oIsN_ap, ↓oNotN_ap, ↓oIsB_ap, ↓oNotB_ap, ↓oEqS_ap, ↓oCat_ap, ↓oCatA_ap, ↓oRepL_ap, ↓oLenT_ap, ↓oLenL_ap, ↓oAbs_ap, ↓oInt_ap, ↓oGcd_ap, ↓oListT_ap, ↓oListL_ap, ↓oTupT_ap, ↓oTupL_ap, ↓oMin_ap, ↓oSum_ap, ↓oMax_ap, ↓oMinL_ap, ↓oLcm4_ap, ↓allD_ap, ↓allD_nil, ↓setAll_ap, ↓setAll_nil, TV, LV, IV, BV, FV, atI_0, atI_1, atI_2, atI_3, List.map_cons, List.map_nil, List.length_cons, List.length_nil, List.set_cons_zero, List.set_cons_succ, List.getElem?_cons_zero, List.getElem?_cons_succ, List.cons_append, List.nil_append, Nat.reduceAdd, Nat.reduceSub, Nat.reduceLeDiff, List.replicate, Bool.false_eq_true, if_false, if_true, ite_true, ite_false, true_and, and_true, Bool.not_true, Bool.not_false, decide_true, decide_false, entry, isNone_fr, isNone_non, isNone_tup, isNone_list, isNone_int, isNone_bool, pId, pRev, pR3, pR4, pR5, ↓dCallK_ap]
      exact ⟨mulB (show B 2 (2 : Int).natAbs from B.of (by decide)) (show B 4 (((i + 1 : Nat)) : Int).natAbs from B.of (by omega)) (by decide), k'⟩
    · have e0 : (((cntG (i + 1) 0 : Nat) : Int) : Rat) = 0 := rfl
      rw [e0]
      have : covQ c i + 0 * lenE c (i + 1) = covQ c i := by grind
      rw [this]
    · rintro j env m' hj ⟨rfl, o4, rfl⟩
      have hj' : j < i + 1 := by omega
      have cj := cntG_le (i + 1) j
      have es : cntG (i + 1) (j + 1) = cntG (i + 1) j + (if Nat.gcd (j + 1) (i + 1) = 1 then 1 else 0) := rfl
      unfold t__law_together_b1
      rw [dIfS_ap]
      simp only [↓oOdd_ap, ↓oHalf_ap, ↓dAsg2_ap, ↓dTruL_ap, ↓dCatOwn_ap, ↓oRepT_ap, ↓dParDX_ap, ↓dVar_ap, ↓dC_ap, ↓dOp_ap, ↓dUn_ap, ↓dCB_ap, ↓dCall_ap, ↓dCallId_ap, ↓dNil_ap, ↓dCons_ap, ↓dTup_ap, ↓dLst_ap, ↓dTest_ap, ↓dNot_ap, ↓dAnd_ap, ↓dOr_ap, ↓dIf_ap, ↓dOrV_ap, ↓dNotV_ap, ↓dChain_ap, ↓dChain3_ap, ↓dTy_ap, ↓dIsi_ap, ↓dNoPart_ap, ↓dPart_ap, ↓dSliceL_ap, ↓dSliceA_ap, ↓dPeekT_ap, ↓dPeekI_ap, ↓dYes_ap, ↓dNext_ap, ↓dSeq_ap, ↓dRet_ap, ↓dRetN_ap, ↓dDrop_ap, ↓dAsg_ap, ↓dAsgOwn_ap, ↓dFreeze_ap, ↓dAppend_ap, ↓dUnp_ap, ↓unpF_ap, ↓unpT_ap, ↓dPar_ap, ↓dPar3_ap, ↓dParO2_ap, ↓dParO3_ap, ↓dParOD_ap, ↓dParDO_ap, ↓dBreak_ap, ↓dCont_ap, ↓oI_ap, ↓oI0_ap, ↓oNeg_ap, ↓oEq_ap, ↓oNe_ap, ↓oIxT_ap, ↓oIxL_ap, ↓oIx0_ap, ↓oIx1_ap, ↓oIsN_ap, ↓oNotN_ap, ↓oIsB_ap, ↓oNotB_ap, ↓oEqS_ap, ↓oCat_ap, ↓oCatA_ap, ↓oRepL_ap, ↓oLenT_ap, ↓oLenL_ap, ↓oAbs_ap, ↓oInt_ap, ↓oGcd_ap, ↓oListT_ap, ↓oListL_ap, ↓oTupT_ap, ↓oTupL_ap, ↓oMin_ap, ↓oSum_ap, ↓oMax_ap, ↓oMinL_ap, ↓oLcm4_ap, ↓allD_ap, ↓allD_nil, ↓setAll_ap, ↓setAll_nil, TV, LV, IV, BV, FV, atI_0, atI_1, atI_2, atI_3, List.map_cons, List.map_nil, List.length_cons, List.length_nil, List.set_cons_zero, List.set_cons_succ, List.getElem?_cons_zero, List.getElem?_cons_succ, List.cons_append, List.nil_append, Nat.reduceAdd, Nat.reduceSub, Nat.reduceLeDiff, List.replicate, Bool.false_eq_true, if_false, if_true, ite_true, ite_false, true_and, and_true, Bool.not_true, Bool.not_false, decide_true, decide_false, entry, isNone_fr, isNone_non, isNone_tup, isNone_list, isNone_int, isNone_bool, pId, pRev, pR3, pR4, pR5, ↓dCallK_ap]
      refine ⟨_, _, rfl, by omega, B.mono (k := 20) (B.of (by omega)) (by decide), B.mono (k := 20) (B.of (by omega)) (by decide), ?_⟩
      rw [gcd_up]
      simp only [↓oOdd_ap, ↓oHalf_ap, ↓dAsg2_ap, ↓dTruL_ap, ↓dCatOwn_ap, ↓oRepT_ap, ↓dParDX_ap, ↓dVar_ap, ↓dC_ap, ↓dOp_ap, ↓dUn_ap, ↓dCB_ap, ↓dCall_ap, ↓dCallId_ap, ↓dNil_ap, ↓dCons_ap, ↓dTup_ap, ↓dLst_ap, ↓dTest_ap, ↓dNot_ap, ↓dAnd_ap, ↓dOr_ap, ↓dIf_ap, ↓dOrV_ap, ↓dNotV_ap, ↓dChain_ap, ↓dChain3_ap, ↓dTy_ap, ↓dIsi_ap, ↓dNoPart_ap, ↓dPart_ap, ↓dSliceL_ap, ↓dSliceA_ap, ↓dPeekT_ap, ↓dPeekI_ap, ↓dYes_ap, ↓dNext_ap, ↓dSeq_ap, ↓dRet_ap, ↓dRetN_ap, ↓dDrop_ap, ↓dAsg_ap, ↓dAsgOwn_ap, ↓dFreeze_ap, ↓dAppend_ap, ↓dUnp_ap, ↓unpF_ap, ↓unpT_ap, ↓dPar_ap, ↓dPar3_ap, ↓dParO2_ap, ↓dParO3_ap, ↓dParOD_ap, ↓dParDO_ap, ↓dBreak_ap, ↓dCont_ap, ↓oI_ap, ↓oI0_ap, ↓oNeg_ap, ↓oEq_ap, ↓oNe_ap, ↓oIxT_ap, ↓oIxL_ap, ↓oIx0_ap, ↓oIx1_ap, ↓oIsN_ap, ↓oNotN_ap, ↓oIsB_ap, ↓oNotB_ap, ↓oEqS_ap, ↓oCat_ap, ↓oCatA_ap, ↓oRepL_ap, ↓oLenT_ap, ↓oLenL_ap, ↓oAbs_ap, ↓oInt_ap, ↓oGcd_ap, ↓oListT_ap, ↓oListL_ap, ↓oTupT_ap, ↓oTupL_ap, ↓oMin_ap, ↓oSum_ap, ↓oMax_ap, ↓oMinL_ap, ↓oLcm4_ap, ↓allD_ap, ↓allD_nil, ↓setAll_ap, ↓setAll_nil, TV, LV, IV, BV, FV, atI_0, atI_1, atI_2, atI_3, List.map_cons, List.map_nil, List.length_cons, List.length_nil, List.set_cons_zero, List.set_cons_succ, List.getElem?_cons_zero, List.getElem?_cons_succ, List.cons_append, List.nil_append, Nat.reduceAdd, Nat.reduceSub, Nat.reduceLeDiff, List.replicate, Bool.false_eq_true, if_false, if_true, ite_true, ite_false, true_and, and_true, Bool.not_true, Bool.not_false, decide_true, decide_false, entry, isNone_fr, isNone_non, isNone_tup, isNone_list, isNone_int, isNone_bool, pId, pRev, pR3, pR4, pR5, ↓dCallK_ap, shaped_int, eqv_int, beq_iff_eq]
      by_cases hg : Nat.gcd (j + 1) (i + 1) = 1
      · rw [if_pos hg] at es
        rw [if_pos (by omega)]
        simp only [↓oOdd_ap, ↓oHalf_ap, ↓dAsg2_ap, ↓dTruL_ap, ↓dCatOwn_ap, ↓oRepT_ap, ↓dParDX_ap, ↓dVar_ap, ↓dC_ap, ↓dOp_ap, ↓dUn_ap, ↓dCB_ap, ↓dCall_ap, ↓dCallId_ap, ↓dNil_ap, ↓dCons_ap, ↓dTup_ap, ↓dLst_ap, ↓dTest_ap, ↓dNot_ap, ↓dAnd_ap, ↓dOr_ap, ↓dIf_ap, ↓dOrV_ap, ↓dNotV_ap, ↓dChain_ap, ↓dChain3_ap, ↓dTy_ap, ↓dIsi_ap, ↓dNoPart_ap, ↓dPart_ap, ↓dSliceL_ap, ↓dSliceA_ap, ↓dPeekT_ap, ↓dPeekI_ap, ↓dYes_ap, ↓dNext_ap, ↓dSeq_ap, ↓dRet_ap, ↓dRetN_ap, ↓dDrop_ap, ↓dAsg_ap, ↓dAsgOwn_ap, ↓dFreeze_ap, ↓dAppend_ap, ↓dUnp_ap, ↓unpF_ap, ↓unpT_ap, ↓dPar_ap, ↓dPar3_ap, ↓dParO2_ap, ↓dParO3_ap, ↓dParOD_ap, ↓dParDO_ap, ↓dBreak_ap, ↓dCont_ap, ↓oI_ap, ↓oI0_ap, ↓oNeg_ap, ↓oEq_ap, ↓oNe_ap, ↓oIxT_ap, ↓oIxL_ap, ↓oIx0_ap, ↓oIx1_ap, ↓oIsN_ap, ↓oNotN_ap, ↓oIsB_ap, ↓oNotB_ap, ↓oEqS_ap, ↓oCat_ap, ↓oCatA_ap, ↓oRepL_ap, ↓oLenT_ap, ↓oLenL_ap, ↓oAbs_ap, ↓oInt_ap, ↓oGcd_ap, ↓oListT_ap, ↓oListL_ap, ↓oTupT_ap, ↓oTupL_ap, ↓oMin_ap, ↓oSum_ap, ↓oMax_ap, ↓oMinL_ap, ↓oLcm4_ap, ↓allD_ap, ↓allD_nil, ↓setAll_ap, ↓setAll_nil, TV, LV, IV, BV, FV, atI_0, atI_1, atI_2, atI_3, List.map_cons, List.map_nil, List.length_cons, List.length_nil, List.set_cons_zero, List.set_cons_succ, List.getElem?_cons_zero, List.getElem?_cons_succ, List.cons_append, List.nil_append, Nat.reduceAdd, Nat.reduceSub, Nat.reduceLeDiff, List.replicate, Bool.false_eq_true, if_false, if_true, ite_true, ite_false, true_and, and_true, Bool.not_true, Bool.not_false, decide_true, decide_false, entry, isNone_fr, isNone_non, isNone_tup, isNone_list, isNone_int, isNone_bool, pId, pRev, pR3, pR4, pR5, ↓dCallK_ap, ↓e__law_wide, ↓e__law_plus]
        refine ⟨K, by omega, (cov_sz C zc (by omega) (by omega)).mono (by decide), (lenE_sz13 C zc (by omega) (by omega)).mono (by decide), some (IV (((i + 1 : Nat) : Int) + 1 + (j : Int))), ?_⟩
        have ec : (((cntG (i + 1) (j + 1) : Nat) : Int) : Rat) = (((cntG (i + 1) j : Nat) : Int) : Rat) + 1 := by
          rw [es, Int.natCast_add, Rat.intCast_add]
          rfl
        have ev : covQ c i + (((cntG (i + 1) (j + 1) : Nat) : Int) : Rat) * lenE c (i + 1) = covQ c i + (((cntG (i + 1) j : Nat) : Int) : Rat) * lenE c (i + 1) + lenE c (i + 1) := by
          rw [ec]
          grind
        rw [ev]
      · rw [if_neg hg] at es
        rw [if_neg (by omega), es]
        exact ⟨_, rfl⟩
    · rintro env m' ⟨rfl, o4, rfl⟩
      have e : (2 * ((i + 1 : Nat) : Int) + 1 - (((i + 1 : Nat) : Int) + 1)).toNat = i + 1 := by omega
      rw [e]
      exact ⟨rfl, by omega, _, _, rfl⟩
  · rintro env m ⟨rfl, hi0, o3, o4, rfl⟩
    have e : ((N : Int) + 1 - 1).toNat = N := by omega
    rw [e]
    simp only [↓oOdd_ap, ↓oHalf_ap, ↓dAsg2_ap, ↓dTruL_ap, ↓dCatOwn_ap, ↓oRepT_ap, ↓dParDX_ap, ↓dVar_ap, ↓dC_ap, ↓dOp_ap, ↓dUn_ap, ↓dCB_ap, ↓dCall_ap, ↓dCallId_ap, ↓dNil_ap, ↓dCons_ap, ↓dTup_ap, ↓dLst_ap, ↓dTest_ap, ↓dNot_ap, ↓dAnd_ap, ↓dOr_ap, ↓dIf_ap, ↓dOrV_ap, ↓dNotV_ap, ↓dChain_ap, ↓dChain3_ap, ↓dTy_ap, ↓dIsi_ap, ↓dNoPart_ap, ↓dPart_ap, ↓dSliceL_ap, ↓dSliceA_ap, ↓dPeekT_ap, ↓dPeekI_ap, ↓dYes_ap, ↓dNext_ap, ↓dSeq_ap, ↓dRet_ap, ↓dRetN_ap, ↓dDrop_ap, ↓dAsg_ap, ↓dAsgOwn_ap, ↓dFreeze_ap, ↓dAppend_ap, ↓dUnp_ap, ↓unpF_ap, ↓unpT_ap, ↓dPar_ap, ↓dPar3_ap, ↓dParO2_ap, ↓dParO3_ap, ↓dParOD_ap, ↓dParDO_ap, ↓dBreak_ap, ↓dCont_ap, ↓oI_ap, ↓oI0_ap, ↓oNeg_ap, ↓oEq_ap, ↓oNe_ap, ↓oIxT_ap, ↓oIxL_ap, ↓oIx0_ap, ↓oIx1_ap, ↓oIsN_ap, ↓oNotN_ap, ↓oIsB_ap, ↓oNotB_ap, ↓oEqS_ap, ↓oCat_ap, ↓oCatA_ap, ↓oRepL_ap, ↓oLenT_ap, ↓oLenL_ap, ↓oAbs_ap, ↓oInt_ap, ↓oGcd_ap, ↓oListT_ap, ↓oListL_ap, ↓oTupT_ap, ↓oTupL_ap, ↓oMin_ap, ↓oSum_ap, ↓oMax_ap, ↓oMinL_ap, ↓oLcm4_ap, ↓allD_ap, ↓allD_nil, ↓setAll_ap, ↓setAll_nil, TV, LV, IV, BV, FV, atI_0, atI_1, atI_2, atI_3, List.map_cons, List.map_nil, List.length_cons, List.length_nil, List.set_cons_zero, List.set_cons_succ, List.getElem?_cons_zero, List.getElem?_cons_succ, List.cons_append, List.nil_append, Nat.reduceAdd, Nat.reduceSub, Nat.reduceLeDiff, List.replicate, Bool.false_eq_true, if_false, if_true, ite_true, ite_false, true_and, and_true, Bool.not_true, Bool.not_false, decide_true, decide_false, entry, isNone_fr, isNone_non, isNone_tup, isNone_list, isNone_int, isNone_bool, pId, pRev, pR3, pR4, pR5, ↓dCallK_ap]
    exact k
theorem p__law_right (ds : List DV) (n : Nat) (R : DV → Nat → Prop) (hh : s__law_right ds n R) : Goal t__law_right 7 ds n R := by
  obtain ⟨c, N, rfl, K, h1, h11, k⟩ := hh
  have C := K.C
  have c0 := C.c0
  have c1 := C.c1
  have zc := K.zc
  have f11 : PyData.tuple [.int 1, .int 1] = fr 1 := fr_of (by decide +kernel) (by decide +kernel)
  obtain ⟨a, b, ec, b9, ab, a0⟩ := K.ab
  have tt := cov_table b b9 a ab N (by omega)
  rw [← ec] at tt
  have tt2 : covOk c N = true := by
    rcases tt with z | z | z
    · omega
    · omega
    · exact z
  unfold covOk at tt2
  rw [Bool.and_eq_true, Bool.not_eq_true', decide_eq_true_eq, decide_eq_false_iff_not] at tt2
  obtain ⟨t1, t2⟩ := tt2
  obtain ⟨q1, q2⟩ := next_table N (by omega) (by omega)
  have exq : ∃ q : Rat, q = (((N : Int) + 1 : Int) : Rat) / ((N : Int) : Rat) := ⟨_, rfl⟩
  obtain ⟨q, hq⟩ := exq
  rw [← hq] at q1 q2
  have fq : PyData.tuple [.int ((N : Int) + 1), .int (N : Int)] = fr q := fr_of q1 (by rw [q2])
  have Pqq : Pq q := by
    refine ⟨?_, by omega, by omega⟩
    rw [as_div q, q1, q2]
    have n0 : (0 : Rat) < ((N : Int) : Rat) := Rat.intCast_pos.2 (by omega)
    have e : (((N : Int) + 1 : Int) : Rat) / ((N : Int) : Rat) = 1 + (((N : Int) : Rat))⁻¹ := by
      rw [Rat.intCast_add, Rat.div_def]
      have i := Rat.mul_inv_cancel ((N : Int) : Rat) (by grind)
      have o : ((1 : Int) : Rat) = 1 := rfl
      rw [o]
      grind
    rw [e]
    have := Rat.inv_pos.2 n0
    grind
  have zt : Sz 820 (covQ c N) := cov_sz0 C zc (by omega)
  have z1 : Sz 820 (1 : Rat) := one_sz.mono (by decide)
  have zw := lenE_sz13 C zc h1 (show N ≤ 13 by omega)
  have zl := one_sz.sub zc
  have zp := (pwQ_szd c0 c1 zc N).mono (show _ ≤ 60 by omega)
  have zn : Sz 5 ((((N : Int) + 1 : Int)) : Rat) := sz_int (k := 5) (B.of (by omega)) (by decide)
  have l0 : (0 : Rat) < 1 - c := by grind
  unfold Goal t__law_right
  simp only [↓oOdd_ap, ↓oHalf_ap, ↓dAsg2_ap, ↓dTruL_ap, ↓dCatOwn_ap, ↓oRepT_ap, ↓dParDX_ap, ↓dVar_ap, ↓dC_ap, ↓dOp_ap, ↓dUn_ap, ↓dCB_ap, ↓dCall_ap, ↓dCallId_ap, ↓dNil_ap, ↓dCons_ap, ↓dTup_ap, ↓dLst_ap, ↓dTest_ap, ↓dNot_ap, ↓dAnd_ap, ↓dOr_ap, ↓dIf_ap, ↓dOrV_ap, ↓dNotV_ap, ↓dChain_ap, ↓dChain3_ap, ↓dTy_ap, ↓dIsi_ap, ↓dNoPart_ap, ↓dPart_ap, ↓dSliceL_ap, ↓dSliceA_ap, ↓dPeekT_ap, ↓dPeekI_ap, ↓dYes_ap, ↓dNext_ap, ↓dSeq_ap, ↓dRet_ap, ↓dRetN_ap, ↓dDrop_ap, ↓dAsg_ap, ↓dAsgOwn_ap, ↓dFreeze_ap, ↓dAppend_ap, ↓dUnp_ap, ↓unpF_ap, ↓unpT_ap, ↓dPar_ap, ↓dPar3_ap, ↓dParO2_ap, ↓dParO3_ap, ↓dParOD_ap, ↓dParDO_ap, ↓dBreak_ap, ↓dCont_ap, ↓oI_ap, ↓oI0_ap, ↓oNeg_ap, ↓oEq_ap, ↓oNe_ap, ↓oIxT_ap, ↓oIxL_ap, ↓oIx0_ap, ↓oIx1_ap, ↓oIsN_ap, ↓oNotN_ap, ↓oIsB_ap, ↓oNotB_ap, ↓oEqS_ap, ↓oCat_ap, ↓oCatA_ap, ↓oRepL_ap, ↓oLenT_ap, ↓oLenL_ap, ↓oAbs_ap, ↓oInt_ap, ↓oGcd_ap, ↓oListT_ap, ↓oListL_ap, ↓oTupT_ap, ↓oTupL_ap, ↓oMin_ap, ↓oSum_ap, ↓oMax_ap, ↓oMinL_ap, ↓oLcm4_ap, ↓allD_ap, ↓allD_nil, ↓setAll_ap, ↓setAll_nil, TV, LV, IV, BV, FV, atI_0, atI_1, atI_2, atI_3, List.map_cons, List.map_nil, List.length_cons, List.length_nil, List.set_cons_zero, List.set_cons_succ, List.getElem?_cons_zero, List.getElem?_cons_succ, List.cons_append, List.nil_append, Nat.reduceAdd, Nat.reduceSub, Nat.reduceLeDiff, List.replicate, Bool.false_eq_true, if_false, if_true, ite_true, ite_false, true_and, and_true, Bool.not_true, Bool.not_false, decide_true, decide_false, entry, isNone_fr, isNone_non, isNone_tup, isNone_list, isNone_int, isNone_bool, pId, pRev, pR3, pR4, pR5, ↓dCallK_ap, ↓e_covered]
  refine ⟨C, zc, h1, by omega, ?_⟩
  rw [dIfS_ap]
  simp only [↓oOdd_ap, ↓oHalf_ap, ↓dAsg2_ap, ↓dTruL_ap, ↓dCatOwn_ap, ↓oRepT_ap, ↓dParDX_ap, ↓dVar_ap, ↓dC_ap, ↓dOp_ap, ↓dUn_ap, ↓dCB_ap, ↓dCall_ap, ↓dCallId_ap, ↓dNil_ap, ↓dCons_ap, ↓dTup_ap, ↓dLst_ap, ↓dTest_ap, ↓dNot_ap, ↓dAnd_ap, ↓dOr_ap, ↓dIf_ap, ↓dOrV_ap, ↓dNotV_ap, ↓dChain_ap, ↓dChain3_ap, ↓dTy_ap, ↓dIsi_ap, ↓dNoPart_ap, ↓dPart_ap, ↓dSliceL_ap, ↓dSliceA_ap, ↓dPeekT_ap, ↓dPeekI_ap, ↓dYes_ap, ↓dNext_ap, ↓dSeq_ap, ↓dRet_ap, ↓dRetN_ap, ↓dDrop_ap, ↓dAsg_ap, ↓dAsgOwn_ap, ↓dFreeze_ap, ↓dAppend_ap, ↓dUnp_ap, ↓unpF_ap, ↓unpT_ap, ↓dPar_ap, ↓dPar3_ap, ↓dParO2_ap, ↓dParO3_ap, ↓dParOD_ap, ↓dParDO_ap, ↓dBreak_ap, ↓dCont_ap, ↓oI_ap, ↓oI0_ap, ↓oNeg_ap, ↓oEq_ap, ↓oNe_ap, ↓oIxT_ap, ↓oIxL_ap, ↓oIx0_ap, ↓oIx1_ap, ↓oIsN_ap, ↓oNotN_ap, ↓oIsB_ap, ↓oNotB_ap, ↓oEqS_ap, ↓oCat_ap, ↓oCatA_ap, ↓oRepL_ap, ↓oLenT_ap, ↓oLenL_ap, ↓oAbs_ap, ↓oInt_ap, ↓oGcd_ap, ↓oListT_ap, ↓oListL_ap, ↓oTupT_ap, ↓oTupL_ap, ↓oMin_ap, ↓oSum_ap, ↓oMax_ap, ↓oMinL_ap, ↓oLcm4_ap, ↓allD_ap, ↓allD_nil, ↓setAll_ap, ↓setAll_nil, TV, LV, IV, BV, FV, atI_0, atI_1, atI_2, atI_3, List.map_cons, List.map_nil, List.length_cons, List.length_nil, List.set_cons_zero, List.set_cons_succ, List.getElem?_cons_zero, List.getElem?_cons_succ, List.cons_append, List.nil_append, Nat.reduceAdd, Nat.reduceSub, Nat.reduceLeDiff, List.replicate, Bool.false_eq_true, if_false, if_true, ite_true, ite_false, true_and, and_true, Bool.not_true, Bool.not_false, decide_true, decide_false, entry, isNone_fr, isNone_non, isNone_tup, isNone_list, isNone_int, isNone_bool, pId, pRev, pR3, pR4, pR5, ↓dCallK_ap, ↓e__law_together, ↓e_like, ↓f11, ↓e__law_below]
  refine ⟨K, h11, tidy1 zt (by decide), zt.mono (by decide), z1.mono (by decide), ?_⟩
  rw [decide_eq_true t1]
  simp only [↓oOdd_ap, ↓oHalf_ap, ↓dAsg2_ap, ↓dTruL_ap, ↓dCatOwn_ap, ↓oRepT_ap, ↓dParDX_ap, ↓dVar_ap, ↓dC_ap, ↓dOp_ap, ↓dUn_ap, ↓dCB_ap, ↓dCall_ap, ↓dCallId_ap, ↓dNil_ap, ↓dCons_ap, ↓dTup_ap, ↓dLst_ap, ↓dTest_ap, ↓dNot_ap, ↓dAnd_ap, ↓dOr_ap, ↓dIf_ap, ↓dOrV_ap, ↓dNotV_ap, ↓dChain_ap, ↓dChain3_ap, ↓dTy_ap, ↓dIsi_ap, ↓dNoPart_ap, ↓dPart_ap, ↓dSliceL_ap, ↓dSliceA_ap, ↓dPeekT_ap, ↓dPeekI_ap, ↓dYes_ap, ↓dNext_ap, ↓dSeq_ap, ↓dRet_ap, ↓dRetN_ap, ↓dDrop_ap, ↓dAsg_ap, ↓dAsgOwn_ap, ↓dFreeze_ap, ↓dAppend_ap, ↓dUnp_ap, ↓unpF_ap, ↓unpT_ap, ↓dPar_ap, ↓dPar3_ap, ↓dParO2_ap, ↓dParO3_ap, ↓dParOD_ap, ↓dParDO_ap, ↓dBreak_ap, ↓dCont_ap, ↓oI_ap, ↓oI0_ap, ↓oNeg_ap, ↓oEq_ap, ↓oNe_ap, ↓oIxT_ap, ↓oIxL_ap, ↓oIx0_ap, ↓oIx1_ap, ↓oIsN_ap, ↓oNotN_ap, ↓oIsB_ap, ↓oNotB_ap, ↓oEqS_ap, ↓oCat_ap, ↓oCatA_ap, ↓oRepL_ap, ↓oLenT_ap, ↓oLenL_ap, ↓oAbs_ap, ↓oInt_ap, ↓oGcd_ap, ↓oListT_ap, ↓oListL_ap, ↓oTupT_ap, ↓oTupL_ap, ↓oMin_ap, ↓oSum_ap, ↓oMax_ap, ↓oMinL_ap, ↓oLcm4_ap, ↓allD_ap, ↓allD_nil, ↓setAll_ap, ↓setAll_nil, TV, LV, IV, BV, FV, atI_0, atI_1, atI_2, atI_3, List.map_cons, List.map_nil, List.length_cons, List.length_nil, List.set_cons_zero, List.set_cons_succ, List.getElem?_cons_zero, List.getElem?_cons_succ, List.cons_append, List.nil_append, Nat.reduceAdd, Nat.reduceSub, Nat.reduceLeDiff, List.replicate, Bool.false_eq_true, if_false, if_true, ite_true, ite_false, true_and, and_true, Bool.not_true, Bool.not_false, decide_true, decide_false, entry, isNone_fr, isNone_non, isNone_tup, isNone_list, isNone_int, isNone_bool, pId, pRev, pR3, pR4, pR5, ↓dCallK_ap, ↓fq, ↓e__law_ends]
  refine ⟨c0, c1, zc, Pqq, fun zo zi => ?_⟩
  have el : hiE c q - loE c q = lenE c N := by
    rw [lenE_diff, q2]
  rw [dIfS_ap]
  simp only [↓oOdd_ap, ↓oHalf_ap, ↓dAsg2_ap, ↓dTruL_ap, ↓dCatOwn_ap, ↓oRepT_ap, ↓dParDX_ap, ↓dVar_ap, ↓dC_ap, ↓dOp_ap, ↓dUn_ap, ↓dCB_ap, ↓dCall_ap, ↓dCallId_ap, ↓dNil_ap, ↓dCons_ap, ↓dTup_ap, ↓dLst_ap, ↓dTest_ap, ↓dNot_ap, ↓dAnd_ap, ↓dOr_ap, ↓dIf_ap, ↓dOrV_ap, ↓dNotV_ap, ↓dChain_ap, ↓dChain3_ap, ↓dTy_ap, ↓dIsi_ap, ↓dNoPart_ap, ↓dPart_ap, ↓dSliceL_ap, ↓dSliceA_ap, ↓dPeekT_ap, ↓dPeekI_ap, ↓dYes_ap, ↓dNext_ap, ↓dSeq_ap, ↓dRet_ap, ↓dRetN_ap, ↓dDrop_ap, ↓dAsg_ap, ↓dAsgOwn_ap, ↓dFreeze_ap, ↓dAppend_ap, ↓dUnp_ap, ↓unpF_ap, ↓unpT_ap, ↓dPar_ap, ↓dPar3_ap, ↓dParO2_ap, ↓dParO3_ap, ↓dParOD_ap, ↓dParDO_ap, ↓dBreak_ap, ↓dCont_ap, ↓oI_ap, ↓oI0_ap, ↓oNeg_ap, ↓oEq_ap, ↓oNe_ap, ↓oIxT_ap, ↓oIxL_ap, ↓oIx0_ap, ↓oIx1_ap, ↓oIsN_ap, ↓oNotN_ap, ↓oIsB_ap, ↓oNotB_ap, ↓oEqS_ap, ↓oCat_ap, ↓oCatA_ap, ↓oRepL_ap, ↓oLenT_ap, ↓oLenL_ap, ↓oAbs_ap, ↓oInt_ap, ↓oGcd_ap, ↓oListT_ap, ↓oListL_ap, ↓oTupT_ap, ↓oTupL_ap, ↓oMin_ap, ↓oSum_ap, ↓oMax_ap, ↓oMinL_ap, ↓oLcm4_ap, ↓allD_ap, ↓allD_nil, ↓setAll_ap, ↓setAll_nil, TV, LV, IV, BV, FV, atI_0, atI_1, atI_2, atI_3, List.map_cons, List.map_nil, List.length_cons, List.length_nil, List.set_cons_zero, List.set_cons_succ, List.getElem?_cons_zero, List.getElem?_cons_succ, List.cons_append, List.nil_append, Nat.reduceAdd, Nat.reduceSub, Nat.reduceLeDiff, List.replicate, Bool.false_eq_true, if_false, if_true, ite_true, ite_false, true_and, and_true, Bool.not_true, Bool.not_false, decide_true, decide_false, entry, isNone_fr, isNone_non, isNone_tup, isNone_list, isNone_int, isNone_bool, pId, pRev, pR3, pR4, pR5, ↓dCallK_ap, ↓e__law_minus, ↓e__law_wide, el, ↓e_like]
  refine ⟨zi.mono (by decide), zo.mono (by decide), K, h1, by omega, tidy1 zw (by decide), ?_⟩
  simp only [↓oOdd_ap, ↓oHalf_ap, ↓dAsg2_ap, ↓dTruL_ap, ↓dCatOwn_ap, ↓oRepT_ap, ↓dParDX_ap, ↓dVar_ap, ↓dC_ap, ↓dOp_ap, ↓dUn_ap, ↓dCB_ap, ↓dCall_ap, ↓dCallId_ap, ↓dNil_ap, ↓dCons_ap, ↓dTup_ap, ↓dLst_ap, ↓dTest_ap, ↓dNot_ap, ↓dAnd_ap, ↓dOr_ap, ↓dIf_ap, ↓dOrV_ap, ↓dNotV_ap, ↓dChain_ap, ↓dChain3_ap, ↓dTy_ap, ↓dIsi_ap, ↓dNoPart_ap, ↓dPart_ap, ↓dSliceL_ap, ↓dSliceA_ap, ↓dPeekT_ap, ↓dPeekI_ap, ↓dYes_ap, ↓dNext_ap, ↓dSeq_ap, ↓dRet_ap, ↓dRetN_ap, ↓dDrop_ap, ↓dAsg_ap, ↓dAsgOwn_ap, ↓dFreeze_ap, ↓dAppend_ap, ↓dUnp_ap, ↓unpF_ap, ↓unpT_ap, ↓dPar_ap, ↓dPar3_ap, ↓dParO2_ap, ↓dParO3_ap, ↓dParOD_ap, ↓dParDO_ap, ↓dBreak_ap, ↓dCont_ap, ↓oI_ap, ↓oI0_ap, ↓oNeg_ap, ↓oEq_ap, ↓oNe_ap, ↓oIxT_ap, ↓oIxL_ap, ↓oIx0_ap, ↓oIx1_ap, ↓oIsN_ap, ↓oNotN_ap, ↓oIsB_ap, ↓oNotB_ap, ↓oEqS_ap, ↓oCat_ap, ↓oCatA_ap, ↓oRepL_ap, ↓oLenT_ap, ↓oLenL_ap, ↓oAbs_ap, ↓oInt_ap, ↓oGcd_ap, ↓oListT_ap, ↓oListL_ap, ↓oTupT_ap, ↓oTupL_ap, ↓oMin_ap, ↓oSum_ap, ↓oMax_ap, ↓oMinL_ap, ↓oLcm4_ap, ↓allD_ap, ↓allD_nil, ↓setAll_ap, ↓setAll_nil, TV, LV, IV, BV, FV, atI_0, atI_1, atI_2, atI_3, List.map_cons, List.map_nil, List.length_cons, List.length_nil, List.set_cons_zero, List.set_cons_succ, List.getElem?_cons_zero, List.getElem?_cons_succ, List.cons_append, List.nil_append, Nat.reduceAdd, Nat.reduceSub, Nat.reduceLeDiff, List.replicate, Bool.false_eq_true, if_false, if_true, ite_true, ite_false, true_and, and_true, Bool.not_true, Bool.not_false, decide_true, decide_false, entry, isNone_fr, isNone_non, isNone_tup, isNone_list, isNone_int, isNone_bool, pId, pRev, pR3, pR4, pR5, ↓dCallK_ap, ↓f11, ↓fr_int_ap, ↓e__law_minus, ↓e__law_power, ↓e__law_over, ↓e__law_plus, ↓e__law_times, ↓e__law_below]
  have zd : Sz 30 (c / (1 - c)) := (zc.div zl l0).mono (by decide)
  have zp1 : Sz 70 (pwQ c N / 1) := (zp.div one_sz (by decide +kernel)).mono (by decide)
  have z7 := zn.add zd
  refine ⟨one_sz.mono (by decide), zc.mono (by decide), by omega, c0, c1, zc, zp.mono (by decide), one_sz.mono (by decide), by decide +kernel, zc.mono (by decide), zl.mono (by decide), l0, zn.mono (by decide), zd.mono (by decide), zp1.mono (by decide), z7.mono (by decide), one_sz.mono (by decide), zt.mono (by decide), (zp1.mul z7).mono (by decide), (z1.sub zt).mono (by decide), ?_⟩
  rw [decide_eq_false t2]
  exact k
def t_law_b1 : DTS :=
  (dIfS (dNot (dTest (dCall s__law_right (dCons (dVar 3) (dCons (dVar 4) dNil))))) (dRet (dC (.bool false))) dNext)
def t_law_b2 : DTS :=
  (dSeq (dAsg 3 (dCall s__law_cut (dCons (dVar 1) dNil)))
  (dSeq (dForT 4 (dTup (dCons (dC (.int 1)) (dCons (dC (.int 2)) (dCons (dOp oAdd (dC (.int 3)) (dCall s__law_draw (dCons (dVar 1) (dCons (dC (.int 9)) dNil)))) dNil)))) t_law_b1)
  (dSeq (dPar 5 4 (dCons (dCall s_covered (dCons (dVar 3) (dCons (dC (.int 13)) dNil))) (dCons (dC (.int 12)) dNil)))
  (dSeq (dAsg 6 (dCB oLen (dCons (dLcR2 7 (dCons (dC (.int 14)) (dCons (dC (.int 27)) dNil)) (dTest (dOp oEq (dCall s__law_divisor (dCons (dVar 7) (dCons (dC (.int 13)) dNil))) (dC (.int 1)))) (dC (.int 1))) dNil)))
  (dSeq (dAsg 8 (dCall s__law_times (dCons (dCall s__law_wide (dCons (dVar 3) (dCons (dC (.int 13)) dNil))) (dCons (dTup (dCons (dVar 6) (dCons (dC (.int 1)) dNil))) dNil))))
  (dIfS (dNot (dTest (dCall s__law_like (dCons (dCall s__law_minus (dCons (dVar 5) (dCons (dCall s_covered (dCons (dVar 3) (dCons (dVar 4) dNil))) dNil))) (dCons (dVar 8) dNil))))) (dRet (dC (.bool false))) dNext))))))
/-- law. Slots: script, draws_so, step, cut_so, most_so, more, many_so, above, grown -/
def t_law : DTS :=
  (dSeq (dForR 2 (dC (.int 3)) t_law_b2)
  (dRet (dCall s__law_like (dCons (dLst (dCons (dCallK s_covered @pRev (dCons (dC (.int 1)) (dCons (dTup (dCons (dC (.int 1)) (dCons (dC (.int 2)) dNil))) dNil))) (dCons (dCall s_covered (dCons (dTup (dCons (dC (.int 1)) (dCons (dC (.int 2)) dNil))) (dCons (dC (.int 2)) dNil))) dNil))) (dCons (dLst (dCons (dTup (dCons (dC (.int 1)) (dCons (dC (.int 2)) dNil))) (dCons (dTup (dCons (dC (.int 2)) (dCons (dC (.int 3)) dNil))) dNil))) dNil)))))
theorem gcd_13 (j : Nat) : Nat.gcd ((14 : Int) + (j : Int)).natAbs ((13 : Int)).natAbs = Nat.gcd (j + 1) 13 := by
  have e : ((14 : Int) + (j : Int)).natAbs = (j + 1) + 13 := by omega
  rw [e]
  exact Nat.gcd_add_self_left ..
theorem p_law : t_law { nx := fun _ _ => False, rt := fun d _ => d = BV true } (none :: some .draws :: List.replicate (9 - 2) none) 0 := by
  unfold t_law
  refine forR_go (N := 3) rfl (by decide) (fun j env m => m ≤ 3 * j ∧ ∃ o2 o3 o4 o5 o6 o7 o8, env = [none, some .draws, o2, o3, o4, o5, o6, o7, o8]) ⟨by omega, none, none, none, none, none, none, none, rfl⟩ ?_ ?_
  · rintro j env m hj ⟨m0, o2, o3, o4, o5, o6, o7, o8, rfl⟩
    have L : LIM = 1073741824 := rfl
    unfold t_law_b2
    simp only [↓oOdd_ap, ↓oHalf_ap, ↓dAsg2_ap, ↓dTruL_ap, ↓dCatOwn_ap, ↓oRepT_ap, ↓dParDX_ap, ↓dVar_ap, ↓dC_ap, ↓dOp_ap, ↓dUn_ap, ↓dCB_ap, ↓dCall_ap, ↓dCallId_ap, ↓dNil_ap, ↓dCons_ap, ↓dTup_ap, ↓dLst_ap, ↓dTest_ap, ↓dNot_ap, ↓dAnd_ap, ↓dOr_ap, ↓dIf_ap, ↓dOrV_ap, ↓dNotV_ap, ↓dChain_ap, ↓dChain3_ap, ↓dTy_ap, ↓dIsi_ap, ↓dNoPart_ap, ↓dPart_ap, ↓dSliceL_ap, ↓dSliceA_ap, ↓dPeekT_ap, ↓dPeekI_ap, ↓dYes_ap, ↓dNext_ap, ↓dSeq_ap, ↓dRet_ap, ↓dRetN_ap, ↓dDrop_ap, ↓dAsg_ap, ↓dAsgOwn_ap, ↓dFreeze_ap, ↓dAppend_ap, ↓dUnp_ap, ↓unpF_ap, ↓unpT_ap, ↓dPar_ap, ↓dPar3_ap, ↓dParO2_ap, ↓dParO3_ap, ↓dParOD_ap, ↓dParDO_ap, ↓dBreak_ap, ↓dCont_ap, ↓oI_ap, ↓oI0_ap, ↓oNeg_ap, ↓oEq_ap, ↓oNe_ap, ↓oIxT_ap, ↓oIxL_ap, ↓oIx0_ap, ↓oIx1_ap, ↓oIsN_ap, ↓oNotN_ap, ↓oIsB_ap, ↓oNotB_ap, ↓oEqS_ap, ↓oCat_ap, ↓oCatA_ap, ↓oRepL_ap, ↓oLenT_ap, ↓oLenL_ap, ↓oAbs_ap, ↓oInt_ap, ↓oGcd_ap, ↓oListT_ap, ↓oListL_ap, ↓oTupT_ap, ↓oTupL_ap, ↓oMin_ap, ↓oSum_ap, ↓oMax_ap, ↓oMinL_ap, ↓oLcm4_ap, ↓allD_ap, ↓allD_nil, ↓setAll_ap, ↓setAll_nil, TV, LV, IV, BV, FV, atI_0, atI_1, atI_2, atI_3, List.map_cons, List.map_nil, List.length_cons, List.length_nil, List.set_cons_zero, List.set_cons_succ, List.getElem?_cons_zero, List.getElem?_cons_succ, List.cons_append, List.nil_append, Nat.reduceAdd, Nat.reduceSub, Nat.reduceLeDiff, List.replicate, Bool.false_eq_true, if_false, if_true, ite_true, ite_false, true_and, and_true, Bool.not_true, Bool.not_false, decide_true, decide_false, entry, isNone_fr, isNone_non, isNone_tup, isNone_list, isNone_int, isNone_bool, pId, pRev, pR3, pR4, pR5, ↓dCallK_ap, ↓e__law_cut]
    refine ⟨by omega, fun c c0 c1 d8 zc _ => ?_⟩
    have C : Prt c := ⟨(zc.mono (by decide)).bd, c0, c1, Int.le_trans d8 (by decide)⟩
    have K : Cd c := ⟨C, zc, d8⟩
    simp only [dForT, ↓oOdd_ap, ↓oHalf_ap, ↓dAsg2_ap, ↓dTruL_ap, ↓dCatOwn_ap, ↓oRepT_ap, ↓dParDX_ap, ↓dVar_ap, ↓dC_ap, ↓dOp_ap, ↓dUn_ap, ↓dCB_ap, ↓dCall_ap, ↓dCallId_ap, ↓dNil_ap, ↓dCons_ap, ↓dTup_ap, ↓dLst_ap, ↓dTest_ap, ↓dNot_ap, ↓dAnd_ap, ↓dOr_ap, ↓dIf_ap, ↓dOrV_ap, ↓dNotV_ap, ↓dChain_ap, ↓dChain3_ap, ↓dTy_ap, ↓dIsi_ap, ↓dNoPart_ap, ↓dPart_ap, ↓dSliceL_ap, ↓dSliceA_ap, ↓dPeekT_ap, ↓dPeekI_ap, ↓dYes_ap, ↓dNext_ap, ↓dSeq_ap, ↓dRet_ap, ↓dRetN_ap, ↓dDrop_ap, ↓dAsg_ap, ↓dAsgOwn_ap, ↓dFreeze_ap, ↓dAppend_ap, ↓dUnp_ap, ↓unpF_ap, ↓unpT_ap, ↓dPar_ap, ↓dPar3_ap, ↓dParO2_ap, ↓dParO3_ap, ↓dParOD_ap, ↓dParDO_ap, ↓dBreak_ap, ↓dCont_ap, ↓oI_ap, ↓oI0_ap, ↓oNeg_ap, ↓oEq_ap, ↓oNe_ap, ↓oIxT_ap, ↓oIxL_ap, ↓oIx0_ap, ↓oIx1_ap, ↓oIsN_ap, ↓oNotN_ap, ↓oIsB_ap, ↓oNotB_ap, ↓oEqS_ap, ↓oCat_ap, ↓oCatA_ap, ↓oRepL_ap, ↓oLenT_ap, ↓oLenL_ap, ↓oAbs_ap, ↓oInt_ap, ↓oGcd_ap, ↓oListT_ap, ↓oListL_ap, ↓oTupT_ap, ↓oTupL_ap, ↓oMin_ap, ↓oSum_ap, ↓oMax_ap, ↓oMinL_ap, ↓oLcm4_ap, ↓allD_ap, ↓allD_nil, ↓setAll_ap, ↓setAll_nil, TV, LV, IV, BV, FV, atI_0, atI_1, atI_2, atI_3, List.map_cons, List.map_nil, List.length_cons, List.length_nil, List.set_cons_zero, List.set_cons_succ, List.getElem?_cons_zero, List.getElem?_cons_succ, List.cons_append, List.nil_append, Nat.reduceAdd, Nat.reduceSub, Nat.reduceLeDiff, List.replicate, Bool.false_eq_true, if_false, if_true, ite_true, ite_false, true_and, and_true, Bool.not_true, Bool.not_false, decide_true, decide_false, entry, isNone_fr, isNone_non, isNone_tup, isNone_list, isNone_int, isNone_bool, pId, pRev, pR3, pR4, pR5, ↓dCallK_ap]
    refine draw_go (lim := 9) rfl (by decide) (by decide) (by omega) fun x hx => ?_
    simp only [↓oOdd_ap, ↓oHalf_ap, ↓dAsg2_ap, ↓dTruL_ap, ↓dCatOwn_ap, ↓oRepT_ap, ↓dParDX_ap, ↓dVar_ap, ↓dC_ap, ↓dOp_ap, ↓dUn_ap, ↓dCB_ap, ↓dCall_ap, ↓dCallId_ap, ↓dNil_ap, ↓dCons_ap, ↓dTup_ap, ↓dLst_ap, ↓dTest_ap, ↓dNot_ap, ↓dAnd_ap, ↓dOr_ap, ↓dIf_ap, ↓dOrV_ap, ↓dNotV_ap, ↓dChain_ap, ↓dChain3_ap, ↓dTy_ap, ↓dIsi_ap, ↓dNoPart_ap, ↓dPart_ap, ↓dSliceL_ap, ↓dSliceA_ap, ↓dPeekT_ap, ↓dPeekI_ap, ↓dYes_ap, ↓dNext_ap, ↓dSeq_ap, ↓dRet_ap, ↓dRetN_ap, ↓dDrop_ap, ↓dAsg_ap, ↓dAsgOwn_ap, ↓dFreeze_ap, ↓dAppend_ap, ↓dUnp_ap, ↓unpF_ap, ↓unpT_ap, ↓dPar_ap, ↓dPar3_ap, ↓dParO2_ap, ↓dParO3_ap, ↓dParOD_ap, ↓dParDO_ap, ↓dBreak_ap, ↓dCont_ap, ↓oI_ap, ↓oI0_ap, ↓oNeg_ap, ↓oEq_ap, ↓oNe_ap, ↓oIxT_ap, ↓oIxL_ap, ↓oIx0_ap, ↓oIx1_ap, ↓oIsN_ap, ↓oNotN_ap, ↓oIsB_ap, ↓oNotB_ap, ↓oEqS_ap, ↓oCat_ap, ↓oCatA_ap, ↓oRepL_ap, ↓oLenT_ap, ↓oLenL_ap, ↓oAbs_ap, ↓oInt_ap, ↓oGcd_ap, ↓oListT_ap, ↓oListL_ap, ↓oTupT_ap, ↓oTupL_ap, ↓oMin_ap, ↓oSum_ap, ↓oMax_ap, ↓oMinL_ap, ↓oLcm4_ap, ↓allD_ap, ↓allD_nil, ↓setAll_ap, ↓setAll_nil, TV, LV, IV, BV, FV, atI_0, atI_1, atI_2, atI_3, List.map_cons, List.map_nil, List.length_cons, List.length_nil, List.set_cons_zero, List.set_cons_succ, List.getElem?_cons_zero, List.getElem?_cons_succ, List.cons_append, List.nil_append, Nat.reduceAdd, Nat.reduceSub, Nat.reduceLeDiff, List.replicate, Bool.false_eq_true, if_false, if_true, ite_true, ite_false, true_and, and_true, Bool.not_true, Bool.not_false, decide_true, decide_false, entry, isNone_fr, isNone_non, isNone_tup, isNone_list, isNone_int, isNone_bool, pId, pRev, pR3, pR4, pR5, ↓dCallK_ap]
    have three : ∀ (k : Nat) (v : PyData), ([.int 1, .int 2, .int (3 + (x : Int))] : List PyData)[k]? = some v → ∃ N : Nat, v = .int (N : Int) ∧ 1 ≤ N ∧ N ≤ 11 := by
      intro k v hv
      have mm := List.mem_of_getElem? hv
      simp only [List.mem_cons, List.not_mem_nil, or_false] at mm
      rcases mm with mm | mm | mm
      · exact ⟨1, mm, by omega, by omega⟩
      · exact ⟨2, mm, by omega, by omega⟩
      · exact ⟨3 + x, by rw [mm]; congr 1, by omega, by omega⟩
    refine ⟨fun i env mm => mm = m + 2 + 1 ∧ ∃ o2 o4, env = [none, some .draws, o2, some (FV c), o4, o5, o6, o7, o8], ⟨rfl, _, _, rfl⟩, ?_, ?_⟩
    · rintro i v env mm hv ⟨rfl, o2, o4, rfl⟩
      obtain ⟨N, rfl, h1, hN⟩ := three i v hv
      unfold t_law_b1
      rw [dIfS_ap]
      simp only [↓oOdd_ap, ↓oHalf_ap, ↓dAsg2_ap, ↓dTruL_ap, ↓dCatOwn_ap, ↓oRepT_ap, ↓dParDX_ap, ↓dVar_ap, ↓dC_ap, ↓dOp_ap, ↓dUn_ap, ↓dCB_ap, ↓dCall_ap, ↓dCallId_ap, ↓dNil_ap, ↓dCons_ap, ↓dTup_ap, ↓dLst_ap, ↓dTest_ap, ↓dNot_ap, ↓dAnd_ap, ↓dOr_ap, ↓dIf_ap, ↓dOrV_ap, ↓dNotV_ap, ↓dChain_ap, ↓dChain3_ap, ↓dTy_ap, ↓dIsi_ap, ↓dNoPart_ap, ↓dPart_ap, ↓dSliceL_ap, ↓dSliceA_ap, ↓dPeekT_ap, ↓dPeekI_ap, ↓dYes_ap, ↓dNext_ap, ↓dSeq_ap, ↓dRet_ap, ↓dRetN_ap, ↓dDrop_ap, ↓dAsg_ap, ↓dAsgOwn_ap, ↓dFreeze_ap, ↓dAppend_ap, ↓dUnp_ap, ↓unpF_ap, ↓unpT_ap, ↓dPar_ap, ↓dPar3_ap, ↓dParO2_ap, ↓dParO3_ap, ↓dParOD_ap, ↓dParDO_ap, ↓dBreak_ap, ↓dCont_ap, ↓oI_ap, ↓oI0_ap, ↓oNeg_ap, ↓oEq_ap, ↓oNe_ap, ↓oIxT_ap, ↓oIxL_ap, ↓oIx0_ap, ↓oIx1_ap, ↓oIsN_ap, ↓oNotN_ap, ↓oIsB_ap, ↓oNotB_ap, ↓oEqS_ap, ↓oCat_ap, ↓oCatA_ap, ↓oRepL_ap, ↓oLenT_ap, ↓oLenL_ap, ↓oAbs_ap, ↓oInt_ap, ↓oGcd_ap, ↓oListT_ap, ↓oListL_ap, ↓oTupT_ap, ↓oTupL_ap, ↓oMin_ap, ↓oSum_ap, ↓oMax_ap, ↓oMinL_ap, ↓oLcm4_ap, ↓allD_ap, ↓allD_nil, ↓setAll_ap, ↓setAll_nil, TV, LV, IV, BV, FV, atI_0, atI_1, atI_2, atI_3, List.map_cons, List.map_nil, List.length_cons, List.length_nil, List.set_cons_zero, List.set_cons_succ, List.getElem?_cons_zero, List.getElem?_cons_succ, List.cons_append, List.nil_append, Nat.reduceAdd, Nat.reduceSub, Nat.reduceLeDiff, List.replicate, Bool.false_eq_true, if_false, if_true, ite_true, ite_false, true_and, and_true, Bool.not_true, Bool.not_false, decide_true, decide_false, entry, isNone_fr, isNone_non, isNone_tup, isNone_list, isNone_int, isNone_bool, pId, pRev, pR3, pR4, pR5, ↓dCallK_ap, ↓e__law_right]
      exact ⟨K, h1, hN, _, _, rfl⟩
    · rintro env mm ⟨rfl, o2, o4, rfl⟩
      have z13 := cov_sz0 C zc (N := 13) (by decide)
      have z12 := cov_sz0 C zc (N := 12) (by decide)
      have zw := lenE_sz13 C zc (N := 13) (by decide) (by decide)
      have g : cntG 13 13 = 12 := by decide +kernel
      have e13 : ((27 : Int) - 14).toNat = 13 := rfl
      have ed : covQ c 13 - covQ c 12 = lenE c 13 * ((12 : Int) : Rat) := by
        show covQ c 12 + (((cntG 13 13 : Nat) : Int) : Rat) * lenE c 13 - covQ c 12 = _
        rw [g]
        have : (((12 : Nat) : Int) : Rat) = ((12 : Int) : Rat) := rfl
        rw [this]
        grind
      simp only [↓oOdd_ap, ↓oHalf_ap, ↓dAsg2_ap, ↓dTruL_ap, ↓dCatOwn_ap, ↓oRepT_ap, ↓dParDX_ap, ↓dVar_ap, ↓dC_ap, ↓dOp_ap, ↓dUn_ap, ↓dCB_ap, ↓dCall_ap, ↓dCallId_ap, ↓dNil_ap, ↓dCons_ap, ↓dTup_ap, ↓dLst_ap, ↓dTest_ap, ↓dNot_ap, ↓dAnd_ap, ↓dOr_ap, ↓dIf_ap, ↓dOrV_ap, ↓dNotV_ap, ↓dChain_ap, ↓dChain3_ap, ↓dTy_ap, ↓dIsi_ap, ↓dNoPart_ap, ↓dPart_ap, ↓dSliceL_ap, ↓dSliceA_ap, ↓dPeekT_ap, ↓dPeekI_ap, ↓dYes_ap, ↓dNext_ap, ↓dSeq_ap, ↓dRet_ap, ↓dRetN_ap, ↓dDrop_ap, ↓dAsg_ap, ↓dAsgOwn_ap, ↓dFreeze_ap, ↓dAppend_ap, ↓dUnp_ap, ↓unpF_ap, ↓unpT_ap, ↓dPar_ap, ↓dPar3_ap, ↓dParO2_ap, ↓dParO3_ap, ↓dParOD_ap, ↓dParDO_ap, ↓dBreak_ap, ↓dCont_ap, ↓oI_ap, ↓oI0_ap, ↓oNeg_ap, ↓oEq_ap, ↓oNe_ap, ↓oIxT_ap, ↓oIxL_ap, ↓oIx0_ap, ↓oIx1_ap, ↓oIsN_ap, ↓oNotN_ap, ↓oIsB_ap, ↓oNotB_ap, ↓oEqS_ap, ↓oCat_ap, ↓oCatA_ap, ↓oRepL_ap, ↓oLenT_ap, ↓oLenL_ap, ↓oAbs_ap, ↓oInt_ap, ↓oGcd_ap, ↓oListT_ap, ↓oListL_ap, ↓oTupT_ap, ↓oTupL_ap, ↓oMin_ap, ↓oSum_ap, ↓oMax_ap, ↓oMinL_ap, ↓oLcm4_ap, ↓allD_ap, ↓allD_nil, ↓setAll_ap, ↓setAll_nil, TV, LV, IV, BV, FV, atI_0, atI_1, atI_2, atI_3, List.map_cons, List.map_nil, List.length_cons, List.length_nil, List.set_cons_zero, List.set_cons_succ, List.getElem?_cons_zero, List.getElem?_cons_succ, List.cons_append, List.nil_append, Nat.reduceAdd, Nat.reduceSub, Nat.reduceLeDiff, List.replicate, Bool.false_eq_true, if_false, if_true, ite_true, ite_false, true_and, and_true, Bool.not_true, Bool.not_false, decide_true, decide_false, entry, isNone_fr, isNone_non, isNone_tup, isNone_list, isNone_int, isNone_bool, pId, pRev, pR3, pR4, pR5, ↓dCallK_ap]
      refine ⟨c, 13, rfl, C, zc, by decide, by decide, ?_⟩
      simp only [↓oOdd_ap, ↓oHalf_ap, ↓dAsg2_ap, ↓dTruL_ap, ↓dCatOwn_ap, ↓oRepT_ap, ↓dParDX_ap, ↓dVar_ap, ↓dC_ap, ↓dOp_ap, ↓dUn_ap, ↓dCB_ap, ↓dCall_ap, ↓dCallId_ap, ↓dNil_ap, ↓dCons_ap, ↓dTup_ap, ↓dLst_ap, ↓dTest_ap, ↓dNot_ap, ↓dAnd_ap, ↓dOr_ap, ↓dIf_ap, ↓dOrV_ap, ↓dNotV_ap, ↓dChain_ap, ↓dChain3_ap, ↓dTy_ap, ↓dIsi_ap, ↓dNoPart_ap, ↓dPart_ap, ↓dSliceL_ap, ↓dSliceA_ap, ↓dPeekT_ap, ↓dPeekI_ap, ↓dYes_ap, ↓dNext_ap, ↓dSeq_ap, ↓dRet_ap, ↓dRetN_ap, ↓dDrop_ap, ↓dAsg_ap, ↓dAsgOwn_ap, ↓dFreeze_ap, ↓dAppend_ap, ↓dUnp_ap, ↓unpF_ap, ↓unpT_ap, ↓dPar_ap, ↓dPar3_ap, ↓dParO2_ap, ↓dParO3_ap, ↓dParOD_ap, ↓dParDO_ap, ↓dBreak_ap, ↓dCont_ap, ↓oI_ap, ↓oI0_ap, ↓oNeg_ap, ↓oEq_ap, ↓oNe_ap, ↓oIxT_ap, ↓oIxL_ap, ↓oIx0_ap, ↓oIx1_ap, ↓oIsN_ap, ↓oNotN_ap, ↓oIsB_ap, ↓oNotB_ap, ↓oEqS_ap, ↓oCat_ap, ↓oCatA_ap, ↓oRepL_ap, ↓oLenT_ap, ↓oLenL_ap, ↓oAbs_ap, ↓oInt_ap, ↓oGcd_ap, ↓oListT_ap, ↓oListL_ap, ↓oTupT_ap, ↓oTupL_ap, ↓oMin_ap, ↓oSum_ap, ↓oMax_ap, ↓oMinL_ap, ↓oLcm4_ap, ↓allD_ap, ↓allD_nil, ↓setAll_ap, ↓setAll_nil, TV, LV, IV, BV, FV, atI_0, atI_1, atI_2, atI_3, List.map_cons, List.map_nil, List.length_cons, List.length_nil, List.set_cons_zero, List.set_cons_succ, List.getElem?_cons_zero, List.getElem?_cons_succ, List.cons_append, List.nil_append, Nat.reduceAdd, Nat.reduceSub, Nat.reduceLeDiff, List.replicate, Bool.false_eq_true, if_false, if_true, ite_true, ite_false, true_and, and_true, Bool.not_true, Bool.not_false, decide_true, decide_false, entry, isNone_fr, isNone_non, isNone_tup, isNone_list, isNone_int, isNone_bool, pId, pRev, pR3, pR4, pR5, ↓dCallK_ap, dLcR2]
      refine ⟨by decide, ⟨by decide, by decide, by decide, by decide⟩, fun i acc m' => m' = m + 2 + 1 ∧ acc.length = cntG 13 i, ⟨rfl, rfl⟩, fun i hi => ?_, fun acc m' ha => ?_⟩
      · rintro acc m' ⟨rfl, ha⟩
        have hi' : i < 13 := by rw [e13] at hi; exact hi
        have es : cntG 13 (i + 1) = cntG 13 i + (if Nat.gcd (i + 1) 13 = 1 then 1 else 0) := rfl
        simp only [↓oOdd_ap, ↓oHalf_ap, ↓dAsg2_ap, ↓dTruL_ap, ↓dCatOwn_ap, ↓oRepT_ap, ↓dParDX_ap, ↓dVar_ap, ↓dC_ap, ↓dOp_ap, ↓dUn_ap, ↓dCB_ap, ↓dCall_ap, ↓dCallId_ap, ↓dNil_ap, ↓dCons_ap, ↓dTup_ap, ↓dLst_ap, ↓dTest_ap, ↓dNot_ap, ↓dAnd_ap, ↓dOr_ap, ↓dIf_ap, ↓dOrV_ap, ↓dNotV_ap, ↓dChain_ap, ↓dChain3_ap, ↓dTy_ap, ↓dIsi_ap, ↓dNoPart_ap, ↓dPart_ap, ↓dSliceL_ap, ↓dSliceA_ap, ↓dPeekT_ap, ↓dPeekI_ap, ↓dYes_ap, ↓dNext_ap, ↓dSeq_ap, ↓dRet_ap, ↓dRetN_ap, ↓dDrop_ap, ↓dAsg_ap, ↓dAsgOwn_ap, ↓dFreeze_ap, ↓dAppend_ap, ↓dUnp_ap, ↓unpF_ap, ↓unpT_ap, ↓dPar_ap, ↓dPar3_ap, ↓dParO2_ap, ↓dParO3_ap, ↓dParOD_ap, ↓dParDO_ap, ↓dBreak_ap, ↓dCont_ap, ↓oI_ap, ↓oI0_ap, ↓oNeg_ap, ↓oEq_ap, ↓oNe_ap, ↓oIxT_ap, ↓oIxL_ap, ↓oIx0_ap, ↓oIx1_ap, ↓oIsN_ap, ↓oNotN_ap, ↓oIsB_ap, ↓oNotB_ap, ↓oEqS_ap, ↓oCat_ap, ↓oCatA_ap, ↓oRepL_ap, ↓oLenT_ap, ↓oLenL_ap, ↓oAbs_ap, ↓oInt_ap, ↓oGcd_ap, ↓oListT_ap, ↓oListL_ap, ↓oTupT_ap, ↓oTupL_ap, ↓oMin_ap, ↓oSum_ap, ↓oMax_ap, ↓oMinL_ap, ↓oLcm4_ap, ↓allD_ap, ↓allD_nil, ↓setAll_ap, ↓setAll_nil, TV, LV, IV, BV, FV, atI_0, atI_1, atI_2, atI_3, List.map_cons, List.map_nil, List.length_cons, List.length_nil, List.set_cons_zero, List.set_cons_succ, List.getElem?_cons_zero, List.getElem?_cons_succ, List.cons_append, List.nil_append, Nat.reduceAdd, Nat.reduceSub, Nat.reduceLeDiff, List.replicate, Bool.false_eq_true, if_false, if_true, ite_true, ite_false, true_and, and_true, Bool.not_true, Bool.not_false, decide_true, decide_false, entry, isNone_fr, isNone_non, isNone_tup, isNone_list, isNone_int, isNone_bool, pId, pRev, pR3, pR4, pR5, ↓dCallK_ap]
        refine ⟨_, _, rfl, by decide, B.mono (k := 20) (B.of (by omega)) (by decide), B.mono (k := 20) (B.of (by decide)) (by decide), ?_⟩
        rw [gcd_13]
        simp only [↓oOdd_ap, ↓oHalf_ap, ↓dAsg2_ap, ↓dTruL_ap, ↓dCatOwn_ap, ↓oRepT_ap, ↓dParDX_ap, ↓dVar_ap, ↓dC_ap, ↓dOp_ap, ↓dUn_ap, ↓dCB_ap, ↓dCall_ap, ↓dCallId_ap, ↓dNil_ap, ↓dCons_ap, ↓dTup_ap, ↓dLst_ap, ↓dTest_ap, ↓dNot_ap, ↓dAnd_ap, ↓dOr_ap, ↓dIf_ap, ↓dOrV_ap, ↓dNotV_ap, ↓dChain_ap, ↓dChain3_ap, ↓dTy_ap, ↓dIsi_ap, ↓dNoPart_ap, ↓dPart_ap, ↓dSliceL_ap, ↓dSliceA_ap, ↓dPeekT_ap, ↓dPeekI_ap, ↓dYes_ap, ↓dNext_ap, ↓dSeq_ap, ↓dRet_ap, ↓dRetN_ap, ↓dDrop_ap, ↓dAsg_ap, ↓dAsgOwn_ap, ↓dFreeze_ap, ↓dAppend_ap, ↓dUnp_ap, ↓unpF_ap, ↓unpT_ap, ↓dPar_ap, ↓dPar3_ap, ↓dParO2_ap, ↓dParO3_ap, ↓dParOD_ap, ↓dParDO_ap, ↓dBreak_ap, ↓dCont_ap, ↓oI_ap, ↓oI0_ap, ↓oNeg_ap, ↓oEq_ap, ↓oNe_ap, ↓oIxT_ap, ↓oIxL_ap, ↓oIx0_ap, ↓oIx1_ap, ↓oIsN_ap, ↓oNotN_ap, ↓oIsB_ap, ↓oNotB_ap, ↓oEqS_ap, ↓oCat_ap, ↓oCatA_ap, ↓oRepL_ap, ↓oLenT_ap, ↓oLenL_ap, ↓oAbs_ap, ↓oInt_ap, ↓oGcd_ap, ↓oListT_ap, ↓oListL_ap, ↓oTupT_ap, ↓oTupL_ap, ↓oMin_ap, ↓oSum_ap, ↓oMax_ap, ↓oMinL_ap, ↓oLcm4_ap, ↓allD_ap, ↓allD_nil, ↓setAll_ap, ↓setAll_nil, TV, LV, IV, BV, FV, atI_0, atI_1, atI_2, atI_3, List.map_cons, List.map_nil, List.length_cons, List.length_nil, List.set_cons_zero, List.set_cons_succ, List.getElem?_cons_zero, List.getElem?_cons_succ, List.cons_append, List.nil_append, Nat.reduceAdd, Nat.reduceSub, Nat.reduceLeDiff, List.replicate, Bool.false_eq_true, if_false, if_true, ite_true, ite_false, true_and, and_true, Bool.not_true, Bool.not_false, decide_true, decide_false, entry, isNone_fr, isNone_non, isNone_tup, isNone_list, isNone_int, isNone_bool, pId, pRev, pR3, pR4, pR5, ↓dCallK_ap, shaped_int, eqv_int, beq_iff_eq]
        by_cases hg : Nat.gcd (i + 1) 13 = 1
        · rw [if_pos hg] at es
          rw [if_pos (by omega), es, List.length_append, ha]
          rfl
        · rw [if_neg hg] at es
          rw [if_neg (by omega), es, ha]
          rfl
      · obtain ⟨rfl, ha⟩ := ha
        rw [e13, g] at ha
        have e12 : ((12 : Nat) : Int) = 12 := rfl
        simp only [↓oOdd_ap, ↓oHalf_ap, ↓dAsg2_ap, ↓dTruL_ap, ↓dCatOwn_ap, ↓oRepT_ap, ↓dParDX_ap, ↓dVar_ap, ↓dC_ap, ↓dOp_ap, ↓dUn_ap, ↓dCB_ap, ↓dCall_ap, ↓dCallId_ap, ↓dNil_ap, ↓dCons_ap, ↓dTup_ap, ↓dLst_ap, ↓dTest_ap, ↓dNot_ap, ↓dAnd_ap, ↓dOr_ap, ↓dIf_ap, ↓dOrV_ap, ↓dNotV_ap, ↓dChain_ap, ↓dChain3_ap, ↓dTy_ap, ↓dIsi_ap, ↓dNoPart_ap, ↓dPart_ap, ↓dSliceL_ap, ↓dSliceA_ap, ↓dPeekT_ap, ↓dPeekI_ap, ↓dYes_ap, ↓dNext_ap, ↓dSeq_ap, ↓dRet_ap, ↓dRetN_ap, ↓dDrop_ap, ↓dAsg_ap, ↓dAsgOwn_ap, ↓dFreeze_ap, ↓dAppend_ap, ↓dUnp_ap, ↓unpF_ap, ↓unpT_ap, ↓dPar_ap, ↓dPar3_ap, ↓dParO2_ap, ↓dParO3_ap, ↓dParOD_ap, ↓dParDO_ap, ↓dBreak_ap, ↓dCont_ap, ↓oI_ap, ↓oI0_ap, ↓oNeg_ap, ↓oEq_ap, ↓oNe_ap, ↓oIxT_ap, ↓oIxL_ap, ↓oIx0_ap, ↓oIx1_ap, ↓oIsN_ap, ↓oNotN_ap, ↓oIsB_ap, ↓oNotB_ap, ↓oEqS_ap, ↓oCat_ap, ↓oCatA_ap, ↓oRepL_ap, ↓oLenT_ap, ↓oLenL_ap, ↓oAbs_ap, ↓oInt_ap, ↓oGcd_ap, ↓oListT_ap, ↓oListL_ap, ↓oTupT_ap, ↓oTupL_ap, ↓oMin_ap, ↓oSum_ap, ↓oMax_ap, ↓oMinL_ap, ↓oLcm4_ap, ↓allD_ap, ↓allD_nil, ↓setAll_ap, ↓setAll_nil, TV, LV, IV, BV, FV, atI_0, atI_1, atI_2, atI_3, List.map_cons, List.map_nil, List.length_cons, List.length_nil, List.set_cons_zero, List.set_cons_succ, List.getElem?_cons_zero, List.getElem?_cons_succ, List.cons_append, List.nil_append, Nat.reduceAdd, Nat.reduceSub, Nat.reduceLeDiff, List.replicate, Bool.false_eq_true, if_false, if_true, ite_true, ite_false, true_and, and_true, Bool.not_true, Bool.not_false, decide_true, decide_false, entry, isNone_fr, isNone_non, isNone_tup, isNone_list, isNone_int, isNone_bool, pId, pRev, pR3, pR4, pR5, ↓dCallK_ap, ha, e12, ↓fr_int_ap]
        refine ⟨c, 13, rfl, K, by decide, by decide, ?_⟩
        have zi : Sz 5 ((12 : Int) : Rat) := sz_int (k := 5) (B.of (by decide)) (by decide)
        simp only [↓oOdd_ap, ↓oHalf_ap, ↓dAsg2_ap, ↓dTruL_ap, ↓dCatOwn_ap, ↓oRepT_ap, ↓dParDX_ap, ↓dVar_ap, ↓dC_ap, ↓dOp_ap, ↓dUn_ap, ↓dCB_ap, ↓dCall_ap, ↓dCallId_ap, ↓dNil_ap, ↓dCons_ap, ↓dTup_ap, ↓dLst_ap, ↓dTest_ap, ↓dNot_ap, ↓dAnd_ap, ↓dOr_ap, ↓dIf_ap, ↓dOrV_ap, ↓dNotV_ap, ↓dChain_ap, ↓dChain3_ap, ↓dTy_ap, ↓dIsi_ap, ↓dNoPart_ap, ↓dPart_ap, ↓dSliceL_ap, ↓dSliceA_ap, ↓dPeekT_ap, ↓dPeekI_ap, ↓dYes_ap, ↓dNext_ap, ↓dSeq_ap, ↓dRet_ap, ↓dRetN_ap, ↓dDrop_ap, ↓dAsg_ap, ↓dAsgOwn_ap, ↓dFreeze_ap, ↓dAppend_ap, ↓dUnp_ap, ↓unpF_ap, ↓unpT_ap, ↓dPar_ap, ↓dPar3_ap, ↓dParO2_ap, ↓dParO3_ap, ↓dParOD_ap, ↓dParDO_ap, ↓dBreak_ap, ↓dCont_ap, ↓oI_ap, ↓oI0_ap, ↓oNeg_ap, ↓oEq_ap, ↓oNe_ap, ↓oIxT_ap, ↓oIxL_ap, ↓oIx0_ap, ↓oIx1_ap, ↓oIsN_ap, ↓oNotN_ap, ↓oIsB_ap, ↓oNotB_ap, ↓oEqS_ap, ↓oCat_ap, ↓oCatA_ap, ↓oRepL_ap, ↓oLenT_ap, ↓oLenL_ap, ↓oAbs_ap, ↓oInt_ap, ↓oGcd_ap, ↓oListT_ap, ↓oListL_ap, ↓oTupT_ap, ↓oTupL_ap, ↓oMin_ap, ↓oSum_ap, ↓oMax_ap, ↓oMinL_ap, ↓oLcm4_ap, ↓allD_ap, ↓allD_nil, ↓setAll_ap, ↓setAll_nil, TV, LV, IV, BV, FV, atI_0, atI_1, atI_2, atI_3, List.map_cons, List.map_nil, List.length_cons, List.length_nil, List.set_cons_zero, List.set_cons_succ, List.getElem?_cons_zero, List.getElem?_cons_succ, List.cons_append, List.nil_append, Nat.reduceAdd, Nat.reduceSub, Nat.reduceLeDiff, List.replicate, Bool.false_eq_true, if_false, if_true, ite_true, ite_false, true_and, and_true, Bool.not_true, Bool.not_false, decide_true, decide_false, entry, isNone_fr, isNone_non, isNone_tup, isNone_list, isNone_int, isNone_bool, pId, pRev, pR3, pR4, pR5, ↓dCallK_ap, ↓e__law_times]
        refine ⟨zw.mono (by decide), zi.mono (by decide), ?_⟩
        rw [dIfS_ap]
        simp only [↓oOdd_ap, ↓oHalf_ap, ↓dAsg2_ap, ↓dTruL_ap, ↓dCatOwn_ap, ↓oRepT_ap, ↓dParDX_ap, ↓dVar_ap, ↓dC_ap, ↓dOp_ap, ↓dUn_ap, ↓dCB_ap, ↓dCall_ap, ↓dCallId_ap, ↓dNil_ap, ↓dCons_ap, ↓dTup_ap, ↓dLst_ap, ↓dTest_ap, ↓dNot_ap, ↓dAnd_ap, ↓dOr_ap, ↓dIf_ap, ↓dOrV_ap, ↓dNotV_ap, ↓dChain_ap, ↓dChain3_ap, ↓dTy_ap, ↓dIsi_ap, ↓dNoPart_ap, ↓dPart_ap, ↓dSliceL_ap, ↓dSliceA_ap, ↓dPeekT_ap, ↓dPeekI_ap, ↓dYes_ap, ↓dNext_ap, ↓dSeq_ap, ↓dRet_ap, ↓dRetN_ap, ↓dDrop_ap, ↓dAsg_ap, ↓dAsgOwn_ap, ↓dFreeze_ap, ↓dAppend_ap, ↓dUnp_ap, ↓unpF_ap, ↓unpT_ap, ↓dPar_ap, ↓dPar3_ap, ↓dParO2_ap, ↓dParO3_ap, ↓dParOD_ap, ↓dParDO_ap, ↓dBreak_ap, ↓dCont_ap, ↓oI_ap, ↓oI0_ap, ↓oNeg_ap, ↓oEq_ap, ↓oNe_ap, ↓oIxT_ap, ↓oIxL_ap, ↓oIx0_ap, ↓oIx1_ap, ↓oIsN_ap, ↓oNotN_ap, ↓oIsB_ap, ↓oNotB_ap, ↓oEqS_ap, ↓oCat_ap, ↓oCatA_ap, ↓oRepL_ap, ↓oLenT_ap, ↓oLenL_ap, ↓oAbs_ap, ↓oInt_ap, ↓oGcd_ap, ↓oListT_ap, ↓oListL_ap, ↓oTupT_ap, ↓oTupL_ap, ↓oMin_ap, ↓oSum_ap, ↓oMax_ap, ↓oMinL_ap, ↓oLcm4_ap, ↓allD_ap, ↓allD_nil, ↓setAll_ap, ↓setAll_nil, TV, LV, IV, BV, FV, atI_0, atI_1, atI_2, atI_3, List.map_cons, List.map_nil, List.length_cons, List.length_nil, List.set_cons_zero, List.set_cons_succ, List.getElem?_cons_zero, List.getElem?_cons_succ, List.cons_append, List.nil_append, Nat.reduceAdd, Nat.reduceSub, Nat.reduceLeDiff, List.replicate, Bool.false_eq_true, if_false, if_true, ite_true, ite_false, true_and, and_true, Bool.not_true, Bool.not_false, decide_true, decide_false, entry, isNone_fr, isNone_non, isNone_tup, isNone_list, isNone_int, isNone_bool, pId, pRev, pR3, pR4, pR5, ↓dCallK_ap]
        refine ⟨c, 12, rfl, C, zc, by decide, by decide, ?_⟩
        simp only [↓oOdd_ap, ↓oHalf_ap, ↓dAsg2_ap, ↓dTruL_ap, ↓dCatOwn_ap, ↓oRepT_ap, ↓dParDX_ap, ↓dVar_ap, ↓dC_ap, ↓dOp_ap, ↓dUn_ap, ↓dCB_ap, ↓dCall_ap, ↓dCallId_ap, ↓dNil_ap, ↓dCons_ap, ↓dTup_ap, ↓dLst_ap, ↓dTest_ap, ↓dNot_ap, ↓dAnd_ap, ↓dOr_ap, ↓dIf_ap, ↓dOrV_ap, ↓dNotV_ap, ↓dChain_ap, ↓dChain3_ap, ↓dTy_ap, ↓dIsi_ap, ↓dNoPart_ap, ↓dPart_ap, ↓dSliceL_ap, ↓dSliceA_ap, ↓dPeekT_ap, ↓dPeekI_ap, ↓dYes_ap, ↓dNext_ap, ↓dSeq_ap, ↓dRet_ap, ↓dRetN_ap, ↓dDrop_ap, ↓dAsg_ap, ↓dAsgOwn_ap, ↓dFreeze_ap, ↓dAppend_ap, ↓dUnp_ap, ↓unpF_ap, ↓unpT_ap, ↓dPar_ap, ↓dPar3_ap, ↓dParO2_ap, ↓dParO3_ap, ↓dParOD_ap, ↓dParDO_ap, ↓dBreak_ap, ↓dCont_ap, ↓oI_ap, ↓oI0_ap, ↓oNeg_ap, ↓oEq_ap, ↓oNe_ap, ↓oIxT_ap, ↓oIxL_ap, ↓oIx0_ap, ↓oIx1_ap, ↓oIsN_ap, ↓oNotN_ap, ↓oIsB_ap, ↓oNotB_ap, ↓oEqS_ap, ↓oCat_ap, ↓oCatA_ap, ↓oRepL_ap, ↓oLenT_ap, ↓oLenL_ap, ↓oAbs_ap, ↓oInt_ap, ↓oGcd_ap, ↓oListT_ap, ↓oListL_ap, ↓oTupT_ap, ↓oTupL_ap, ↓oMin_ap, ↓oSum_ap, ↓oMax_ap, ↓oMinL_ap, ↓oLcm4_ap, ↓allD_ap, ↓allD_nil, ↓setAll_ap, ↓setAll_nil, TV, LV, IV, BV, FV, atI_0, atI_1, atI_2, atI_3, List.map_cons, List.map_nil, List.length_cons, List.length_nil, List.set_cons_zero, List.set_cons_succ, List.getElem?_cons_zero, List.getElem?_cons_succ, List.cons_append, List.nil_append, Nat.reduceAdd, Nat.reduceSub, Nat.reduceLeDiff, List.replicate, Bool.false_eq_true, if_false, if_true, ite_true, ite_false, true_and, and_true, Bool.not_true, Bool.not_false, decide_true, decide_false, entry, isNone_fr, isNone_non, isNone_tup, isNone_list, isNone_int, isNone_bool, pId, pRev, pR3, pR4, pR5, ↓dCallK_ap, ↓e__law_minus, ed, ↓e_like]
        refine ⟨z13.mono (by decide), z12.mono (by decide), tidy1 (zw.mul zi) (by decide), ?_⟩
        exact ⟨by omega, _, _, _, _, _, _, _, rfl⟩
  · rintro env m ⟨m0, o2, o3, o4, o5, o6, o7, o8, rfl⟩
    have f12 : PyData.tuple [.int 1, .int 2] = fr (1 / 2) := fr_of (by decide +kernel) (by decide +kernel)
    have f23 : PyData.tuple [.int 2, .int 3] = fr (2 / 3) := fr_of (by decide +kernel) (by decide +kernel)
    have z12 : Sz 4 (1 / 2 : Rat) := ⟨(B.of (by decide +kernel) : B 4 _), (B.of (by decide +kernel) : B 4 _)⟩
    have z23 : Sz 4 (2 / 3 : Rat) := ⟨(B.of (by decide +kernel) : B 4 _), (B.of (by decide +kernel) : B 4 _)⟩
    have C : Prt (1 / 2) := ⟨(z12.mono (by decide)).bd, by decide +kernel, by decide +kernel, by decide +kernel⟩
    have v1 : covQ (1 / 2) 1 = 1 / 2 := by decide +kernel
    have v2 : covQ (1 / 2) 2 = 2 / 3 := by decide +kernel
    simp only [↓oOdd_ap, ↓oHalf_ap, ↓dAsg2_ap, ↓dTruL_ap, ↓dCatOwn_ap, ↓oRepT_ap, ↓dParDX_ap, ↓dVar_ap, ↓dC_ap, ↓dOp_ap, ↓dUn_ap, ↓dCB_ap, ↓dCall_ap, ↓dCallId_ap, ↓dNil_ap, ↓dCons_ap, ↓dTup_ap, ↓dLst_ap, ↓dTest_ap, ↓dNot_ap, ↓dAnd_ap, ↓dOr_ap, ↓dIf_ap, ↓dOrV_ap, ↓dNotV_ap, ↓dChain_ap, ↓dChain3_ap, ↓dTy_ap, ↓dIsi_ap, ↓dNoPart_ap, ↓dPart_ap, ↓dSliceL_ap, ↓dSliceA_ap, ↓dPeekT_ap, ↓dPeekI_ap, ↓dYes_ap, ↓dNext_ap, ↓dSeq_ap, ↓dRet_ap, ↓dRetN_ap, ↓dDrop_ap, ↓dAsg_ap, ↓dAsgOwn_ap, ↓dFreeze_ap, ↓dAppend_ap, ↓dUnp_ap, ↓unpF_ap, ↓unpT_ap, ↓dPar_ap, ↓dPar3_ap, ↓dParO2_ap, ↓dParO3_ap, ↓dParOD_ap, ↓dParDO_ap, ↓dBreak_ap, ↓dCont_ap, ↓oI_ap, ↓oI0_ap, ↓oNeg_ap, ↓oEq_ap, ↓oNe_ap, ↓oIxT_ap, ↓oIxL_ap, ↓oIx0_ap, ↓oIx1_ap, ↓oIsN_ap, ↓oNotN_ap, ↓oIsB_ap, ↓oNotB_ap, ↓oEqS_ap, ↓oCat_ap, ↓oCatA_ap, ↓oRepL_ap, ↓oLenT_ap, ↓oLenL_ap, ↓oAbs_ap, ↓oInt_ap, ↓oGcd_ap, ↓oListT_ap, ↓oListL_ap, ↓oTupT_ap, ↓oTupL_ap, ↓oMin_ap, ↓oSum_ap, ↓oMax_ap, ↓oMinL_ap, ↓oLcm4_ap, ↓allD_ap, ↓allD_nil, ↓setAll_ap, ↓setAll_nil, TV, LV, IV, BV, FV, atI_0, atI_1, atI_2, atI_3, List.map_cons, List.map_nil, List.length_cons, List.length_nil, List.set_cons_zero, List.set_cons_succ, List.getElem?_cons_zero, List.getElem?_cons_succ, List.cons_append, List.nil_append, Nat.reduceAdd, Nat.reduceSub, Nat.reduceLeDiff, List.replicate, Bool.false_eq_true, if_false, if_true, ite_true, ite_false, true_and, and_true, Bool.not_true, Bool.not_false, decide_true, decide_false, entry, isNone_fr, isNone_non, isNone_tup, isNone_list, isNone_int, isNone_bool, pId, pRev, pR3, pR4, pR5, ↓dCallK_ap, ↓f12, ↓f23]
    refine ⟨1 / 2, 1, rfl, C, z12, by decide, by decide, ?_⟩
    simp only [↓oOdd_ap, ↓oHalf_ap, ↓dAsg2_ap, ↓dTruL_ap, ↓dCatOwn_ap, ↓oRepT_ap, ↓dParDX_ap, ↓dVar_ap, ↓dC_ap, ↓dOp_ap, ↓dUn_ap, ↓dCB_ap, ↓dCall_ap, ↓dCallId_ap, ↓dNil_ap, ↓dCons_ap, ↓dTup_ap, ↓dLst_ap, ↓dTest_ap, ↓dNot_ap, ↓dAnd_ap, ↓dOr_ap, ↓dIf_ap, ↓dOrV_ap, ↓dNotV_ap, ↓dChain_ap, ↓dChain3_ap, ↓dTy_ap, ↓dIsi_ap, ↓dNoPart_ap, ↓dPart_ap, ↓dSliceL_ap, ↓dSliceA_ap, ↓dPeekT_ap, ↓dPeekI_ap, ↓dYes_ap, ↓dNext_ap, ↓dSeq_ap, ↓dRet_ap, ↓dRetN_ap, ↓dDrop_ap, ↓dAsg_ap, ↓dAsgOwn_ap, ↓dFreeze_ap, ↓dAppend_ap, ↓dUnp_ap, ↓unpF_ap, ↓unpT_ap, ↓dPar_ap, ↓dPar3_ap, ↓dParO2_ap, ↓dParO3_ap, ↓dParOD_ap, ↓dParDO_ap, ↓dBreak_ap, ↓dCont_ap, ↓oI_ap, ↓oI0_ap, ↓oNeg_ap, ↓oEq_ap, ↓oNe_ap, ↓oIxT_ap, ↓oIxL_ap, ↓oIx0_ap, ↓oIx1_ap, ↓oIsN_ap, ↓oNotN_ap, ↓oIsB_ap, ↓oNotB_ap, ↓oEqS_ap, ↓oCat_ap, ↓oCatA_ap, ↓oRepL_ap, ↓oLenT_ap, ↓oLenL_ap, ↓oAbs_ap, ↓oInt_ap, ↓oGcd_ap, ↓oListT_ap, ↓oListL_ap, ↓oTupT_ap, ↓oTupL_ap, ↓oMin_ap, ↓oSum_ap, ↓oMax_ap, ↓oMinL_ap, ↓oLcm4_ap, ↓allD_ap, ↓allD_nil, ↓setAll_ap, ↓setAll_nil, TV, LV, IV, BV, FV, atI_0, atI_1, atI_2, atI_3, List.map_cons, List.map_nil, List.length_cons, List.length_nil, List.set_cons_zero, List.set_cons_succ, List.getElem?_cons_zero, List.getElem?_cons_succ, List.cons_append, List.nil_append, Nat.reduceAdd, Nat.reduceSub, Nat.reduceLeDiff, List.replicate, Bool.false_eq_true, if_false, if_true, ite_true, ite_false, true_and, and_true, Bool.not_true, Bool.not_false, decide_true, decide_false, entry, isNone_fr, isNone_non, isNone_tup, isNone_list, isNone_int, isNone_bool, pId, pRev, pR3, pR4, pR5, ↓dCallK_ap, ↓f12, ↓f23]
    refine ⟨1 / 2, 2, rfl, C, z12, by decide, by decide, ?_⟩
    rw [v1, v2]
    simp only [↓oOdd_ap, ↓oHalf_ap, ↓dAsg2_ap, ↓dTruL_ap, ↓dCatOwn_ap, ↓oRepT_ap, ↓dParDX_ap, ↓dVar_ap, ↓dC_ap, ↓dOp_ap, ↓dUn_ap, ↓dCB_ap, ↓dCall_ap, ↓dCallId_ap, ↓dNil_ap, ↓dCons_ap, ↓dTup_ap, ↓dLst_ap, ↓dTest_ap, ↓dNot_ap, ↓dAnd_ap, ↓dOr_ap, ↓dIf_ap, ↓dOrV_ap, ↓dNotV_ap, ↓dChain_ap, ↓dChain3_ap, ↓dTy_ap, ↓dIsi_ap, ↓dNoPart_ap, ↓dPart_ap, ↓dSliceL_ap, ↓dSliceA_ap, ↓dPeekT_ap, ↓dPeekI_ap, ↓dYes_ap, ↓dNext_ap, ↓dSeq_ap, ↓dRet_ap, ↓dRetN_ap, ↓dDrop_ap, ↓dAsg_ap, ↓dAsgOwn_ap, ↓dFreeze_ap, ↓dAppend_ap, ↓dUnp_ap, ↓unpF_ap, ↓unpT_ap, ↓dPar_ap, ↓dPar3_ap, ↓dParO2_ap, ↓dParO3_ap, ↓dParOD_ap, ↓dParDO_ap, ↓dBreak_ap, ↓dCont_ap, ↓oI_ap, ↓oI0_ap, ↓oNeg_ap, ↓oEq_ap, ↓oNe_ap, ↓oIxT_ap, ↓oIxL_ap, ↓oIx0_ap, ↓oIx1_ap, ↓oIsN_ap, ↓oNotN_ap, ↓oIsB_ap, ↓oNotB_ap, ↓oEqS_ap, ↓oCat_ap, ↓oCatA_ap, ↓oRepL_ap, ↓oLenT_ap, ↓oLenL_ap, ↓oAbs_ap, ↓oInt_ap, ↓oGcd_ap, ↓oListT_ap, ↓oListL_ap, ↓oTupT_ap, ↓oTupL_ap, ↓oMin_ap, ↓oSum_ap, ↓oMax_ap, ↓oMinL_ap, ↓oLcm4_ap, ↓allD_ap, ↓allD_nil, ↓setAll_ap, ↓setAll_nil, TV, LV, IV, BV, FV, atI_0, atI_1, atI_2, atI_3, List.map_cons, List.map_nil, List.length_cons, List.length_nil, List.set_cons_zero, List.set_cons_succ, List.getElem?_cons_zero, List.getElem?_cons_succ, List.cons_append, List.nil_append, Nat.reduceAdd, Nat.reduceSub, Nat.reduceLeDiff, List.replicate, Bool.false_eq_true, if_false, if_true, ite_true, ite_false, true_and, and_true, Bool.not_true, Bool.not_false, decide_true, decide_false, entry, isNone_fr, isNone_non, isNone_tup, isNone_list, isNone_int, isNone_bool, pId, pRev, pR3, pR4, pR5, ↓dCallK_ap, ↓e_like]
    have ty : seqD (.list [fr (1 / 2), fr (2 / 3)]) = true ∧ Tidy (.list [fr (1 / 2), fr (2 / 3)]) := by
      refine ⟨rfl, ⟨tame_fr (z12.mono (show _ ≤ 1900 by decide)) (Nat.le_refl _), tame_fr (z23.mono (show _ ≤ 1900 by decide)) (Nat.le_refl _), trivial⟩, ?_, ?_⟩
      · simp only [PyData.bulk, PyData.bulkAll, fr]; decide
      · simp only [PyData.depth, PyData.depthAll, fr]; decide
    first | exact ⟨ty, rfl⟩ | exact ty | exact ⟨by decide, ty, rfl⟩
end Sx

set_option Elab.async false
set_option linter.all false
set_option maxRecDepth 100000
set_option maxHeartbeats 4000000
namespace Lw
open PySem PySem.Spec L2 Sx
open PyProof.Rows hiding St
def top (i : Nat) : Stmt := PySem.Challenge.pw_sawrounds_k23_whole_how_much_is_covered.main.body.getD i (.Pass ⟨0, 0, 0, 0⟩)
/-- what the top has left -/
structure Tx (K : PySem.W.Frag) (mg : Str → Option Value) (a : Nat → Addr) (fd : Nat → FuncData) : Prop where
  n_abs : mg "abs" = none
  n_int : mg "int" = none
  n_len : mg "len" = none
  n_list : mg "list" = none
  n_range : mg "range" = none
  n_repr : mg "repr" = none
  n_tuple : mg "tuple" = none
  n_type : mg "type" = none
  m_gcd : mg "gcd" = some (.builtin "math.gcd")
  c_MOST : ∃ t, mg "MOST" = some (.int 1000000000000000000000000000000 t)
  c_MOST_BELOW_OF_MEAN : ∃ t, mg "MOST_BELOW_OF_MEAN" = some (.int 300 t)
  c_MOST_BELOW_OF_PART : ∃ t, mg "MOST_BELOW_OF_PART" = some (.int 1000 t)
  F__law_begin : Fun K "_law_begin" "_law_begin" (top 25) (a 25) (fd 25)
  g__law_begin : mg "_law_begin" = some (.ref (a 25))
  b__law_begin : Binds K (fd 25) ["script"] []
  F__law_like : Fun K "_law_like" "_law_like" (top 38) (a 38) (fd 38)
  g__law_like : mg "_law_like" = some (.ref (a 38))
  b__law_like : Binds K (fd 38) ["got", "due"] []
  F__law_divisor : Fun K "_law_divisor" "_law_divisor" (top 28) (a 28) (fd 28)
  g__law_divisor : mg "_law_divisor" = some (.ref (a 28))
  b__law_divisor : Binds K (fd 28) ["one", "two"] []
  F__law_share : Fun K "_law_share" "_law_share" (top 29) (a 29) (fd 29)
  g__law_share : mg "_law_share" = some (.ref (a 29))
  b__law_share : Binds K (fd 29) ["above", "below"] []
  F__law_mixed : Fun K "_law_mixed" "_law_mixed" (top 24) (a 24) (fd 24)
  g__law_mixed : mg "_law_mixed" = some (.ref (a 24))
  b__law_mixed : Binds K (fd 24) ["cell", "k"] []
  F__law_draw : Fun K "_law_draw" "_law_draw" (top 26) (a 26) (fd 26)
  g__law_draw : mg "_law_draw" = some (.ref (a 26))
  b__law_draw : Binds K (fd 26) ["draws_so", "limit"] []
  F__law_cut : Fun K "_law_cut" "_law_cut" (top 27) (a 27) (fd 27)
  g__law_cut : mg "_law_cut" = some (.ref (a 27))
  b__law_cut : Binds K (fd 27) ["draws_so"] []
  F__law_times : Fun K "_law_times" "_law_times" (top 32) (a 32) (fd 32)
  g__law_times : mg "_law_times" = some (.ref (a 32))
  b__law_times : Binds K (fd 32) ["one", "two"] []
  F_is_integer : Fun K "is_integer" "is_integer" (top 10) (a 10) (fd 10)
  g_is_integer : mg "is_integer" = some (.ref (a 10))
  b_is_integer : Binds K (fd 10) ["value"] []
  F_is_fraction : Fun K "is_fraction" "is_fraction" (top 11) (a 11) (fd 11)
  g_is_fraction : mg "is_fraction" = some (.ref (a 11))
  b_is_fraction : Binds K (fd 11) ["value"] []
  F_is_part : Fun K "is_part" "is_part" (top 16) (a 16) (fd 16)
  g_is_part : mg "is_part" = some (.ref (a 16))
  b_is_part : Binds K (fd 16) ["value"] []
  F_need_part : Fun K "need_part" "need_part" (top 17) (a 17) (fd 17)
  g_need_part : mg "need_part" = some (.ref (a 17))
  b_need_part : Binds K (fd 17) ["part"] []
  F_need_number : Fun K "need_number" "need_number" (top 12) (a 12) (fd 12)
  g_need_number : mg "need_number" = some (.ref (a 12))
  b_need_number : Binds K (fd 12) ["value", "least", "most"] []
  F_total_of : Fun K "total_of" "total_of" (top 4) (a 4) (fd 4)
  g_total_of : mg "total_of" = some (.ref (a 4))
  b_total_of : Binds K (fd 4) ["numbers"] []
  F_reduced : Fun K "reduced" "reduced" (top 2) (a 2) (fd 2)
  g_reduced : mg "reduced" = some (.ref (a 2))
  b_reduced : Binds K (fd 2) ["above", "below"] []
  F_power : Fun K "power" "power" (top 3) (a 3) (fd 3)
  g_power : mg "power" = some (.ref (a 3))
  b_power : Binds K (fd 3) ["base", "number"] []
  F_powers_apart : Fun K "powers_apart" "powers_apart" (top 19) (a 19) (fd 19)
  g_powers_apart : mg "powers_apart" = some (.ref (a 19))
  b_powers_apart : Binds K (fd 19) ["part", "number"] []
  F_length_of : Fun K "length_of" "length_of" (top 20) (a 20) (fd 20)
  g_length_of : mg "length_of" = some (.ref (a 20))
  b_length_of : Binds K (fd 20) ["part", "below"] []
  F_lengths_of : Fun K "lengths_of" "lengths_of" (top 21) (a 21) (fd 21)
  g_lengths_of : mg "lengths_of" = some (.ref (a 21))
  b_lengths_of : Binds K (fd 21) ["part", "below"] []
  F_covered : Fun K "covered" "covered" (top 22) (a 22) (fd 22)
  g_covered : mg "covered" = some (.ref (a 22))
  b_covered : Binds K (fd 22) ["part", "most"] []
  F__law_minus : Fun K "_law_minus" "_law_minus" (top 31) (a 31) (fd 31)
  g__law_minus : mg "_law_minus" = some (.ref (a 31))
  b__law_minus : Binds K (fd 31) ["one", "two"] []
  F__law_power : Fun K "_law_power" "_law_power" (top 35) (a 35) (fd 35)
  g__law_power : mg "_law_power" = some (.ref (a 35))
  b__law_power : Binds K (fd 35) ["one", "times_so"] []
  F__law_over : Fun K "_law_over" "_law_over" (top 33) (a 33) (fd 33)
  g__law_over : mg "_law_over" = some (.ref (a 33))
  b__law_over : Binds K (fd 33) ["one", "two"] []
  F__law_wide : Fun K "_law_wide" "_law_wide" (top 39) (a 39) (fd 39)
  g__law_wide : mg "_law_wide" = some (.ref (a 39))
  b__law_wide : Binds K (fd 39) ["cut_so", "below"] []
  F__law_plus : Fun K "_law_plus" "_law_plus" (top 30) (a 30) (fd 30)
  g__law_plus : mg "_law_plus" = some (.ref (a 30))
  b__law_plus : Binds K (fd 30) ["one", "two"] []
  F__law_floors : Fun K "_law_floors" "_law_floors" (top 36) (a 36) (fd 36)
  g__law_floors : mg "_law_floors" = some (.ref (a 36))
  b__law_floors : Binds K (fd 36) ["cut_so", "pair_so"] []
  F__law_ends : Fun K "_law_ends" "_law_ends" (top 37) (a 37) (fd 37)
  g__law_ends : mg "_law_ends" = some (.ref (a 37))
  b__law_ends : Binds K (fd 37) ["cut_so", "pair_so"] []
  F__law_below : Fun K "_law_below" "_law_below" (top 34) (a 34) (fd 34)
  g__law_below : mg "_law_below" = some (.ref (a 34))
  b__law_below : Binds K (fd 34) ["one", "two"] []
  F__law_together : Fun K "_law_together" "_law_together" (top 40) (a 40) (fd 40)
  g__law_together : mg "_law_together" = some (.ref (a 40))
  b__law_together : Binds K (fd 40) ["cut_so", "most_so"] []
  F__law_right : Fun K "_law_right" "_law_right" (top 41) (a 41) (fd 41)
  g__law_right : mg "_law_right" = some (.ref (a 41))
  b__law_right : Binds K (fd 41) ["cut_so", "most_so"] []
  F_law : Fun K "law" "law" (top 42) (a 42) (fd 42)
  g_law : mg "law" = some (.ref (a 42))
  b_law : Binds K (fd 42) ["script"] []
  kb_covered_pRev : ∀ (s : Shared) (ws : List Value), (pRev ws).length = (["part", "most"] : List Str).length → BindsTo s (fd 22) ⟨[], (["most", "part"] : List Str).zip ws⟩ ((["part", "most"] : List Str).zip (pRev ws))
section
variable {P : Program} {w : World} {K : PySem.W.Frag} {mg : Str → Option Value} {base : Heap} {a : Nat → Addr} {fd : Nat → FuncData}
theorem sc__law_begin : FnScope ["script", "cells_so", "cell"] ["script"] (defScope (top 25)) := ⟨rfl, rfl, rfl, by decide +kernel, rfl, by decide +kernel, by decide +kernel⟩
theorem ok__law_begin (T : Tx K mg a fd) : FnG P w K mg base CX0 1 (a 25) (fd 25) ["script"] (spBegin K) := by
  refine fnG_of T.F__law_begin sc__law_begin (fun vs H Q E h => by obtain ⟨_, _, rfl, _⟩ := h; rfl) fun cdv A out s H vs Q E hr h => ⟨tBegin K, PSs.nox ?_, pure_begin vs H Q E h⟩
  exact pss_cons (ps_set (i := 1) sc__law_begin.nd rfl (by first | exact Or.inl rfl | exact Or.inr rfl) (pe_ifExp (pt_cmpR (op_neD hr.rm.units) (pv 0) (pe_lst pa_nil) (nomark _)) (pe_callTy call_list_of (by rfl) T.n_list PyProof.Rows.boot_list (pa_cons (pv 0) pa_nil)) (pe_lst (pa_cons pe_int pa_nil))))
    (pss_one (ps_ret (pe_disp (pps_cons pe_str (pv 1) (pps_cons pe_str (pe_lc (own := [("cell", 2)]) (g := gName 2) (tt := tYes) rfl sc__law_begin.nd (pi_list (pv 1)) (blkOk_by (N := ["script", "cells_so", "cell"]) (sc := defScope (top 25)) (by decide +kernel))
      (fun _ _ _ _ _ => pg_name (i := 2) sc__law_begin.nd rfl (by first | exact Or.inl rfl | exact Or.inr rfl)) (fun _ _ _ _ _ => pts_nil) (fun _ _ _ _ _ => pe_ifExp (pt_cmpR op_ge (pv 2) (pe_op op_pow pe_int pe_int) (nomark _)) (pv 2) pe_int)) (pps_cons pe_str pe_int pps_nil))) (by rfl) (by rfl) (fun z => by cases z) (by decide))))
theorem sc__law_like : FnScope ["got", "due"] ["got", "due"] (defScope (top 38)) := ⟨rfl, rfl, rfl, by decide +kernel, rfl, by decide +kernel, by decide +kernel⟩
theorem ok__law_like (T : Tx K mg a fd) : FnG P w K mg base CX0 1 (a 38) (fd 38) ["got", "due"] (cSp s__law_like) := by
  refine fnD_of (t := t__law_like) T.F__law_like sc__law_like (fun ds n R h => ?_) (fun cdv A out s H E hr => ?_) p__law_like
  · first | (obtain ⟨rfl, _⟩ := h; rfl) | (obtain ⟨_, rfl, _⟩ := h; rfl) | (obtain ⟨_, _, rfl, _⟩ := h; rfl) | (obtain ⟨_, _, _, rfl, _⟩ := h; rfl) | (obtain ⟨_, _, _, _, rfl, _⟩ := h; rfl) | (obtain ⟨_, _, _, _, _, rfl, _⟩ := h; rfl) | (obtain ⟨_, _, _, _, _, _, rfl, _⟩ := h; rfl) | (obtain ⟨_, _, _, _, _, _, _, rfl, _⟩ := h; rfl) | (obtain ⟨_, _, _, _, _, _, _, _, rfl, _⟩ := h; rfl) | (obtain ⟨_, _, _, _, _, _, _, _, _, rfl, _⟩ := h; rfl) | (obtain ⟨_, _, _, _, _, _, _, _, _, _, rfl, _⟩ := h; rfl) | (obtain ⟨_, _, _, _, _, _, _, _, _, _, _, rfl, _⟩ := h; rfl) | (obtain ⟨_, _, _, _, _, _, _, _, _, _, _, _, rfl, _⟩ := h; rfl) | (obtain ⟨_, _, _, _, _, _, _, _, _, _, _, _, _, rfl, _⟩ := h; rfl) | (obtain ⟨_, _, _, _, _, _, _, _, _, _, _, _, _, _, rfl, _⟩ := h; rfl) | (obtain ⟨_, _, _, _, _, _, _, _, _, _, _, _, _, _, _, rfl, _⟩ := h; rfl) | (obtain ⟨_, _, _, _, _, _, _, _, _, _, _, _, _, _, _, _, rfl, _⟩ := h; rfl) | (obtain ⟨_, _, _, _, _, _, _, _, _, _, _, _, _, _, _, _, _, rfl, _⟩ := h; rfl)
  · exact (fss_one (fs_ret (fe_cmp op_eq ok_eqS (fe_cb (pe_callB (cr_repr hr) (by rfl) T.n_repr PyProof.Rows.boot_repr (fa_cons (fe_var (pv 0)) fa_nil)) ok_repr) (fe_cb (pe_callB (cr_repr hr) (by rfl) T.n_repr PyProof.Rows.boot_repr (fa_cons (fe_var (pv 1)) fa_nil)) ok_repr) (nomark _))))
theorem sc__law_divisor : FnScope ["one", "two", "step"] ["one", "two"] (defScope (top 28)) := ⟨rfl, rfl, rfl, by decide +kernel, rfl, by decide +kernel, by decide +kernel⟩
theorem ok__law_divisor (T : Tx K mg a fd) : FnG P w K mg base CX0 1 (a 28) (fd 28) ["one", "two"] (cSp s__law_divisor) := by
  refine fnD_of (t := t__law_divisor) T.F__law_divisor sc__law_divisor (fun ds n R h => ?_) (fun cdv A out s H E hr => ?_) p__law_divisor
  · first | (obtain ⟨rfl, _⟩ := h; rfl) | (obtain ⟨_, rfl, _⟩ := h; rfl) | (obtain ⟨_, _, rfl, _⟩ := h; rfl) | (obtain ⟨_, _, _, rfl, _⟩ := h; rfl) | (obtain ⟨_, _, _, _, rfl, _⟩ := h; rfl) | (obtain ⟨_, _, _, _, _, rfl, _⟩ := h; rfl) | (obtain ⟨_, _, _, _, _, _, rfl, _⟩ := h; rfl) | (obtain ⟨_, _, _, _, _, _, _, rfl, _⟩ := h; rfl) | (obtain ⟨_, _, _, _, _, _, _, _, rfl, _⟩ := h; rfl) | (obtain ⟨_, _, _, _, _, _, _, _, _, rfl, _⟩ := h; rfl) | (obtain ⟨_, _, _, _, _, _, _, _, _, _, rfl, _⟩ := h; rfl) | (obtain ⟨_, _, _, _, _, _, _, _, _, _, _, rfl, _⟩ := h; rfl) | (obtain ⟨_, _, _, _, _, _, _, _, _, _, _, _, rfl, _⟩ := h; rfl) | (obtain ⟨_, _, _, _, _, _, _, _, _, _, _, _, _, rfl, _⟩ := h; rfl) | (obtain ⟨_, _, _, _, _, _, _, _, _, _, _, _, _, _, rfl, _⟩ := h; rfl) | (obtain ⟨_, _, _, _, _, _, _, _, _, _, _, _, _, _, _, rfl, _⟩ := h; rfl) | (obtain ⟨_, _, _, _, _, _, _, _, _, _, _, _, _, _, _, _, rfl, _⟩ := h; rfl) | (obtain ⟨_, _, _, _, _, _, _, _, _, _, _, _, _, _, _, _, _, rfl, _⟩ := h; rfl)
  · exact (fss_cons (fs_par (ps_par (i := 0) (j := 1) rfl sc__law_divisor.nd rfl rfl (by decide) rfl rfl (fa_cons (fe_cb (pe_callB call_abs (by rfl) T.n_abs PyProof.Rows.boot_abs (fa_cons (fe_var (pv 0)) fa_nil)) ok_abs) (fa_cons (fe_cb (pe_callB call_abs (by rfl) T.n_abs PyProof.Rows.boot_abs (fa_cons (fe_var (pv 1)) fa_nil)) ok_abs) fa_nil)) (by rfl)))
      (fss_cons (fs_forR (i := 2) (ps_for PassesOwn.never rfl (pi_range1 (by rfl) T.n_range (pa_cons fe_int pa_nil)) (pg_name (i := 2) sc__law_divisor.nd rfl (by first | exact Or.inl rfl | exact Or.inr rfl)) (fss_cons (fs_if (ft_cmp (op_eqD hr.rm.units) (ok_eq _) (fe_var (pv 1)) fe_int (nomark _)) (fss_one (fs_ret (fe_var (pv 0)))) fss_nil)
      (fss_one (fs_par (ps_par (i := 0) (j := 1) rfl sc__law_divisor.nd rfl rfl (by decide) rfl rfl (fa_cons (fe_var (pv 1)) (fa_cons (fe_mod (fe_var (pv 0)) (fe_var (pv 1))) fa_nil)) (by rfl)))))))
      (fss_one (fs_ret (fe_var (pv 0))))))
theorem sc__law_share : FnScope ["above", "below", "told"] ["above", "below"] (defScope (top 29)) := ⟨rfl, rfl, rfl, by decide +kernel, rfl, by decide +kernel, by decide +kernel⟩
theorem ok__law_share (T : Tx K mg a fd) : FnG P w K mg base CX0 2 (a 29) (fd 29) ["above", "below"] (cSp s__law_share) := by
  refine fnD_of (t := t__law_share) T.F__law_share sc__law_share (fun ds n R h => ?_) (fun cdv A out s H E hr => ?_) p__law_share
  · first | (obtain ⟨rfl, _⟩ := h; rfl) | (obtain ⟨_, rfl, _⟩ := h; rfl) | (obtain ⟨_, _, rfl, _⟩ := h; rfl) | (obtain ⟨_, _, _, rfl, _⟩ := h; rfl) | (obtain ⟨_, _, _, _, rfl, _⟩ := h; rfl) | (obtain ⟨_, _, _, _, _, rfl, _⟩ := h; rfl) | (obtain ⟨_, _, _, _, _, _, rfl, _⟩ := h; rfl) | (obtain ⟨_, _, _, _, _, _, _, rfl, _⟩ := h; rfl) | (obtain ⟨_, _, _, _, _, _, _, _, rfl, _⟩ := h; rfl) | (obtain ⟨_, _, _, _, _, _, _, _, _, rfl, _⟩ := h; rfl) | (obtain ⟨_, _, _, _, _, _, _, _, _, _, rfl, _⟩ := h; rfl) | (obtain ⟨_, _, _, _, _, _, _, _, _, _, _, rfl, _⟩ := h; rfl) | (obtain ⟨_, _, _, _, _, _, _, _, _, _, _, _, rfl, _⟩ := h; rfl) | (obtain ⟨_, _, _, _, _, _, _, _, _, _, _, _, _, rfl, _⟩ := h; rfl) | (obtain ⟨_, _, _, _, _, _, _, _, _, _, _, _, _, _, rfl, _⟩ := h; rfl) | (obtain ⟨_, _, _, _, _, _, _, _, _, _, _, _, _, _, _, rfl, _⟩ := h; rfl) | (obtain ⟨_, _, _, _, _, _, _, _, _, _, _, _, _, _, _, _, rfl, _⟩ := h; rfl) | (obtain ⟨_, _, _, _, _, _, _, _, _, _, _, _, _, _, _, _, _, rfl, _⟩ := h; rfl)
  · exact (fss_cons (fs_set (ps_set (i := 2) sc__law_share.nd rfl (by first | exact Or.inl rfl | exact Or.inr rfl) (fe_call (ok__law_divisor T) (hr.mono (by decide)) (by rfl) T.g__law_divisor T.F__law_divisor.kp T.b__law_divisor (fa_cons (fe_var (pv 0)) (fa_cons (fe_var (pv 1)) fa_nil)))))
      (fss_cons (fs_set (ps_set (i := 2) sc__law_share.nd rfl (by first | exact Or.inl rfl | exact Or.inr rfl) (fe_if (ft_cmp op_gt ok_gt (fe_var (pv 1)) fe_int (nomark _)) (fe_var (pv 2)) (fe_neg (fe_var (pv 2))))))
      (fss_one (fs_ret (fe_tup (fa_cons (fe_fdiv (fe_var (pv 0)) (fe_var (pv 2))) (fa_cons (fe_fdiv (fe_var (pv 1)) (fe_var (pv 2))) fa_nil)))))))
theorem sc__law_mixed : FnScope ["cell", "k"] ["cell", "k"] (defScope (top 24)) := ⟨rfl, rfl, rfl, by decide +kernel, rfl, by decide +kernel, by decide +kernel⟩
theorem ok__law_mixed (T : Tx K mg a fd) : FnG P w K mg base CX0 1 (a 24) (fd 24) ["cell", "k"] (cSp sMixed) := by
  refine fnD_of (t := t__law_mixed) T.F__law_mixed sc__law_mixed (fun ds n R h => ?_) (fun cdv A out s H E hr => ?_) p__law_mixed
  · first | (obtain ⟨rfl, _⟩ := h; rfl) | (obtain ⟨_, rfl, _⟩ := h; rfl) | (obtain ⟨_, _, rfl, _⟩ := h; rfl) | (obtain ⟨_, _, _, rfl, _⟩ := h; rfl) | (obtain ⟨_, _, _, _, rfl, _⟩ := h; rfl) | (obtain ⟨_, _, _, _, _, rfl, _⟩ := h; rfl) | (obtain ⟨_, _, _, _, _, _, rfl, _⟩ := h; rfl) | (obtain ⟨_, _, _, _, _, _, _, rfl, _⟩ := h; rfl) | (obtain ⟨_, _, _, _, _, _, _, _, rfl, _⟩ := h; rfl) | (obtain ⟨_, _, _, _, _, _, _, _, _, rfl, _⟩ := h; rfl) | (obtain ⟨_, _, _, _, _, _, _, _, _, _, rfl, _⟩ := h; rfl) | (obtain ⟨_, _, _, _, _, _, _, _, _, _, _, rfl, _⟩ := h; rfl) | (obtain ⟨_, _, _, _, _, _, _, _, _, _, _, _, rfl, _⟩ := h; rfl) | (obtain ⟨_, _, _, _, _, _, _, _, _, _, _, _, _, rfl, _⟩ := h; rfl) | (obtain ⟨_, _, _, _, _, _, _, _, _, _, _, _, _, _, rfl, _⟩ := h; rfl) | (obtain ⟨_, _, _, _, _, _, _, _, _, _, _, _, _, _, _, rfl, _⟩ := h; rfl) | (obtain ⟨_, _, _, _, _, _, _, _, _, _, _, _, _, _, _, _, rfl, _⟩ := h; rfl) | (obtain ⟨_, _, _, _, _, _, _, _, _, _, _, _, _, _, _, _, _, rfl, _⟩ := h; rfl)
  · exact (fss_cons (fs_set (ps_set (i := 0) sc__law_mixed.nd rfl (by first | exact Or.inl rfl | exact Or.inr rfl) (fe_mod (fe_cb (pe_callTy call_int1 (by rfl) T.n_int PyProof.Rows.boot_int (fa_cons (fe_var (pv 0)) fa_nil)) ok_int) fe_int)))
      (fss_one (fs_ret (fe_mod (fe_mul (fe_mod (fe_add (fe_add (fe_mul (fe_var (pv 0)) (fe_add fe_int (fe_mul (fe_mul fe_int (fe_var (pv 1))) (fe_var (pv 1))))) (fe_mul fe_int (fe_var (pv 1)))) fe_int) fe_int) fe_int) fe_int))))
theorem sc__law_draw : FnScope ["draws_so", "limit", "at", "place", "left", "mixed"] ["draws_so", "limit"] (defScope (top 26)) := ⟨rfl, rfl, rfl, by decide +kernel, rfl, by decide +kernel, by decide +kernel⟩
theorem ok__law_draw (T : Tx K mg a fd) : FnG P w K mg base CX0 2 (a 26) (fd 26) ["draws_so", "limit"] (cSp sDraw) := by
  refine fnG_of T.F__law_draw sc__law_draw (cSp_len fun ds n R h => by obtain ⟨_, rfl, _⟩ := h; rfl) fun cdv A out s H vs Q E hr h => ⟨tDraw K (cSp sMixed), PSs.nox ?_, pure_draw vs H Q E h⟩
  have hu := hu_of hr.rm
  exact pss_cons (ps_set (i := 2) sc__law_draw.nd rfl (by first | exact Or.inl rfl | exact Or.inr rfl) (pe_dget hu (pv 0) pe_str (fun _ _ => rfl)))
    (pss_cons (ps_dput hu (pv 0) pe_str (pe_op op_add (pv 2) pe_int) rfl)
    (pss_cons (ps_set (i := 3) sc__law_draw.nd rfl (by first | exact Or.inl rfl | exact Or.inr rfl) (pe_op op_mod (pe_callTy call_int1 (by rfl) T.n_int PyProof.Rows.boot_int (pa_cons (pv 2) pa_nil)) (pe_callB call_len_seq (by rfl) T.n_len PySem.boot_len (pa_cons (pe_dget hu (pv 0) pe_str (fun _ _ => rfl)) pa_nil))))
    (pss_cons (ps_set (i := 4) sc__law_draw.nd rfl (by first | exact Or.inl rfl | exact Or.inr rfl) (pe_ix ix_list (pe_dget hu (pv 0) pe_str (fun _ _ => rfl)) (pv 3) (fun _ _ => rfl)))
    (pss_cons (ps_if (pt_cmpR op_gt (pv 4) pe_int (nomark _)) (pss_cons (ps_asg (pe_op op_fdivW (pv 4) (pv 1)) (pg_sub (pe_dget hu (pv 0) pe_str (fun _ _ => rfl)) (pv 3) set_list)) (pss_one (ps_ret (pe_op op_mod (pe_callTy call_int1 (by rfl) T.n_int PyProof.Rows.boot_int (pa_cons (pv 4) pa_nil)) (pv 1))))) pss_nil)
    (pss_cons (ps_set (i := 5) sc__law_draw.nd rfl (by first | exact Or.inl rfl | exact Or.inr rfl) (peG_call (ok__law_mixed T) (hr.mono (by decide)) (by rfl) T.g__law_mixed T.F__law_mixed.kp T.b__law_mixed (pa_cons (peG_call (ok__law_mixed T) (hr.mono (by decide)) (by rfl) T.g__law_mixed T.F__law_mixed.kp T.b__law_mixed (pa_cons (pe_ix ix_list (pe_dget hu (pv 0) pe_str (fun _ _ => rfl)) (pv 3) (fun _ _ => rfl)) (pa_cons (pv 2) pa_nil))) (pa_cons (pe_op op_add pe_int (pv 2)) pa_nil))))
    (pss_one (ps_ret (pe_op op_mod (pe_op op_fdivW (pe_callTy call_int1 (by rfl) T.n_int PyProof.Rows.boot_int (pa_cons (pe_op op_add (pe_op op_mulW (pv 5) pe_int) (peG_call (ok__law_mixed T) (hr.mono (by decide)) (by rfl) T.g__law_mixed T.F__law_mixed.kp T.b__law_mixed (pa_cons (pv 5) (pa_cons (pe_op op_add pe_int (pv 2)) pa_nil)))) pa_nil)) pe_int) (pv 1)))))))))
theorem sc__law_cut : FnScope ["draws_so", "low"] ["draws_so"] (defScope (top 27)) := ⟨rfl, rfl, rfl, by decide +kernel, rfl, by decide +kernel, by decide +kernel⟩
theorem ok__law_cut (T : Tx K mg a fd) : FnG P w K mg base CX0 3 (a 27) (fd 27) ["draws_so"] (cSp s__law_cut) := by
  refine fnD_of (t := t__law_cut) T.F__law_cut sc__law_cut (fun ds n R h => ?_) (fun cdv A out s H E hr => ?_) p__law_cut
  · first | (obtain ⟨rfl, _⟩ := h; rfl) | (obtain ⟨_, rfl, _⟩ := h; rfl) | (obtain ⟨_, _, rfl, _⟩ := h; rfl) | (obtain ⟨_, _, _, rfl, _⟩ := h; rfl) | (obtain ⟨_, _, _, _, rfl, _⟩ := h; rfl) | (obtain ⟨_, _, _, _, _, rfl, _⟩ := h; rfl) | (obtain ⟨_, _, _, _, _, _, rfl, _⟩ := h; rfl) | (obtain ⟨_, _, _, _, _, _, _, rfl, _⟩ := h; rfl) | (obtain ⟨_, _, _, _, _, _, _, _, rfl, _⟩ := h; rfl) | (obtain ⟨_, _, _, _, _, _, _, _, _, rfl, _⟩ := h; rfl) | (obtain ⟨_, _, _, _, _, _, _, _, _, _, rfl, _⟩ := h; rfl) | (obtain ⟨_, _, _, _, _, _, _, _, _, _, _, rfl, _⟩ := h; rfl) | (obtain ⟨_, _, _, _, _, _, _, _, _, _, _, _, rfl, _⟩ := h; rfl) | (obtain ⟨_, _, _, _, _, _, _, _, _, _, _, _, _, rfl, _⟩ := h; rfl) | (obtain ⟨_, _, _, _, _, _, _, _, _, _, _, _, _, _, rfl, _⟩ := h; rfl) | (obtain ⟨_, _, _, _, _, _, _, _, _, _, _, _, _, _, _, rfl, _⟩ := h; rfl) | (obtain ⟨_, _, _, _, _, _, _, _, _, _, _, _, _, _, _, _, rfl, _⟩ := h; rfl) | (obtain ⟨_, _, _, _, _, _, _, _, _, _, _, _, _, _, _, _, _, rfl, _⟩ := h; rfl)
  · exact (fss_cons (fs_set (ps_set (i := 1) sc__law_cut.nd rfl (by first | exact Or.inl rfl | exact Or.inr rfl) (fe_add fe_int (fe_call (ok__law_draw T) (hr.mono (by decide)) (by rfl) T.g__law_draw T.F__law_draw.kp T.b__law_draw (fa_cons (fe_var (pv 0)) (fa_cons fe_int fa_nil))))))
      (fss_one (fs_ret (fe_call (ok__law_share T) (hr.mono (by decide)) (by rfl) T.g__law_share T.F__law_share.kp T.b__law_share (fa_cons (fe_add fe_int (fe_call (ok__law_draw T) (hr.mono (by decide)) (by rfl) T.g__law_draw T.F__law_draw.kp T.b__law_draw (fa_cons (fe_var (pv 0)) (fa_cons (fe_sub (fe_var (pv 1)) fe_int) fa_nil)))) (fa_cons (fe_var (pv 1)) fa_nil))))))
theorem sc__law_times : FnScope ["one", "two"] ["one", "two"] (defScope (top 32)) := ⟨rfl, rfl, rfl, by decide +kernel, rfl, by decide +kernel, by decide +kernel⟩
theorem ok__law_times (T : Tx K mg a fd) : FnG P w K mg base CX0 3 (a 32) (fd 32) ["one", "two"] (cSp s__law_times) := by
  refine fnD_of (t := t__law_times) T.F__law_times sc__law_times (fun ds n R h => ?_) (fun cdv A out s H E hr => ?_) p__law_times
  · first | (obtain ⟨rfl, _⟩ := h; rfl) | (obtain ⟨_, rfl, _⟩ := h; rfl) | (obtain ⟨_, _, rfl, _⟩ := h; rfl) | (obtain ⟨_, _, _, rfl, _⟩ := h; rfl) | (obtain ⟨_, _, _, _, rfl, _⟩ := h; rfl) | (obtain ⟨_, _, _, _, _, rfl, _⟩ := h; rfl) | (obtain ⟨_, _, _, _, _, _, rfl, _⟩ := h; rfl) | (obtain ⟨_, _, _, _, _, _, _, rfl, _⟩ := h; rfl) | (obtain ⟨_, _, _, _, _, _, _, _, rfl, _⟩ := h; rfl) | (obtain ⟨_, _, _, _, _, _, _, _, _, rfl, _⟩ := h; rfl) | (obtain ⟨_, _, _, _, _, _, _, _, _, _, rfl, _⟩ := h; rfl) | (obtain ⟨_, _, _, _, _, _, _, _, _, _, _, rfl, _⟩ := h; rfl) | (obtain ⟨_, _, _, _, _, _, _, _, _, _, _, _, rfl, _⟩ := h; rfl) | (obtain ⟨_, _, _, _, _, _, _, _, _, _, _, _, _, rfl, _⟩ := h; rfl) | (obtain ⟨_, _, _, _, _, _, _, _, _, _, _, _, _, _, rfl, _⟩ := h; rfl) | (obtain ⟨_, _, _, _, _, _, _, _, _, _, _, _, _, _, _, rfl, _⟩ := h; rfl) | (obtain ⟨_, _, _, _, _, _, _, _, _, _, _, _, _, _, _, _, rfl, _⟩ := h; rfl) | (obtain ⟨_, _, _, _, _, _, _, _, _, _, _, _, _, _, _, _, _, rfl, _⟩ := h; rfl)
  · exact (fss_one (fs_ret (fe_call (ok__law_share T) (hr.mono (by decide)) (by rfl) T.g__law_share T.F__law_share.kp T.b__law_share (fa_cons (fe_mul (fe_ixT (fe_var (pv 0)) fe_int (fun _ _ => rfl)) (fe_ixT (fe_var (pv 1)) fe_int (fun _ _ => rfl))) (fa_cons (fe_mul (fe_ixT (fe_var (pv 0)) fe_int (fun _ _ => rfl)) (fe_ixT (fe_var (pv 1)) fe_int (fun _ _ => rfl))) fa_nil)))))
theorem sc_is_integer : FnScope ["value"] ["value"] (defScope (top 10)) := ⟨rfl, rfl, rfl, by decide +kernel, rfl, by decide +kernel, by decide +kernel⟩
theorem ok_is_integer (T : Tx K mg a fd) : FnG P w K mg base CX0 1 (a 10) (fd 10) ["value"] (cSp s_is_integer) := by
  refine fnD_of (t := t_is_integer) T.F_is_integer sc_is_integer (fun ds n R h => ?_) (fun cdv A out s H E hr => ?_) p_is_integer
  · first | (obtain ⟨rfl, _⟩ := h; rfl) | (obtain ⟨_, rfl, _⟩ := h; rfl) | (obtain ⟨_, _, rfl, _⟩ := h; rfl) | (obtain ⟨_, _, _, rfl, _⟩ := h; rfl) | (obtain ⟨_, _, _, _, rfl, _⟩ := h; rfl) | (obtain ⟨_, _, _, _, _, rfl, _⟩ := h; rfl) | (obtain ⟨_, _, _, _, _, _, rfl, _⟩ := h; rfl) | (obtain ⟨_, _, _, _, _, _, _, rfl, _⟩ := h; rfl) | (obtain ⟨_, _, _, _, _, _, _, _, rfl, _⟩ := h; rfl) | (obtain ⟨_, _, _, _, _, _, _, _, _, rfl, _⟩ := h; rfl) | (obtain ⟨_, _, _, _, _, _, _, _, _, _, rfl, _⟩ := h; rfl) | (obtain ⟨_, _, _, _, _, _, _, _, _, _, _, rfl, _⟩ := h; rfl) | (obtain ⟨_, _, _, _, _, _, _, _, _, _, _, _, rfl, _⟩ := h; rfl) | (obtain ⟨_, _, _, _, _, _, _, _, _, _, _, _, _, rfl, _⟩ := h; rfl) | (obtain ⟨_, _, _, _, _, _, _, _, _, _, _, _, _, _, rfl, _⟩ := h; rfl) | (obtain ⟨_, _, _, _, _, _, _, _, _, _, _, _, _, _, _, rfl, _⟩ := h; rfl) | (obtain ⟨_, _, _, _, _, _, _, _, _, _, _, _, _, _, _, _, rfl, _⟩ := h; rfl) | (obtain ⟨_, _, _, _, _, _, _, _, _, _, _, _, _, _, _, _, _, rfl, _⟩ := h; rfl)
  · exact (fss_one (fs_ret (fe_tyEq mInt (pe_typeOf (by rfl) T.n_type (fe_var (pv 0))) (pe_bltn (by rfl) T.n_int PyProof.Rows.boot_int rfl) (nomark _))))
theorem sc_is_fraction : FnScope ["value", "above", "below"] ["value"] (defScope (top 11)) := ⟨rfl, rfl, rfl, by decide +kernel, rfl, by decide +kernel, by decide +kernel⟩
theorem ok_is_fraction (T : Tx K mg a fd) : FnG P w K mg base CX0 2 (a 11) (fd 11) ["value"] (cSp s_is_fraction) := by
  refine fnD_of (t := t_is_fraction) T.F_is_fraction sc_is_fraction (fun ds n R h => ?_) (fun cdv A out s H E hr => ?_) p_is_fraction
  · first | (obtain ⟨rfl, _⟩ := h; rfl) | (obtain ⟨_, rfl, _⟩ := h; rfl) | (obtain ⟨_, _, rfl, _⟩ := h; rfl) | (obtain ⟨_, _, _, rfl, _⟩ := h; rfl) | (obtain ⟨_, _, _, _, rfl, _⟩ := h; rfl) | (obtain ⟨_, _, _, _, _, rfl, _⟩ := h; rfl) | (obtain ⟨_, _, _, _, _, _, rfl, _⟩ := h; rfl) | (obtain ⟨_, _, _, _, _, _, _, rfl, _⟩ := h; rfl) | (obtain ⟨_, _, _, _, _, _, _, _, rfl, _⟩ := h; rfl) | (obtain ⟨_, _, _, _, _, _, _, _, _, rfl, _⟩ := h; rfl) | (obtain ⟨_, _, _, _, _, _, _, _, _, _, rfl, _⟩ := h; rfl) | (obtain ⟨_, _, _, _, _, _, _, _, _, _, _, rfl, _⟩ := h; rfl) | (obtain ⟨_, _, _, _, _, _, _, _, _, _, _, _, rfl, _⟩ := h; rfl) | (obtain ⟨_, _, _, _, _, _, _, _, _, _, _, _, _, rfl, _⟩ := h; rfl) | (obtain ⟨_, _, _, _, _, _, _, _, _, _, _, _, _, _, rfl, _⟩ := h; rfl) | (obtain ⟨_, _, _, _, _, _, _, _, _, _, _, _, _, _, _, rfl, _⟩ := h; rfl) | (obtain ⟨_, _, _, _, _, _, _, _, _, _, _, _, _, _, _, _, rfl, _⟩ := h; rfl) | (obtain ⟨_, _, _, _, _, _, _, _, _, _, _, _, _, _, _, _, _, rfl, _⟩ := h; rfl)
  · exact (fss_cons (fs_if (PW.pt (fw_or (ft_tyNe hr mTuple (pe_typeOf (by rfl) T.n_type (fe_var (pv 0))) (pe_bltn (by rfl) T.n_tuple PyProof.Rows.boot_tuple rfl) (nomark _)) (fw_or1 (ft_cmp (op_neD hr.rm.units) (ok_ne _) (fe_cb (pe_callB call_len_seq (by rfl) T.n_len PySem.boot_len (fa_cons (fe_var (pv 0)) fa_nil)) (ok_len _)) fe_int (nomark _))))) (fss_one (fs_ret fe_bl)) fss_nil)
      (fss_cons (fs_unp (is := [1, 2]) (k := 2) rfl (ps_asg (fe_var (pv 0)) (pg_tup rfl (pgs_cons (pg_name (i := 1) sc_is_fraction.nd rfl (by first | exact Or.inl rfl | exact Or.inr rfl)) (pgs_cons (pg_name (i := 2) sc_is_fraction.nd rfl (by first | exact Or.inl rfl | exact Or.inr rfl)) pgs_nil)))))
      (fss_cons (fs_if (PW.pt (fw_or (ft_not (ft_val (fe_call (ok_is_integer T) (hr.mono (by decide)) (by rfl) T.g_is_integer T.F_is_integer.kp T.b_is_integer (fa_cons (fe_var (pv 1)) fa_nil)))) (fw_or1 (ft_not (ft_val (fe_call (ok_is_integer T) (hr.mono (by decide)) (by rfl) T.g_is_integer T.F_is_integer.kp T.b_is_integer (fa_cons (fe_var (pv 2)) fa_nil))))))) (fss_one (fs_ret fe_bl)) fss_nil)
      (fss_one (fs_ret (fe_and (fe_chain op_le op_le ok_le ok_le (fe_neg (fe_cint (by rfl) T.c_MOST)) (fe_var (pv 1)) (fe_cint (by rfl) T.c_MOST)) (fe_and (fe_chain op_le op_le ok_le ok_le fe_int (fe_var (pv 2)) (fe_cint (by rfl) T.c_MOST)) (fe_one (fe_cmp (op_eqD hr.rm.units) (ok_eq _) (fe_cb (pe_callBfun cr_gcd (by rfl) T.m_gcd (fa_cons (fe_var (pv 1)) (fa_cons (fe_var (pv 2)) fa_nil))) ok_gcd) fe_int (nomark _))))))))))
theorem sc_is_part : FnScope ["value"] ["value"] (defScope (top 16)) := ⟨rfl, rfl, rfl, by decide +kernel, rfl, by decide +kernel, by decide +kernel⟩
theorem ok_is_part (T : Tx K mg a fd) : FnG P w K mg base CX0 3 (a 16) (fd 16) ["value"] (cSp s_is_part) := by
  refine fnD_of (t := t_is_part) T.F_is_part sc_is_part (fun ds n R h => ?_) (fun cdv A out s H E hr => ?_) p_is_part
  · first | (obtain ⟨rfl, _⟩ := h; rfl) | (obtain ⟨_, rfl, _⟩ := h; rfl) | (obtain ⟨_, _, rfl, _⟩ := h; rfl) | (obtain ⟨_, _, _, rfl, _⟩ := h; rfl) | (obtain ⟨_, _, _, _, rfl, _⟩ := h; rfl) | (obtain ⟨_, _, _, _, _, rfl, _⟩ := h; rfl) | (obtain ⟨_, _, _, _, _, _, rfl, _⟩ := h; rfl) | (obtain ⟨_, _, _, _, _, _, _, rfl, _⟩ := h; rfl) | (obtain ⟨_, _, _, _, _, _, _, _, rfl, _⟩ := h; rfl) | (obtain ⟨_, _, _, _, _, _, _, _, _, rfl, _⟩ := h; rfl) | (obtain ⟨_, _, _, _, _, _, _, _, _, _, rfl, _⟩ := h; rfl) | (obtain ⟨_, _, _, _, _, _, _, _, _, _, _, rfl, _⟩ := h; rfl) | (obtain ⟨_, _, _, _, _, _, _, _, _, _, _, _, rfl, _⟩ := h; rfl) | (obtain ⟨_, _, _, _, _, _, _, _, _, _, _, _, _, rfl, _⟩ := h; rfl) | (obtain ⟨_, _, _, _, _, _, _, _, _, _, _, _, _, _, rfl, _⟩ := h; rfl) | (obtain ⟨_, _, _, _, _, _, _, _, _, _, _, _, _, _, _, rfl, _⟩ := h; rfl) | (obtain ⟨_, _, _, _, _, _, _, _, _, _, _, _, _, _, _, _, rfl, _⟩ := h; rfl) | (obtain ⟨_, _, _, _, _, _, _, _, _, _, _, _, _, _, _, _, _, rfl, _⟩ := h; rfl)
  · exact (fss_one (fs_ret (fe_and (fe_call (ok_is_fraction T) (hr.mono (by decide)) (by rfl) T.g_is_fraction T.F_is_fraction.kp T.b_is_fraction (fa_cons (fe_var (pv 0)) fa_nil)) (fe_one (fe_chain3 op_lt op_lt op_le ok_lt ok_lt ok_le fe_int (fe_ixT (fe_var (pv 0)) fe_int (fun _ _ => rfl)) (fe_ixT (fe_var (pv 0)) fe_int (fun _ _ => rfl)) (fe_cint (by rfl) T.c_MOST_BELOW_OF_PART))))))
theorem sc_need_part : FnScope ["part"] ["part"] (defScope (top 17)) := ⟨rfl, rfl, rfl, by decide +kernel, rfl, by decide +kernel, by decide +kernel⟩
theorem ok_need_part (T : Tx K mg a fd) : FnG P w K mg base CX0 4 (a 17) (fd 17) ["part"] (cSp s_need_part) := by
  refine fnD_of (t := t_need_part) T.F_need_part sc_need_part (fun ds n R h => ?_) (fun cdv A out s H E hr => ?_) p_need_part
  · first | (obtain ⟨rfl, _⟩ := h; rfl) | (obtain ⟨_, rfl, _⟩ := h; rfl) | (obtain ⟨_, _, rfl, _⟩ := h; rfl) | (obtain ⟨_, _, _, rfl, _⟩ := h; rfl) | (obtain ⟨_, _, _, _, rfl, _⟩ := h; rfl) | (obtain ⟨_, _, _, _, _, rfl, _⟩ := h; rfl) | (obtain ⟨_, _, _, _, _, _, rfl, _⟩ := h; rfl) | (obtain ⟨_, _, _, _, _, _, _, rfl, _⟩ := h; rfl) | (obtain ⟨_, _, _, _, _, _, _, _, rfl, _⟩ := h; rfl) | (obtain ⟨_, _, _, _, _, _, _, _, _, rfl, _⟩ := h; rfl) | (obtain ⟨_, _, _, _, _, _, _, _, _, _, rfl, _⟩ := h; rfl) | (obtain ⟨_, _, _, _, _, _, _, _, _, _, _, rfl, _⟩ := h; rfl) | (obtain ⟨_, _, _, _, _, _, _, _, _, _, _, _, rfl, _⟩ := h; rfl) | (obtain ⟨_, _, _, _, _, _, _, _, _, _, _, _, _, rfl, _⟩ := h; rfl) | (obtain ⟨_, _, _, _, _, _, _, _, _, _, _, _, _, _, rfl, _⟩ := h; rfl) | (obtain ⟨_, _, _, _, _, _, _, _, _, _, _, _, _, _, _, rfl, _⟩ := h; rfl) | (obtain ⟨_, _, _, _, _, _, _, _, _, _, _, _, _, _, _, _, rfl, _⟩ := h; rfl) | (obtain ⟨_, _, _, _, _, _, _, _, _, _, _, _, _, _, _, _, _, rfl, _⟩ := h; rfl)
  · exact (fss_cons (fs_if (ft_not (ft_val (fe_call (ok_is_part T) (hr.mono (by decide)) (by rfl) T.g_is_part T.F_is_part.kp T.b_is_part (fa_cons (fe_var (pv 0)) fa_nil)))) (fss_one fs_never) fss_nil)
      (fss_one (fs_ret (fe_var (pv 0)))))
theorem sc_need_number : FnScope ["value", "least", "most"] ["value", "least", "most"] (defScope (top 12)) := ⟨rfl, rfl, rfl, by decide +kernel, rfl, by decide +kernel, by decide +kernel⟩
theorem ok_need_number (T : Tx K mg a fd) : FnG P w K mg base CX0 2 (a 12) (fd 12) ["value", "least", "most"] (cSp s_need_number) := by
  refine fnD_of (t := t_need_number) T.F_need_number sc_need_number (fun ds n R h => ?_) (fun cdv A out s H E hr => ?_) p_need_number
  · first | (obtain ⟨rfl, _⟩ := h; rfl) | (obtain ⟨_, rfl, _⟩ := h; rfl) | (obtain ⟨_, _, rfl, _⟩ := h; rfl) | (obtain ⟨_, _, _, rfl, _⟩ := h; rfl) | (obtain ⟨_, _, _, _, rfl, _⟩ := h; rfl) | (obtain ⟨_, _, _, _, _, rfl, _⟩ := h; rfl) | (obtain ⟨_, _, _, _, _, _, rfl, _⟩ := h; rfl) | (obtain ⟨_, _, _, _, _, _, _, rfl, _⟩ := h; rfl) | (obtain ⟨_, _, _, _, _, _, _, _, rfl, _⟩ := h; rfl) | (obtain ⟨_, _, _, _, _, _, _, _, _, rfl, _⟩ := h; rfl) | (obtain ⟨_, _, _, _, _, _, _, _, _, _, rfl, _⟩ := h; rfl) | (obtain ⟨_, _, _, _, _, _, _, _, _, _, _, rfl, _⟩ := h; rfl) | (obtain ⟨_, _, _, _, _, _, _, _, _, _, _, _, rfl, _⟩ := h; rfl) | (obtain ⟨_, _, _, _, _, _, _, _, _, _, _, _, _, rfl, _⟩ := h; rfl) | (obtain ⟨_, _, _, _, _, _, _, _, _, _, _, _, _, _, rfl, _⟩ := h; rfl) | (obtain ⟨_, _, _, _, _, _, _, _, _, _, _, _, _, _, _, rfl, _⟩ := h; rfl) | (obtain ⟨_, _, _, _, _, _, _, _, _, _, _, _, _, _, _, _, rfl, _⟩ := h; rfl) | (obtain ⟨_, _, _, _, _, _, _, _, _, _, _, _, _, _, _, _, _, rfl, _⟩ := h; rfl)
  · exact (fss_cons (fs_if (PW.pt (fw_or (ft_not (ft_val (fe_call (ok_is_integer T) (hr.mono (by decide)) (by rfl) T.g_is_integer T.F_is_integer.kp T.b_is_integer (fa_cons (fe_var (pv 0)) fa_nil)))) (fw_or1 (ft_not (ft_chain op_le op_le ok_le ok_le (fe_var (pv 1)) (fe_var (pv 0)) (fe_var (pv 2))))))) (fss_one fs_never) fss_nil)
      (fss_one (fs_ret (fe_var (pv 0)))))
theorem sc_total_of : FnScope ["numbers", "half", "one", "other"] ["numbers"] (defScope (top 4)) := ⟨rfl, rfl, rfl, by decide +kernel, rfl, by decide +kernel, by decide +kernel⟩
theorem rc_total_of (T : Tx K mg a fd) : ∀ d : Nat, FnG P w K mg base CX0 (0 + d) (a 4) (fd 4) ["numbers"] (cSp (sr_total_of d))
  | 0 => fnG_no
  | d + 1 => by
    refine fnD_of (k := 0 + d) (t := t_total_of d) T.F_total_of sc_total_of (fun ds n R h => ln_total_of d ds n R h) (fun cdv A out s H E hr => ?_) (p_total_of d)
    exact (fss_cons (fs_if (ft_cmp (op_eqD hr.rm.units) (ok_eq _) (fe_cb (pe_callB call_len_seq (by rfl) T.n_len PySem.boot_len (fa_cons (fe_var (pv 0)) fa_nil)) (ok_len _)) fe_int (nomark _)) (fss_one (fs_ret (fe_ixL (fe_var (pv 0)) fe_int (fun _ _ => rfl)))) fss_nil)
      (fss_cons (fs_set (ps_set (i := 1) sc_total_of.nd rfl (by first | exact Or.inl rfl | exact Or.inr rfl) (fe_fdiv (fe_cb (pe_callB call_len_seq (by rfl) T.n_len PySem.boot_len (fa_cons (fe_var (pv 0)) fa_nil)) (ok_len _)) fe_int)))
      (fss_cons (fs_set (ps_set (i := 2) sc_total_of.nd rfl (by first | exact Or.inl rfl | exact Or.inr rfl) (fe_call (rc_total_of T d) hr (by rfl) T.g_total_of T.F_total_of.kp T.b_total_of (fa_cons (fe_sliceL (fe_var (pv 0)) fo_none (fo_some (fe_var (pv 1)))) fa_nil))))
      (fss_cons (fs_set (ps_set (i := 3) sc_total_of.nd rfl (by first | exact Or.inl rfl | exact Or.inr rfl) (fe_call (rc_total_of T d) hr (by rfl) T.g_total_of T.F_total_of.kp T.b_total_of (fa_cons (fe_sliceL (fe_var (pv 0)) (fo_some (fe_var (pv 1))) fo_none) fa_nil))))
      (fss_one (fs_ret (fe_tup (fa_cons (fe_add (fe_mul (fe_ixT (fe_var (pv 2)) fe_int (fun _ _ => rfl)) (fe_ixT (fe_var (pv 3)) fe_int (fun _ _ => rfl))) (fe_mul (fe_ixT (fe_var (pv 3)) fe_int (fun _ _ => rfl)) (fe_ixT (fe_var (pv 2)) fe_int (fun _ _ => rfl)))) (fa_cons (fe_mul (fe_ixT (fe_var (pv 2)) fe_int (fun _ _ => rfl)) (fe_ixT (fe_var (pv 3)) fe_int (fun _ _ => rfl))) fa_nil)))))))))
theorem ok_total_of (T : Tx K mg a fd) : FnG P w K mg base CX0 12 (a 4) (fd 4) ["numbers"] (cSp s_total_of) := rc_total_of T 12
theorem sc_reduced : FnScope ["above", "below", "divisor"] ["above", "below"] (defScope (top 2)) := ⟨rfl, rfl, rfl, by decide +kernel, rfl, by decide +kernel, by decide +kernel⟩
theorem ok_reduced (T : Tx K mg a fd) : FnG P w K mg base CX0 1 (a 2) (fd 2) ["above", "below"] (cSp s_reduced) := by
  refine fnD_of (t := t_reduced) T.F_reduced sc_reduced (fun ds n R h => ?_) (fun cdv A out s H E hr => ?_) p_reduced
  · first | (obtain ⟨rfl, _⟩ := h; rfl) | (obtain ⟨_, rfl, _⟩ := h; rfl) | (obtain ⟨_, _, rfl, _⟩ := h; rfl) | (obtain ⟨_, _, _, rfl, _⟩ := h; rfl) | (obtain ⟨_, _, _, _, rfl, _⟩ := h; rfl) | (obtain ⟨_, _, _, _, _, rfl, _⟩ := h; rfl) | (obtain ⟨_, _, _, _, _, _, rfl, _⟩ := h; rfl) | (obtain ⟨_, _, _, _, _, _, _, rfl, _⟩ := h; rfl) | (obtain ⟨_, _, _, _, _, _, _, _, rfl, _⟩ := h; rfl) | (obtain ⟨_, _, _, _, _, _, _, _, _, rfl, _⟩ := h; rfl) | (obtain ⟨_, _, _, _, _, _, _, _, _, _, rfl, _⟩ := h; rfl) | (obtain ⟨_, _, _, _, _, _, _, _, _, _, _, rfl, _⟩ := h; rfl) | (obtain ⟨_, _, _, _, _, _, _, _, _, _, _, _, rfl, _⟩ := h; rfl) | (obtain ⟨_, _, _, _, _, _, _, _, _, _, _, _, _, rfl, _⟩ := h; rfl) | (obtain ⟨_, _, _, _, _, _, _, _, _, _, _, _, _, _, rfl, _⟩ := h; rfl) | (obtain ⟨_, _, _, _, _, _, _, _, _, _, _, _, _, _, _, rfl, _⟩ := h; rfl) | (obtain ⟨_, _, _, _, _, _, _, _, _, _, _, _, _, _, _, _, rfl, _⟩ := h; rfl) | (obtain ⟨_, _, _, _, _, _, _, _, _, _, _, _, _, _, _, _, _, rfl, _⟩ := h; rfl)
  · exact (fss_cons (fs_set (ps_set (i := 2) sc_reduced.nd rfl (by first | exact Or.inl rfl | exact Or.inr rfl) (fe_cb (pe_callBfun cr_gcd (by rfl) T.m_gcd (fa_cons (fe_var (pv 0)) (fa_cons (fe_var (pv 1)) fa_nil))) ok_gcd)))
      (fss_cons (fs_if (ft_cmp op_lt ok_lt (fe_var (pv 1)) fe_int (nomark _)) (fss_one (fs_set (ps_set (i := 2) sc_reduced.nd rfl (by first | exact Or.inl rfl | exact Or.inr rfl) (fe_neg (fe_var (pv 2)))))) fss_nil)
      (fss_one (fs_ret (fe_tup (fa_cons (fe_fdiv (fe_var (pv 0)) (fe_var (pv 2))) (fa_cons (fe_fdiv (fe_var (pv 1)) (fe_var (pv 2))) fa_nil)))))))
theorem sc_power : FnScope ["base", "number", "result", "square"] ["base", "number"] (defScope (top 3)) := ⟨rfl, rfl, rfl, by decide +kernel, rfl, by decide +kernel, by decide +kernel⟩
theorem ok_power (T : Tx K mg a fd) : FnG P w K mg base CX0 1 (a 3) (fd 3) ["base", "number"] (cSp s_power) := by
  refine fnD_of (t := t_power) T.F_power sc_power (fun ds n R h => ?_) (fun cdv A out s H E hr => ?_) p_power
  · first | (obtain ⟨rfl, _⟩ := h; rfl) | (obtain ⟨_, rfl, _⟩ := h; rfl) | (obtain ⟨_, _, rfl, _⟩ := h; rfl) | (obtain ⟨_, _, _, rfl, _⟩ := h; rfl) | (obtain ⟨_, _, _, _, rfl, _⟩ := h; rfl) | (obtain ⟨_, _, _, _, _, rfl, _⟩ := h; rfl) | (obtain ⟨_, _, _, _, _, _, rfl, _⟩ := h; rfl) | (obtain ⟨_, _, _, _, _, _, _, rfl, _⟩ := h; rfl) | (obtain ⟨_, _, _, _, _, _, _, _, rfl, _⟩ := h; rfl) | (obtain ⟨_, _, _, _, _, _, _, _, _, rfl, _⟩ := h; rfl) | (obtain ⟨_, _, _, _, _, _, _, _, _, _, rfl, _⟩ := h; rfl) | (obtain ⟨_, _, _, _, _, _, _, _, _, _, _, rfl, _⟩ := h; rfl) | (obtain ⟨_, _, _, _, _, _, _, _, _, _, _, _, rfl, _⟩ := h; rfl) | (obtain ⟨_, _, _, _, _, _, _, _, _, _, _, _, _, rfl, _⟩ := h; rfl) | (obtain ⟨_, _, _, _, _, _, _, _, _, _, _, _, _, _, rfl, _⟩ := h; rfl) | (obtain ⟨_, _, _, _, _, _, _, _, _, _, _, _, _, _, _, rfl, _⟩ := h; rfl) | (obtain ⟨_, _, _, _, _, _, _, _, _, _, _, _, _, _, _, _, rfl, _⟩ := h; rfl) | (obtain ⟨_, _, _, _, _, _, _, _, _, _, _, _, _, _, _, _, _, rfl, _⟩ := h; rfl)
  · exact (fss_cons (fs_set (ps_set (i := 2) sc_power.nd rfl (by first | exact Or.inl rfl | exact Or.inr rfl) fe_int))
      (fss_cons (fs_set (ps_set (i := 3) sc_power.nd rfl (by first | exact Or.inl rfl | exact Or.inr rfl) (fe_var (pv 0))))
      (fss_cons (fs_while (ps_while PassesOwn.never (ft_cmp op_gt ok_gt (fe_var (pv 1)) fe_int (nomark _)) (fss_cons (fs_if (ft_cmp (op_eqD hr.rm.units) (ok_eq _) (fe_odd (fe_var (pv 1)) fe_int) fe_int (nomark _)) (fss_one (fs_set (ps_set (i := 2) sc_power.nd rfl (by first | exact Or.inl rfl | exact Or.inr rfl) (fe_mul (fe_var (pv 2)) (fe_var (pv 3)))))) fss_nil)
      (fss_cons (fs_set (ps_set (i := 1) sc_power.nd rfl (by first | exact Or.inl rfl | exact Or.inr rfl) (fe_half (fe_var (pv 1)) fe_int)))
      (fss_one (fs_if (ft_cmp op_gt ok_gt (fe_var (pv 1)) fe_int (nomark _)) (fss_one (fs_set (ps_set (i := 3) sc_power.nd rfl (by first | exact Or.inl rfl | exact Or.inr rfl) (fe_mul (fe_var (pv 3)) (fe_var (pv 3)))))) fss_nil))))))
      (fss_one (fs_ret (fe_var (pv 2)))))))
theorem sc_powers_apart : FnScope ["part", "number"] ["part", "number"] (defScope (top 19)) := ⟨rfl, rfl, rfl, by decide +kernel, rfl, by decide +kernel, by decide +kernel⟩
theorem ok_powers_apart (T : Tx K mg a fd) : FnG P w K mg base CX0 2 (a 19) (fd 19) ["part", "number"] (cSp s_powers_apart) := by
  refine fnD_of (t := t_powers_apart) T.F_powers_apart sc_powers_apart (fun ds n R h => ?_) (fun cdv A out s H E hr => ?_) p_powers_apart
  · first | (obtain ⟨rfl, _⟩ := h; rfl) | (obtain ⟨_, rfl, _⟩ := h; rfl) | (obtain ⟨_, _, rfl, _⟩ := h; rfl) | (obtain ⟨_, _, _, rfl, _⟩ := h; rfl) | (obtain ⟨_, _, _, _, rfl, _⟩ := h; rfl) | (obtain ⟨_, _, _, _, _, rfl, _⟩ := h; rfl) | (obtain ⟨_, _, _, _, _, _, rfl, _⟩ := h; rfl) | (obtain ⟨_, _, _, _, _, _, _, rfl, _⟩ := h; rfl) | (obtain ⟨_, _, _, _, _, _, _, _, rfl, _⟩ := h; rfl) | (obtain ⟨_, _, _, _, _, _, _, _, _, rfl, _⟩ := h; rfl) | (obtain ⟨_, _, _, _, _, _, _, _, _, _, rfl, _⟩ := h; rfl) | (obtain ⟨_, _, _, _, _, _, _, _, _, _, _, rfl, _⟩ := h; rfl) | (obtain ⟨_, _, _, _, _, _, _, _, _, _, _, _, rfl, _⟩ := h; rfl) | (obtain ⟨_, _, _, _, _, _, _, _, _, _, _, _, _, rfl, _⟩ := h; rfl) | (obtain ⟨_, _, _, _, _, _, _, _, _, _, _, _, _, _, rfl, _⟩ := h; rfl) | (obtain ⟨_, _, _, _, _, _, _, _, _, _, _, _, _, _, _, rfl, _⟩ := h; rfl) | (obtain ⟨_, _, _, _, _, _, _, _, _, _, _, _, _, _, _, _, rfl, _⟩ := h; rfl) | (obtain ⟨_, _, _, _, _, _, _, _, _, _, _, _, _, _, _, _, _, rfl, _⟩ := h; rfl)
  · exact (fss_one (fs_ret (fe_sub (fe_call (ok_power T) (hr.mono (by decide)) (by rfl) T.g_power T.F_power.kp T.b_power (fa_cons (fe_ixT (fe_var (pv 0)) fe_int (fun _ _ => rfl)) (fa_cons (fe_var (pv 1)) fa_nil))) (fe_call (ok_power T) (hr.mono (by decide)) (by rfl) T.g_power T.F_power.kp T.b_power (fa_cons (fe_ixT (fe_var (pv 0)) fe_int (fun _ _ => rfl)) (fa_cons (fe_var (pv 1)) fa_nil))))))
theorem sc_length_of : FnScope ["part", "below", "rest"] ["part", "below"] (defScope (top 20)) := ⟨rfl, rfl, rfl, by decide +kernel, rfl, by decide +kernel, by decide +kernel⟩
theorem ok_length_of (T : Tx K mg a fd) : FnG P w K mg base CX0 3 (a 20) (fd 20) ["part", "below"] (cSp s_length_of) := by
  refine fnD_of (t := t_length_of) T.F_length_of sc_length_of (fun ds n R h => ?_) (fun cdv A out s H E hr => ?_) p_length_of
  · first | (obtain ⟨rfl, _⟩ := h; rfl) | (obtain ⟨_, rfl, _⟩ := h; rfl) | (obtain ⟨_, _, rfl, _⟩ := h; rfl) | (obtain ⟨_, _, _, rfl, _⟩ := h; rfl) | (obtain ⟨_, _, _, _, rfl, _⟩ := h; rfl) | (obtain ⟨_, _, _, _, _, rfl, _⟩ := h; rfl) | (obtain ⟨_, _, _, _, _, _, rfl, _⟩ := h; rfl) | (obtain ⟨_, _, _, _, _, _, _, rfl, _⟩ := h; rfl) | (obtain ⟨_, _, _, _, _, _, _, _, rfl, _⟩ := h; rfl) | (obtain ⟨_, _, _, _, _, _, _, _, _, rfl, _⟩ := h; rfl) | (obtain ⟨_, _, _, _, _, _, _, _, _, _, rfl, _⟩ := h; rfl) | (obtain ⟨_, _, _, _, _, _, _, _, _, _, _, rfl, _⟩ := h; rfl) | (obtain ⟨_, _, _, _, _, _, _, _, _, _, _, _, rfl, _⟩ := h; rfl) | (obtain ⟨_, _, _, _, _, _, _, _, _, _, _, _, _, rfl, _⟩ := h; rfl) | (obtain ⟨_, _, _, _, _, _, _, _, _, _, _, _, _, _, rfl, _⟩ := h; rfl) | (obtain ⟨_, _, _, _, _, _, _, _, _, _, _, _, _, _, _, rfl, _⟩ := h; rfl) | (obtain ⟨_, _, _, _, _, _, _, _, _, _, _, _, _, _, _, _, rfl, _⟩ := h; rfl) | (obtain ⟨_, _, _, _, _, _, _, _, _, _, _, _, _, _, _, _, _, rfl, _⟩ := h; rfl)
  · exact (fss_cons (fs_set (ps_set (i := 2) sc_length_of.nd rfl (by first | exact Or.inl rfl | exact Or.inr rfl) (fe_sub (fe_ixT (fe_var (pv 0)) fe_int (fun _ _ => rfl)) (fe_ixT (fe_var (pv 0)) fe_int (fun _ _ => rfl)))))
      (fss_one (fs_ret (fe_tup (fa_cons (fe_mul (fe_mul (fe_var (pv 2)) (fe_var (pv 2))) (fe_call (ok_power T) (hr.mono (by decide)) (by rfl) T.g_power T.F_power.kp T.b_power (fa_cons (fe_ixT (fe_var (pv 0)) fe_int (fun _ _ => rfl)) (fa_cons (fe_sub (fe_var (pv 1)) fe_int) fa_nil)))) (fa_cons (fe_mul (fe_ixT (fe_var (pv 0)) fe_int (fun _ _ => rfl)) (fe_call (ok_powers_apart T) (hr.mono (by decide)) (by rfl) T.g_powers_apart T.F_powers_apart.kp T.b_powers_apart (fa_cons (fe_var (pv 0)) (fa_cons (fe_var (pv 1)) fa_nil)))) fa_nil))))))
theorem sc_lengths_of : FnScope ["part", "below", "many", "above", "length"] ["part", "below"] (defScope (top 21)) := ⟨rfl, rfl, rfl, by decide +kernel, rfl, by decide +kernel, by decide +kernel⟩
theorem ok_lengths_of (T : Tx K mg a fd) : FnG P w K mg base CX0 4 (a 21) (fd 21) ["part", "below"] (cSp s_lengths_of) := by
  refine fnD_of (t := t_lengths_of) T.F_lengths_of sc_lengths_of (fun ds n R h => ?_) (fun cdv A out s H E hr => ?_) p_lengths_of
  · first | (obtain ⟨rfl, _⟩ := h; rfl) | (obtain ⟨_, rfl, _⟩ := h; rfl) | (obtain ⟨_, _, rfl, _⟩ := h; rfl) | (obtain ⟨_, _, _, rfl, _⟩ := h; rfl) | (obtain ⟨_, _, _, _, rfl, _⟩ := h; rfl) | (obtain ⟨_, _, _, _, _, rfl, _⟩ := h; rfl) | (obtain ⟨_, _, _, _, _, _, rfl, _⟩ := h; rfl) | (obtain ⟨_, _, _, _, _, _, _, rfl, _⟩ := h; rfl) | (obtain ⟨_, _, _, _, _, _, _, _, rfl, _⟩ := h; rfl) | (obtain ⟨_, _, _, _, _, _, _, _, _, rfl, _⟩ := h; rfl) | (obtain ⟨_, _, _, _, _, _, _, _, _, _, rfl, _⟩ := h; rfl) | (obtain ⟨_, _, _, _, _, _, _, _, _, _, _, rfl, _⟩ := h; rfl) | (obtain ⟨_, _, _, _, _, _, _, _, _, _, _, _, rfl, _⟩ := h; rfl) | (obtain ⟨_, _, _, _, _, _, _, _, _, _, _, _, _, rfl, _⟩ := h; rfl) | (obtain ⟨_, _, _, _, _, _, _, _, _, _, _, _, _, _, rfl, _⟩ := h; rfl) | (obtain ⟨_, _, _, _, _, _, _, _, _, _, _, _, _, _, _, rfl, _⟩ := h; rfl) | (obtain ⟨_, _, _, _, _, _, _, _, _, _, _, _, _, _, _, _, rfl, _⟩ := h; rfl) | (obtain ⟨_, _, _, _, _, _, _, _, _, _, _, _, _, _, _, _, _, rfl, _⟩ := h; rfl)
  · exact (fss_cons (fs_set (ps_set (i := 2) sc_lengths_of.nd rfl (by first | exact Or.inl rfl | exact Or.inr rfl) (fe_cb (pe_callB call_len_seq (by rfl) T.n_len PySem.boot_len (fa_cons (fe_lcR2 (i := 3) (pe_lc (own := [("above", 3)]) (g := gName 3) rfl sc_lengths_of.nd (pi_range2 (by rfl) T.n_range (fa_cons fe_int (fa_cons (fe_add (fe_var (pv 1)) fe_int) fa_nil))) (blkOk_by (N := ["part", "below", "many", "above", "length"]) (sc := defScope (top 21)) (by decide +kernel)) (fun _ _ _ _ _ => (pg_name (i := 3) sc_lengths_of.nd rfl (by first | exact Or.inl rfl | exact Or.inr rfl))) (fun _ _ _ _ _ => (pts_one (ft_cmp (op_eqD hr.rm.units) (ok_eq _) (fe_cb (pe_callBfun cr_gcd (by rfl) T.m_gcd (fa_cons (fe_var (pv 3)) (fa_cons (fe_var (pv 1)) fa_nil))) ok_gcd) fe_int (nomark _)))) (fun _ _ _ _ _ => (fe_var (pv 3))))) fa_nil)) (ok_len _))))
      (fss_cons (fs_set (ps_set (i := 4) sc_lengths_of.nd rfl (by first | exact Or.inl rfl | exact Or.inr rfl) (fe_call (ok_length_of T) (hr.mono (by decide)) (by rfl) T.g_length_of T.F_length_of.kp T.b_length_of (fa_cons (fe_var (pv 0)) (fa_cons (fe_var (pv 1)) fa_nil)))))
      (fss_one (fs_ret (fe_tup (fa_cons (fe_mul (fe_var (pv 2)) (fe_ixT (fe_var (pv 4)) fe_int (fun _ _ => rfl))) (fa_cons (fe_ixT (fe_var (pv 4)) fe_int (fun _ _ => rfl)) fa_nil)))))))
theorem sc_covered : FnScope ["part", "most", "total", "below"] ["part", "most"] (defScope (top 22)) := ⟨rfl, rfl, rfl, by decide +kernel, rfl, by decide +kernel, by decide +kernel⟩
theorem ok_covered (T : Tx K mg a fd) : FnG P w K mg base CX0 13 (a 22) (fd 22) ["part", "most"] (cSp s_covered) := by
  refine fnD_of (t := t_covered) T.F_covered sc_covered (fun ds n R h => ?_) (fun cdv A out s H E hr => ?_) p_covered
  · first | (obtain ⟨rfl, _⟩ := h; rfl) | (obtain ⟨_, rfl, _⟩ := h; rfl) | (obtain ⟨_, _, rfl, _⟩ := h; rfl) | (obtain ⟨_, _, _, rfl, _⟩ := h; rfl) | (obtain ⟨_, _, _, _, rfl, _⟩ := h; rfl) | (obtain ⟨_, _, _, _, _, rfl, _⟩ := h; rfl) | (obtain ⟨_, _, _, _, _, _, rfl, _⟩ := h; rfl) | (obtain ⟨_, _, _, _, _, _, _, rfl, _⟩ := h; rfl) | (obtain ⟨_, _, _, _, _, _, _, _, rfl, _⟩ := h; rfl) | (obtain ⟨_, _, _, _, _, _, _, _, _, rfl, _⟩ := h; rfl) | (obtain ⟨_, _, _, _, _, _, _, _, _, _, rfl, _⟩ := h; rfl) | (obtain ⟨_, _, _, _, _, _, _, _, _, _, _, rfl, _⟩ := h; rfl) | (obtain ⟨_, _, _, _, _, _, _, _, _, _, _, _, rfl, _⟩ := h; rfl) | (obtain ⟨_, _, _, _, _, _, _, _, _, _, _, _, _, rfl, _⟩ := h; rfl) | (obtain ⟨_, _, _, _, _, _, _, _, _, _, _, _, _, _, rfl, _⟩ := h; rfl) | (obtain ⟨_, _, _, _, _, _, _, _, _, _, _, _, _, _, _, rfl, _⟩ := h; rfl) | (obtain ⟨_, _, _, _, _, _, _, _, _, _, _, _, _, _, _, _, rfl, _⟩ := h; rfl) | (obtain ⟨_, _, _, _, _, _, _, _, _, _, _, _, _, _, _, _, _, rfl, _⟩ := h; rfl)
  · exact (fss_cons (fs_expr (fe_call (ok_need_part T) (hr.mono (by decide)) (by rfl) T.g_need_part T.F_need_part.kp T.b_need_part (fa_cons (fe_var (pv 0)) fa_nil)))
      (fss_cons (fs_expr (fe_call (ok_need_number T) (hr.mono (by decide)) (by rfl) T.g_need_number T.F_need_number.kp T.b_need_number (fa_cons (fe_var (pv 1)) (fa_cons fe_int (fa_cons (fe_cint (by rfl) T.c_MOST_BELOW_OF_MEAN) fa_nil)))))
      (fss_cons (fs_set (ps_set (i := 2) sc_covered.nd rfl (by first | exact Or.inl rfl | exact Or.inr rfl) (fe_call (ok_total_of T) (hr.mono (by decide)) (by rfl) T.g_total_of T.F_total_of.kp T.b_total_of (fa_cons (fe_lcR2 (i := 3) (pe_lc (own := [("below", 3)]) (g := gName 3) rfl sc_covered.nd (pi_range2 (by rfl) T.n_range (fa_cons fe_int (fa_cons (fe_add (fe_var (pv 1)) fe_int) fa_nil))) (blkOk_by (N := ["part", "most", "total", "below"]) (sc := defScope (top 22)) (by decide +kernel)) (fun _ _ _ _ _ => (pg_name (i := 3) sc_covered.nd rfl (by first | exact Or.inl rfl | exact Or.inr rfl))) (fun _ _ _ _ _ => ptd_nil) (fun _ _ _ _ _ => (fe_call (ok_lengths_of T) (hr.mono (by decide)) (by rfl) T.g_lengths_of T.F_lengths_of.kp T.b_lengths_of (fa_cons (fe_var (pv 0)) (fa_cons (fe_var (pv 3)) fa_nil)))))) fa_nil))))
      (fss_one (fs_ret (fe_call (ok_reduced T) (hr.mono (by decide)) (by rfl) T.g_reduced T.F_reduced.kp T.b_reduced (fa_cons (fe_ixT (fe_var (pv 2)) fe_int (fun _ _ => rfl)) (fa_cons (fe_ixT (fe_var (pv 2)) fe_int (fun _ _ => rfl)) fa_nil))))))))
theorem sc__law_minus : FnScope ["one", "two"] ["one", "two"] (defScope (top 31)) := ⟨rfl, rfl, rfl, by decide +kernel, rfl, by decide +kernel, by decide +kernel⟩
theorem ok__law_minus (T : Tx K mg a fd) : FnG P w K mg base CX0 3 (a 31) (fd 31) ["one", "two"] (cSp s__law_minus) := by
  refine fnD_of (t := t__law_minus) T.F__law_minus sc__law_minus (fun ds n R h => ?_) (fun cdv A out s H E hr => ?_) p__law_minus
  · first | (obtain ⟨rfl, _⟩ := h; rfl) | (obtain ⟨_, rfl, _⟩ := h; rfl) | (obtain ⟨_, _, rfl, _⟩ := h; rfl) | (obtain ⟨_, _, _, rfl, _⟩ := h; rfl) | (obtain ⟨_, _, _, _, rfl, _⟩ := h; rfl) | (obtain ⟨_, _, _, _, _, rfl, _⟩ := h; rfl) | (obtain ⟨_, _, _, _, _, _, rfl, _⟩ := h; rfl) | (obtain ⟨_, _, _, _, _, _, _, rfl, _⟩ := h; rfl) | (obtain ⟨_, _, _, _, _, _, _, _, rfl, _⟩ := h; rfl) | (obtain ⟨_, _, _, _, _, _, _, _, _, rfl, _⟩ := h; rfl) | (obtain ⟨_, _, _, _, _, _, _, _, _, _, rfl, _⟩ := h; rfl) | (obtain ⟨_, _, _, _, _, _, _, _, _, _, _, rfl, _⟩ := h; rfl) | (obtain ⟨_, _, _, _, _, _, _, _, _, _, _, _, rfl, _⟩ := h; rfl) | (obtain ⟨_, _, _, _, _, _, _, _, _, _, _, _, _, rfl, _⟩ := h; rfl) | (obtain ⟨_, _, _, _, _, _, _, _, _, _, _, _, _, _, rfl, _⟩ := h; rfl) | (obtain ⟨_, _, _, _, _, _, _, _, _, _, _, _, _, _, _, rfl, _⟩ := h; rfl) | (obtain ⟨_, _, _, _, _, _, _, _, _, _, _, _, _, _, _, _, rfl, _⟩ := h; rfl) | (obtain ⟨_, _, _, _, _, _, _, _, _, _, _, _, _, _, _, _, _, rfl, _⟩ := h; rfl)
  · exact (fss_one (fs_ret (fe_call (ok__law_share T) (hr.mono (by decide)) (by rfl) T.g__law_share T.F__law_share.kp T.b__law_share (fa_cons (fe_sub (fe_mul (fe_ixT (fe_var (pv 0)) fe_int (fun _ _ => rfl)) (fe_ixT (fe_var (pv 1)) fe_int (fun _ _ => rfl))) (fe_mul (fe_ixT (fe_var (pv 1)) fe_int (fun _ _ => rfl)) (fe_ixT (fe_var (pv 0)) fe_int (fun _ _ => rfl)))) (fa_cons (fe_mul (fe_ixT (fe_var (pv 0)) fe_int (fun _ _ => rfl)) (fe_ixT (fe_var (pv 1)) fe_int (fun _ _ => rfl))) fa_nil)))))
theorem sc__law_power : FnScope ["one", "times_so", "found", "step"] ["one", "times_so"] (defScope (top 35)) := ⟨rfl, rfl, rfl, by decide +kernel, rfl, by decide +kernel, by decide +kernel⟩
theorem ok__law_power (T : Tx K mg a fd) : FnG P w K mg base CX0 4 (a 35) (fd 35) ["one", "times_so"] (cSp s__law_power) := by
  refine fnD_of (t := t__law_power) T.F__law_power sc__law_power (fun ds n R h => ?_) (fun cdv A out s H E hr => ?_) p__law_power
  · first | (obtain ⟨rfl, _⟩ := h; rfl) | (obtain ⟨_, rfl, _⟩ := h; rfl) | (obtain ⟨_, _, rfl, _⟩ := h; rfl) | (obtain ⟨_, _, _, rfl, _⟩ := h; rfl) | (obtain ⟨_, _, _, _, rfl, _⟩ := h; rfl) | (obtain ⟨_, _, _, _, _, rfl, _⟩ := h; rfl) | (obtain ⟨_, _, _, _, _, _, rfl, _⟩ := h; rfl) | (obtain ⟨_, _, _, _, _, _, _, rfl, _⟩ := h; rfl) | (obtain ⟨_, _, _, _, _, _, _, _, rfl, _⟩ := h; rfl) | (obtain ⟨_, _, _, _, _, _, _, _, _, rfl, _⟩ := h; rfl) | (obtain ⟨_, _, _, _, _, _, _, _, _, _, rfl, _⟩ := h; rfl) | (obtain ⟨_, _, _, _, _, _, _, _, _, _, _, rfl, _⟩ := h; rfl) | (obtain ⟨_, _, _, _, _, _, _, _, _, _, _, _, rfl, _⟩ := h; rfl) | (obtain ⟨_, _, _, _, _, _, _, _, _, _, _, _, _, rfl, _⟩ := h; rfl) | (obtain ⟨_, _, _, _, _, _, _, _, _, _, _, _, _, _, rfl, _⟩ := h; rfl) | (obtain ⟨_, _, _, _, _, _, _, _, _, _, _, _, _, _, _, rfl, _⟩ := h; rfl) | (obtain ⟨_, _, _, _, _, _, _, _, _, _, _, _, _, _, _, _, rfl, _⟩ := h; rfl) | (obtain ⟨_, _, _, _, _, _, _, _, _, _, _, _, _, _, _, _, _, rfl, _⟩ := h; rfl)
  · exact (fss_cons (fs_set (ps_set (i := 2) sc__law_power.nd rfl (by first | exact Or.inl rfl | exact Or.inr rfl) (fe_tup (fa_cons fe_int (fa_cons fe_int fa_nil)))))
      (fss_cons (fs_forR (i := 3) (ps_for PassesOwn.never rfl (pi_range1 (by rfl) T.n_range (pa_cons (fe_var (pv 1)) pa_nil)) (pg_name (i := 3) sc__law_power.nd rfl (by first | exact Or.inl rfl | exact Or.inr rfl)) (fss_one (fs_set (ps_set (i := 2) sc__law_power.nd rfl (by first | exact Or.inl rfl | exact Or.inr rfl) (fe_call (ok__law_times T) (hr.mono (by decide)) (by rfl) T.g__law_times T.F__law_times.kp T.b__law_times (fa_cons (fe_var (pv 2)) (fa_cons (fe_var (pv 0)) fa_nil))))))))
      (fss_one (fs_ret (fe_var (pv 2))))))
theorem sc__law_over : FnScope ["one", "two"] ["one", "two"] (defScope (top 33)) := ⟨rfl, rfl, rfl, by decide +kernel, rfl, by decide +kernel, by decide +kernel⟩
theorem ok__law_over (T : Tx K mg a fd) : FnG P w K mg base CX0 3 (a 33) (fd 33) ["one", "two"] (cSp s__law_over) := by
  refine fnD_of (t := t__law_over) T.F__law_over sc__law_over (fun ds n R h => ?_) (fun cdv A out s H E hr => ?_) p__law_over
  · first | (obtain ⟨rfl, _⟩ := h; rfl) | (obtain ⟨_, rfl, _⟩ := h; rfl) | (obtain ⟨_, _, rfl, _⟩ := h; rfl) | (obtain ⟨_, _, _, rfl, _⟩ := h; rfl) | (obtain ⟨_, _, _, _, rfl, _⟩ := h; rfl) | (obtain ⟨_, _, _, _, _, rfl, _⟩ := h; rfl) | (obtain ⟨_, _, _, _, _, _, rfl, _⟩ := h; rfl) | (obtain ⟨_, _, _, _, _, _, _, rfl, _⟩ := h; rfl) | (obtain ⟨_, _, _, _, _, _, _, _, rfl, _⟩ := h; rfl) | (obtain ⟨_, _, _, _, _, _, _, _, _, rfl, _⟩ := h; rfl) | (obtain ⟨_, _, _, _, _, _, _, _, _, _, rfl, _⟩ := h; rfl) | (obtain ⟨_, _, _, _, _, _, _, _, _, _, _, rfl, _⟩ := h; rfl) | (obtain ⟨_, _, _, _, _, _, _, _, _, _, _, _, rfl, _⟩ := h; rfl) | (obtain ⟨_, _, _, _, _, _, _, _, _, _, _, _, _, rfl, _⟩ := h; rfl) | (obtain ⟨_, _, _, _, _, _, _, _, _, _, _, _, _, _, rfl, _⟩ := h; rfl) | (obtain ⟨_, _, _, _, _, _, _, _, _, _, _, _, _, _, _, rfl, _⟩ := h; rfl) | (obtain ⟨_, _, _, _, _, _, _, _, _, _, _, _, _, _, _, _, rfl, _⟩ := h; rfl) | (obtain ⟨_, _, _, _, _, _, _, _, _, _, _, _, _, _, _, _, _, rfl, _⟩ := h; rfl)
  · exact (fss_one (fs_ret (fe_call (ok__law_share T) (hr.mono (by decide)) (by rfl) T.g__law_share T.F__law_share.kp T.b__law_share (fa_cons (fe_mul (fe_ixT (fe_var (pv 0)) fe_int (fun _ _ => rfl)) (fe_ixT (fe_var (pv 1)) fe_int (fun _ _ => rfl))) (fa_cons (fe_mul (fe_ixT (fe_var (pv 0)) fe_int (fun _ _ => rfl)) (fe_ixT (fe_var (pv 1)) fe_int (fun _ _ => rfl))) fa_nil)))))
theorem sc__law_wide : FnScope ["cut_so", "below", "left", "power_v"] ["cut_so", "below"] (defScope (top 39)) := ⟨rfl, rfl, rfl, by decide +kernel, rfl, by decide +kernel, by decide +kernel⟩
theorem ok__law_wide (T : Tx K mg a fd) : FnG P w K mg base CX0 5 (a 39) (fd 39) ["cut_so", "below"] (cSp s__law_wide) := by
  refine fnD_of (t := t__law_wide) T.F__law_wide sc__law_wide (fun ds n R h => ?_) (fun cdv A out s H E hr => ?_) p__law_wide
  · first | (obtain ⟨rfl, _⟩ := h; rfl) | (obtain ⟨_, rfl, _⟩ := h; rfl) | (obtain ⟨_, _, rfl, _⟩ := h; rfl) | (obtain ⟨_, _, _, rfl, _⟩ := h; rfl) | (obtain ⟨_, _, _, _, rfl, _⟩ := h; rfl) | (obtain ⟨_, _, _, _, _, rfl, _⟩ := h; rfl) | (obtain ⟨_, _, _, _, _, _, rfl, _⟩ := h; rfl) | (obtain ⟨_, _, _, _, _, _, _, rfl, _⟩ := h; rfl) | (obtain ⟨_, _, _, _, _, _, _, _, rfl, _⟩ := h; rfl) | (obtain ⟨_, _, _, _, _, _, _, _, _, rfl, _⟩ := h; rfl) | (obtain ⟨_, _, _, _, _, _, _, _, _, _, rfl, _⟩ := h; rfl) | (obtain ⟨_, _, _, _, _, _, _, _, _, _, _, rfl, _⟩ := h; rfl) | (obtain ⟨_, _, _, _, _, _, _, _, _, _, _, _, rfl, _⟩ := h; rfl) | (obtain ⟨_, _, _, _, _, _, _, _, _, _, _, _, _, rfl, _⟩ := h; rfl) | (obtain ⟨_, _, _, _, _, _, _, _, _, _, _, _, _, _, rfl, _⟩ := h; rfl) | (obtain ⟨_, _, _, _, _, _, _, _, _, _, _, _, _, _, _, rfl, _⟩ := h; rfl) | (obtain ⟨_, _, _, _, _, _, _, _, _, _, _, _, _, _, _, _, rfl, _⟩ := h; rfl) | (obtain ⟨_, _, _, _, _, _, _, _, _, _, _, _, _, _, _, _, _, rfl, _⟩ := h; rfl)
  · exact (fss_cons (fs_set (ps_set (i := 2) sc__law_wide.nd rfl (by first | exact Or.inl rfl | exact Or.inr rfl) (fe_call (ok__law_minus T) (hr.mono (by decide)) (by rfl) T.g__law_minus T.F__law_minus.kp T.b__law_minus (fa_cons (fe_tup (fa_cons fe_int (fa_cons fe_int fa_nil))) (fa_cons (fe_var (pv 0)) fa_nil)))))
      (fss_cons (fs_set (ps_set (i := 3) sc__law_wide.nd rfl (by first | exact Or.inl rfl | exact Or.inr rfl) (fe_call (ok__law_power T) (hr.mono (by decide)) (by rfl) T.g__law_power T.F__law_power.kp T.b__law_power (fa_cons (fe_var (pv 0)) (fa_cons (fe_sub (fe_var (pv 1)) fe_int) fa_nil)))))
      (fss_one (fs_ret (fe_call (ok__law_over T) (hr.mono (by decide)) (by rfl) T.g__law_over T.F__law_over.kp T.b__law_over (fa_cons (fe_call (ok__law_times T) (hr.mono (by decide)) (by rfl) T.g__law_times T.F__law_times.kp T.b__law_times (fa_cons (fe_call (ok__law_times T) (hr.mono (by decide)) (by rfl) T.g__law_times T.F__law_times.kp T.b__law_times (fa_cons (fe_var (pv 2)) (fa_cons (fe_var (pv 2)) fa_nil))) (fa_cons (fe_var (pv 3)) fa_nil))) (fa_cons (fe_call (ok__law_minus T) (hr.mono (by decide)) (by rfl) T.g__law_minus T.F__law_minus.kp T.b__law_minus (fa_cons (fe_tup (fa_cons fe_int (fa_cons fe_int fa_nil))) (fa_cons (fe_call (ok__law_times T) (hr.mono (by decide)) (by rfl) T.g__law_times T.F__law_times.kp T.b__law_times (fa_cons (fe_var (pv 3)) (fa_cons (fe_var (pv 0)) fa_nil))) fa_nil))) fa_nil)))))))
theorem sc__law_plus : FnScope ["one", "two"] ["one", "two"] (defScope (top 30)) := ⟨rfl, rfl, rfl, by decide +kernel, rfl, by decide +kernel, by decide +kernel⟩
theorem ok__law_plus (T : Tx K mg a fd) : FnG P w K mg base CX0 3 (a 30) (fd 30) ["one", "two"] (cSp s__law_plus) := by
  refine fnD_of (t := t__law_plus) T.F__law_plus sc__law_plus (fun ds n R h => ?_) (fun cdv A out s H E hr => ?_) p__law_plus
  · first | (obtain ⟨rfl, _⟩ := h; rfl) | (obtain ⟨_, rfl, _⟩ := h; rfl) | (obtain ⟨_, _, rfl, _⟩ := h; rfl) | (obtain ⟨_, _, _, rfl, _⟩ := h; rfl) | (obtain ⟨_, _, _, _, rfl, _⟩ := h; rfl) | (obtain ⟨_, _, _, _, _, rfl, _⟩ := h; rfl) | (obtain ⟨_, _, _, _, _, _, rfl, _⟩ := h; rfl) | (obtain ⟨_, _, _, _, _, _, _, rfl, _⟩ := h; rfl) | (obtain ⟨_, _, _, _, _, _, _, _, rfl, _⟩ := h; rfl) | (obtain ⟨_, _, _, _, _, _, _, _, _, rfl, _⟩ := h; rfl) | (obtain ⟨_, _, _, _, _, _, _, _, _, _, rfl, _⟩ := h; rfl) | (obtain ⟨_, _, _, _, _, _, _, _, _, _, _, rfl, _⟩ := h; rfl) | (obtain ⟨_, _, _, _, _, _, _, _, _, _, _, _, rfl, _⟩ := h; rfl) | (obtain ⟨_, _, _, _, _, _, _, _, _, _, _, _, _, rfl, _⟩ := h; rfl) | (obtain ⟨_, _, _, _, _, _, _, _, _, _, _, _, _, _, rfl, _⟩ := h; rfl) | (obtain ⟨_, _, _, _, _, _, _, _, _, _, _, _, _, _, _, rfl, _⟩ := h; rfl) | (obtain ⟨_, _, _, _, _, _, _, _, _, _, _, _, _, _, _, _, rfl, _⟩ := h; rfl) | (obtain ⟨_, _, _, _, _, _, _, _, _, _, _, _, _, _, _, _, _, rfl, _⟩ := h; rfl)
  · exact (fss_one (fs_ret (fe_call (ok__law_share T) (hr.mono (by decide)) (by rfl) T.g__law_share T.F__law_share.kp T.b__law_share (fa_cons (fe_add (fe_mul (fe_ixT (fe_var (pv 0)) fe_int (fun _ _ => rfl)) (fe_ixT (fe_var (pv 1)) fe_int (fun _ _ => rfl))) (fe_mul (fe_ixT (fe_var (pv 1)) fe_int (fun _ _ => rfl)) (fe_ixT (fe_var (pv 0)) fe_int (fun _ _ => rfl)))) (fa_cons (fe_mul (fe_ixT (fe_var (pv 0)) fe_int (fun _ _ => rfl)) (fe_ixT (fe_var (pv 1)) fe_int (fun _ _ => rfl))) fa_nil)))))
theorem sc__law_floors : FnScope ["cut_so", "pair_so", "above", "below", "one", "power_v", "step", "rest", "whole", "more"] ["cut_so", "pair_so"] (defScope (top 36)) := ⟨rfl, rfl, rfl, by decide +kernel, rfl, by decide +kernel, by decide +kernel⟩
theorem ok__law_floors (T : Tx K mg a fd) : FnG P w K mg base CX0 4 (a 36) (fd 36) ["cut_so", "pair_so"] (cSp s__law_floors) := by
  refine fnD_of (t := t__law_floors) T.F__law_floors sc__law_floors (fun ds n R h => ?_) (fun cdv A out s H E hr => ?_) p__law_floors
  · first | (obtain ⟨rfl, _⟩ := h; rfl) | (obtain ⟨_, rfl, _⟩ := h; rfl) | (obtain ⟨_, _, rfl, _⟩ := h; rfl) | (obtain ⟨_, _, _, rfl, _⟩ := h; rfl) | (obtain ⟨_, _, _, _, rfl, _⟩ := h; rfl) | (obtain ⟨_, _, _, _, _, rfl, _⟩ := h; rfl) | (obtain ⟨_, _, _, _, _, _, rfl, _⟩ := h; rfl) | (obtain ⟨_, _, _, _, _, _, _, rfl, _⟩ := h; rfl) | (obtain ⟨_, _, _, _, _, _, _, _, rfl, _⟩ := h; rfl) | (obtain ⟨_, _, _, _, _, _, _, _, _, rfl, _⟩ := h; rfl) | (obtain ⟨_, _, _, _, _, _, _, _, _, _, rfl, _⟩ := h; rfl) | (obtain ⟨_, _, _, _, _, _, _, _, _, _, _, rfl, _⟩ := h; rfl) | (obtain ⟨_, _, _, _, _, _, _, _, _, _, _, _, rfl, _⟩ := h; rfl) | (obtain ⟨_, _, _, _, _, _, _, _, _, _, _, _, _, rfl, _⟩ := h; rfl) | (obtain ⟨_, _, _, _, _, _, _, _, _, _, _, _, _, _, rfl, _⟩ := h; rfl) | (obtain ⟨_, _, _, _, _, _, _, _, _, _, _, _, _, _, _, rfl, _⟩ := h; rfl) | (obtain ⟨_, _, _, _, _, _, _, _, _, _, _, _, _, _, _, _, rfl, _⟩ := h; rfl) | (obtain ⟨_, _, _, _, _, _, _, _, _, _, _, _, _, _, _, _, _, rfl, _⟩ := h; rfl)
  · exact (fss_cons (fs_unp (is := [2, 3]) (k := 2) rfl (ps_asg (fe_var (pv 1)) (pg_tup rfl (pgs_cons (pg_name (i := 2) sc__law_floors.nd rfl (by first | exact Or.inl rfl | exact Or.inr rfl)) (pgs_cons (pg_name (i := 3) sc__law_floors.nd rfl (by first | exact Or.inl rfl | exact Or.inr rfl)) pgs_nil)))))
      (fss_cons (fs_unp (is := [4, 5]) (k := 2) rfl (ps_asg (fe_tup (fa_cons (fe_tup (fa_cons fe_int (fa_cons fe_int fa_nil))) (fa_cons (fe_tup (fa_cons fe_int (fa_cons fe_int fa_nil))) fa_nil))) (pg_tup rfl (pgs_cons (pg_name (i := 4) sc__law_floors.nd rfl (by first | exact Or.inl rfl | exact Or.inr rfl)) (pgs_cons (pg_name (i := 5) sc__law_floors.nd rfl (by first | exact Or.inl rfl | exact Or.inr rfl)) pgs_nil)))))
      (fss_cons (fs_forR2 (i := 6) (ps_for PassesOwn.never rfl (pi_range2 (by rfl) T.n_range (fa_cons fe_int (fa_cons (fe_add (fe_var (pv 3)) fe_int) fa_nil))) (pg_name (i := 6) sc__law_floors.nd rfl (by first | exact Or.inl rfl | exact Or.inr rfl)) (fss_cons (fs_set (ps_set (i := 4) sc__law_floors.nd rfl (by first | exact Or.inl rfl | exact Or.inr rfl) (fe_call (ok__law_plus T) (hr.mono (by decide)) (by rfl) T.g__law_plus T.F__law_plus.kp T.b__law_plus (fa_cons (fe_var (pv 4)) (fa_cons (fe_call (ok__law_times T) (hr.mono (by decide)) (by rfl) T.g__law_times T.F__law_times.kp T.b__law_times (fa_cons (fe_var (pv 5)) (fa_cons (fe_tup (fa_cons (fe_fdiv (fe_mul (fe_var (pv 6)) (fe_var (pv 2))) (fe_var (pv 3))) (fa_cons fe_int fa_nil))) fa_nil))) fa_nil)))))
      (fss_one (fs_set (ps_set (i := 5) sc__law_floors.nd rfl (by first | exact Or.inl rfl | exact Or.inr rfl) (fe_call (ok__law_times T) (hr.mono (by decide)) (by rfl) T.g__law_times T.F__law_times.kp T.b__law_times (fa_cons (fe_var (pv 5)) (fa_cons (fe_var (pv 0)) fa_nil)))))))))
      (fss_cons (fs_set (ps_set (i := 7) sc__law_floors.nd rfl (by first | exact Or.inl rfl | exact Or.inr rfl) (fe_call (ok__law_minus T) (hr.mono (by decide)) (by rfl) T.g__law_minus T.F__law_minus.kp T.b__law_minus (fa_cons (fe_tup (fa_cons fe_int (fa_cons fe_int fa_nil))) (fa_cons (fe_var (pv 5)) fa_nil)))))
      (fss_cons (fs_set (ps_set (i := 8) sc__law_floors.nd rfl (by first | exact Or.inl rfl | exact Or.inr rfl) (fe_call (ok__law_over T) (hr.mono (by decide)) (by rfl) T.g__law_over T.F__law_over.kp T.b__law_over (fa_cons (fe_var (pv 7)) (fa_cons (fe_call (ok__law_minus T) (hr.mono (by decide)) (by rfl) T.g__law_minus T.F__law_minus.kp T.b__law_minus (fa_cons (fe_tup (fa_cons fe_int (fa_cons fe_int fa_nil))) (fa_cons (fe_var (pv 0)) fa_nil))) fa_nil)))))
      (fss_cons (fs_set (ps_set (i := 9) sc__law_floors.nd rfl (by first | exact Or.inl rfl | exact Or.inr rfl) (fe_call (ok__law_over T) (hr.mono (by decide)) (by rfl) T.g__law_over T.F__law_over.kp T.b__law_over (fa_cons (fe_var (pv 5)) (fa_cons (fe_call (ok__law_times T) (hr.mono (by decide)) (by rfl) T.g__law_times T.F__law_times.kp T.b__law_times (fa_cons (fe_var (pv 7)) (fa_cons (fe_var (pv 7)) fa_nil))) fa_nil)))))
      (fss_one (fs_ret (fe_call (ok__law_plus T) (hr.mono (by decide)) (by rfl) T.g__law_plus T.F__law_plus.kp T.b__law_plus (fa_cons (fe_call (ok__law_over T) (hr.mono (by decide)) (by rfl) T.g__law_over T.F__law_over.kp T.b__law_over (fa_cons (fe_var (pv 4)) (fa_cons (fe_var (pv 7)) fa_nil))) (fa_cons (fe_call (ok__law_times T) (hr.mono (by decide)) (by rfl) T.g__law_times T.F__law_times.kp T.b__law_times (fa_cons (fe_call (ok__law_times T) (hr.mono (by decide)) (by rfl) T.g__law_times T.F__law_times.kp T.b__law_times (fa_cons (fe_tup (fa_cons (fe_var (pv 2)) (fa_cons fe_int fa_nil))) (fa_cons (fe_var (pv 8)) fa_nil))) (fa_cons (fe_var (pv 9)) fa_nil))) fa_nil)))))))))))
theorem sc__law_ends : FnScope ["cut_so", "pair_so", "left", "far", "power_v", "rest"] ["cut_so", "pair_so"] (defScope (top 37)) := ⟨rfl, rfl, rfl, by decide +kernel, rfl, by decide +kernel, by decide +kernel⟩
theorem ok__law_ends (T : Tx K mg a fd) : FnG P w K mg base CX0 5 (a 37) (fd 37) ["cut_so", "pair_so"] (cSp s__law_ends) := by
  refine fnD_of (t := t__law_ends) T.F__law_ends sc__law_ends (fun ds n R h => ?_) (fun cdv A out s H E hr => ?_) p__law_ends
  · first | (obtain ⟨rfl, _⟩ := h; rfl) | (obtain ⟨_, rfl, _⟩ := h; rfl) | (obtain ⟨_, _, rfl, _⟩ := h; rfl) | (obtain ⟨_, _, _, rfl, _⟩ := h; rfl) | (obtain ⟨_, _, _, _, rfl, _⟩ := h; rfl) | (obtain ⟨_, _, _, _, _, rfl, _⟩ := h; rfl) | (obtain ⟨_, _, _, _, _, _, rfl, _⟩ := h; rfl) | (obtain ⟨_, _, _, _, _, _, _, rfl, _⟩ := h; rfl) | (obtain ⟨_, _, _, _, _, _, _, _, rfl, _⟩ := h; rfl) | (obtain ⟨_, _, _, _, _, _, _, _, _, rfl, _⟩ := h; rfl) | (obtain ⟨_, _, _, _, _, _, _, _, _, _, rfl, _⟩ := h; rfl) | (obtain ⟨_, _, _, _, _, _, _, _, _, _, _, rfl, _⟩ := h; rfl) | (obtain ⟨_, _, _, _, _, _, _, _, _, _, _, _, rfl, _⟩ := h; rfl) | (obtain ⟨_, _, _, _, _, _, _, _, _, _, _, _, _, rfl, _⟩ := h; rfl) | (obtain ⟨_, _, _, _, _, _, _, _, _, _, _, _, _, _, rfl, _⟩ := h; rfl) | (obtain ⟨_, _, _, _, _, _, _, _, _, _, _, _, _, _, _, rfl, _⟩ := h; rfl) | (obtain ⟨_, _, _, _, _, _, _, _, _, _, _, _, _, _, _, _, rfl, _⟩ := h; rfl) | (obtain ⟨_, _, _, _, _, _, _, _, _, _, _, _, _, _, _, _, _, rfl, _⟩ := h; rfl)
  · exact (fss_cons (fs_set (ps_set (i := 2) sc__law_ends.nd rfl (by first | exact Or.inl rfl | exact Or.inr rfl) (fe_call (ok__law_minus T) (hr.mono (by decide)) (by rfl) T.g__law_minus T.F__law_minus.kp T.b__law_minus (fa_cons (fe_tup (fa_cons fe_int (fa_cons fe_int fa_nil))) (fa_cons (fe_var (pv 0)) fa_nil)))))
      (fss_cons (fs_set (ps_set (i := 3) sc__law_ends.nd rfl (by first | exact Or.inl rfl | exact Or.inr rfl) (fe_call (ok__law_times T) (hr.mono (by decide)) (by rfl) T.g__law_times T.F__law_times.kp T.b__law_times (fa_cons (fe_call (ok__law_times T) (hr.mono (by decide)) (by rfl) T.g__law_times T.F__law_times.kp T.b__law_times (fa_cons (fe_var (pv 2)) (fa_cons (fe_var (pv 2)) fa_nil))) (fa_cons (fe_call (ok__law_floors T) (hr.mono (by decide)) (by rfl) T.g__law_floors T.F__law_floors.kp T.b__law_floors (fa_cons (fe_var (pv 0)) (fa_cons (fe_var (pv 1)) fa_nil))) fa_nil)))))
      (fss_cons (fs_set (ps_set (i := 4) sc__law_ends.nd rfl (by first | exact Or.inl rfl | exact Or.inr rfl) (fe_call (ok__law_power T) (hr.mono (by decide)) (by rfl) T.g__law_power T.F__law_power.kp T.b__law_power (fa_cons (fe_var (pv 0)) (fa_cons (fe_sub (fe_ixT (fe_var (pv 1)) fe_int (fun _ _ => rfl)) fe_int) fa_nil)))))
      (fss_cons (fs_set (ps_set (i := 5) sc__law_ends.nd rfl (by first | exact Or.inl rfl | exact Or.inr rfl) (fe_call (ok__law_minus T) (hr.mono (by decide)) (by rfl) T.g__law_minus T.F__law_minus.kp T.b__law_minus (fa_cons (fe_tup (fa_cons fe_int (fa_cons fe_int fa_nil))) (fa_cons (fe_call (ok__law_times T) (hr.mono (by decide)) (by rfl) T.g__law_times T.F__law_times.kp T.b__law_times (fa_cons (fe_var (pv 4)) (fa_cons (fe_var (pv 0)) fa_nil))) fa_nil)))))
      (fss_one (fs_ret (fe_tup (fa_cons (fe_call (ok__law_minus T) (hr.mono (by decide)) (by rfl) T.g__law_minus T.F__law_minus.kp T.b__law_minus (fa_cons (fe_var (pv 3)) (fa_cons (fe_call (ok__law_over T) (hr.mono (by decide)) (by rfl) T.g__law_over T.F__law_over.kp T.b__law_over (fa_cons (fe_call (ok__law_times T) (hr.mono (by decide)) (by rfl) T.g__law_times T.F__law_times.kp T.b__law_times (fa_cons (fe_call (ok__law_times T) (hr.mono (by decide)) (by rfl) T.g__law_times T.F__law_times.kp T.b__law_times (fa_cons (fe_var (pv 2)) (fa_cons (fe_var (pv 2)) fa_nil))) (fa_cons (fe_var (pv 4)) fa_nil))) (fa_cons (fe_var (pv 5)) fa_nil))) fa_nil))) (fa_cons (fe_var (pv 3)) fa_nil)))))))))
theorem sc__law_below : FnScope ["one", "two"] ["one", "two"] (defScope (top 34)) := ⟨rfl, rfl, rfl, by decide +kernel, rfl, by decide +kernel, by decide +kernel⟩
theorem ok__law_below (T : Tx K mg a fd) : FnG P w K mg base CX0 1 (a 34) (fd 34) ["one", "two"] (cSp s__law_below) := by
  refine fnD_of (t := t__law_below) T.F__law_below sc__law_below (fun ds n R h => ?_) (fun cdv A out s H E hr => ?_) p__law_below
  · first | (obtain ⟨rfl, _⟩ := h; rfl) | (obtain ⟨_, rfl, _⟩ := h; rfl) | (obtain ⟨_, _, rfl, _⟩ := h; rfl) | (obtain ⟨_, _, _, rfl, _⟩ := h; rfl) | (obtain ⟨_, _, _, _, rfl, _⟩ := h; rfl) | (obtain ⟨_, _, _, _, _, rfl, _⟩ := h; rfl) | (obtain ⟨_, _, _, _, _, _, rfl, _⟩ := h; rfl) | (obtain ⟨_, _, _, _, _, _, _, rfl, _⟩ := h; rfl) | (obtain ⟨_, _, _, _, _, _, _, _, rfl, _⟩ := h; rfl) | (obtain ⟨_, _, _, _, _, _, _, _, _, rfl, _⟩ := h; rfl) | (obtain ⟨_, _, _, _, _, _, _, _, _, _, rfl, _⟩ := h; rfl) | (obtain ⟨_, _, _, _, _, _, _, _, _, _, _, rfl, _⟩ := h; rfl) | (obtain ⟨_, _, _, _, _, _, _, _, _, _, _, _, rfl, _⟩ := h; rfl) | (obtain ⟨_, _, _, _, _, _, _, _, _, _, _, _, _, rfl, _⟩ := h; rfl) | (obtain ⟨_, _, _, _, _, _, _, _, _, _, _, _, _, _, rfl, _⟩ := h; rfl) | (obtain ⟨_, _, _, _, _, _, _, _, _, _, _, _, _, _, _, rfl, _⟩ := h; rfl) | (obtain ⟨_, _, _, _, _, _, _, _, _, _, _, _, _, _, _, _, rfl, _⟩ := h; rfl) | (obtain ⟨_, _, _, _, _, _, _, _, _, _, _, _, _, _, _, _, _, rfl, _⟩ := h; rfl)
  · exact (fss_one (fs_ret (fe_cmp op_lt ok_lt (fe_mul (fe_ixT (fe_var (pv 0)) fe_int (fun _ _ => rfl)) (fe_ixT (fe_var (pv 1)) fe_int (fun _ _ => rfl))) (fe_mul (fe_ixT (fe_var (pv 1)) fe_int (fun _ _ => rfl)) (fe_ixT (fe_var (pv 0)) fe_int (fun _ _ => rfl))) (nomark _))))
theorem sc__law_together : FnScope ["cut_so", "most_so", "found", "below", "above"] ["cut_so", "most_so"] (defScope (top 40)) := ⟨rfl, rfl, rfl, by decide +kernel, rfl, by decide +kernel, by decide +kernel⟩
theorem ok__law_together (T : Tx K mg a fd) : FnG P w K mg base CX0 6 (a 40) (fd 40) ["cut_so", "most_so"] (cSp s__law_together) := by
  refine fnD_of (t := t__law_together) T.F__law_together sc__law_together (fun ds n R h => ?_) (fun cdv A out s H E hr => ?_) p__law_together
  · first | (obtain ⟨rfl, _⟩ := h; rfl) | (obtain ⟨_, rfl, _⟩ := h; rfl) | (obtain ⟨_, _, rfl, _⟩ := h; rfl) | (obtain ⟨_, _, _, rfl, _⟩ := h; rfl) | (obtain ⟨_, _, _, _, rfl, _⟩ := h; rfl) | (obtain ⟨_, _, _, _, _, rfl, _⟩ := h; rfl) | (obtain ⟨_, _, _, _, _, _, rfl, _⟩ := h; rfl) | (obtain ⟨_, _, _, _, _, _, _, rfl, _⟩ := h; rfl) | (obtain ⟨_, _, _, _, _, _, _, _, rfl, _⟩ := h; rfl) | (obtain ⟨_, _, _, _, _, _, _, _, _, rfl, _⟩ := h; rfl) | (obtain ⟨_, _, _, _, _, _, _, _, _, _, rfl, _⟩ := h; rfl) | (obtain ⟨_, _, _, _, _, _, _, _, _, _, _, rfl, _⟩ := h; rfl) | (obtain ⟨_, _, _, _, _, _, _, _, _, _, _, _, rfl, _⟩ := h; rfl) | (obtain ⟨_, _, _, _, _, _, _, _, _, _, _, _, _, rfl, _⟩ := h; rfl) | (obtain ⟨_, _, _, _, _, _, _, _, _, _, _, _, _, _, rfl, _⟩ := h; rfl) | (obtain ⟨_, _, _, _, _, _, _, _, _, _, _, _, _, _, _, rfl, _⟩ := h; rfl) | (obtain ⟨_, _, _, _, _, _, _, _, _, _, _, _, _, _, _, _, rfl, _⟩ := h; rfl) | (obtain ⟨_, _, _, _, _, _, _, _, _, _, _, _, _, _, _, _, _, rfl, _⟩ := h; rfl)
  · exact (fss_cons (fs_set (ps_set (i := 2) sc__law_together.nd rfl (by first | exact Or.inl rfl | exact Or.inr rfl) (fe_tup (fa_cons fe_int (fa_cons fe_int fa_nil)))))
      (fss_cons (fs_forR2 (i := 3) (ps_for PassesOwn.never rfl (pi_range2 (by rfl) T.n_range (fa_cons fe_int (fa_cons (fe_add (fe_var (pv 1)) fe_int) fa_nil))) (pg_name (i := 3) sc__law_together.nd rfl (by first | exact Or.inl rfl | exact Or.inr rfl)) (fss_one (fs_forR2 (i := 4) (ps_for PassesOwn.never rfl (pi_range2 (by rfl) T.n_range (fa_cons (fe_add (fe_var (pv 3)) fe_int) (fa_cons (fe_add (fe_mul fe_int (fe_var (pv 3))) fe_int) fa_nil))) (pg_name (i := 4) sc__law_together.nd rfl (by first | exact Or.inl rfl | exact Or.inr rfl)) (fss_one (fs_if (ft_cmp (op_eqD hr.rm.units) (ok_eq _) (fe_call (ok__law_divisor T) (hr.mono (by decide)) (by rfl) T.g__law_divisor T.F__law_divisor.kp T.b__law_divisor (fa_cons (fe_var (pv 4)) (fa_cons (fe_var (pv 3)) fa_nil))) fe_int (nomark _)) (fss_one (fs_set (ps_set (i := 2) sc__law_together.nd rfl (by first | exact Or.inl rfl | exact Or.inr rfl) (fe_call (ok__law_plus T) (hr.mono (by decide)) (by rfl) T.g__law_plus T.F__law_plus.kp T.b__law_plus (fa_cons (fe_var (pv 2)) (fa_cons (fe_call (ok__law_wide T) (hr.mono (by decide)) (by rfl) T.g__law_wide T.F__law_wide.kp T.b__law_wide (fa_cons (fe_var (pv 0)) (fa_cons (fe_var (pv 3)) fa_nil))) fa_nil)))))) fss_nil)))))))
      (fss_one (fs_ret (fe_var (pv 2))))))
theorem sc__law_right : FnScope ["cut_so", "most_so", "told", "ends_so", "left", "first", "room"] ["cut_so", "most_so"] (defScope (top 41)) := ⟨rfl, rfl, rfl, by decide +kernel, rfl, by decide +kernel, by decide +kernel⟩
theorem ok__law_right (T : Tx K mg a fd) : FnG P w K mg base CX0 14 (a 41) (fd 41) ["cut_so", "most_so"] (cSp s__law_right) := by
  refine fnD_of (t := t__law_right) T.F__law_right sc__law_right (fun ds n R h => ?_) (fun cdv A out s H E hr => ?_) p__law_right
  · first | (obtain ⟨rfl, _⟩ := h; rfl) | (obtain ⟨_, rfl, _⟩ := h; rfl) | (obtain ⟨_, _, rfl, _⟩ := h; rfl) | (obtain ⟨_, _, _, rfl, _⟩ := h; rfl) | (obtain ⟨_, _, _, _, rfl, _⟩ := h; rfl) | (obtain ⟨_, _, _, _, _, rfl, _⟩ := h; rfl) | (obtain ⟨_, _, _, _, _, _, rfl, _⟩ := h; rfl) | (obtain ⟨_, _, _, _, _, _, _, rfl, _⟩ := h; rfl) | (obtain ⟨_, _, _, _, _, _, _, _, rfl, _⟩ := h; rfl) | (obtain ⟨_, _, _, _, _, _, _, _, _, rfl, _⟩ := h; rfl) | (obtain ⟨_, _, _, _, _, _, _, _, _, _, rfl, _⟩ := h; rfl) | (obtain ⟨_, _, _, _, _, _, _, _, _, _, _, rfl, _⟩ := h; rfl) | (obtain ⟨_, _, _, _, _, _, _, _, _, _, _, _, rfl, _⟩ := h; rfl) | (obtain ⟨_, _, _, _, _, _, _, _, _, _, _, _, _, rfl, _⟩ := h; rfl) | (obtain ⟨_, _, _, _, _, _, _, _, _, _, _, _, _, _, rfl, _⟩ := h; rfl) | (obtain ⟨_, _, _, _, _, _, _, _, _, _, _, _, _, _, _, rfl, _⟩ := h; rfl) | (obtain ⟨_, _, _, _, _, _, _, _, _, _, _, _, _, _, _, _, rfl, _⟩ := h; rfl) | (obtain ⟨_, _, _, _, _, _, _, _, _, _, _, _, _, _, _, _, _, rfl, _⟩ := h; rfl)
  · exact (fss_cons (fs_set (ps_set (i := 2) sc__law_right.nd rfl (by first | exact Or.inl rfl | exact Or.inr rfl) (fe_call (ok_covered T) (hr.mono (by decide)) (by rfl) T.g_covered T.F_covered.kp T.b_covered (fa_cons (fe_var (pv 0)) (fa_cons (fe_var (pv 1)) fa_nil)))))
      (fss_cons (fs_if (PW.pt (fw_or (ft_not (ft_val (fe_call (ok__law_like T) (hr.mono (by decide)) (by rfl) T.g__law_like T.F__law_like.kp T.b__law_like (fa_cons (fe_var (pv 2)) (fa_cons (fe_call (ok__law_together T) (hr.mono (by decide)) (by rfl) T.g__law_together T.F__law_together.kp T.b__law_together (fa_cons (fe_var (pv 0)) (fa_cons (fe_var (pv 1)) fa_nil))) fa_nil))))) (fw_or1 (ft_not (ft_val (fe_call (ok__law_below T) (hr.mono (by decide)) (by rfl) T.g__law_below T.F__law_below.kp T.b__law_below (fa_cons (fe_var (pv 2)) (fa_cons (fe_tup (fa_cons fe_int (fa_cons fe_int fa_nil))) fa_nil)))))))) (fss_one (fs_ret fe_bl)) fss_nil)
      (fss_cons (fs_set (ps_set (i := 3) sc__law_right.nd rfl (by first | exact Or.inl rfl | exact Or.inr rfl) (fe_call (ok__law_ends T) (hr.mono (by decide)) (by rfl) T.g__law_ends T.F__law_ends.kp T.b__law_ends (fa_cons (fe_var (pv 0)) (fa_cons (fe_tup (fa_cons (fe_add (fe_var (pv 1)) fe_int) (fa_cons (fe_var (pv 1)) fa_nil))) fa_nil)))))
      (fss_cons (fs_if (ft_not (ft_val (fe_call (ok__law_like T) (hr.mono (by decide)) (by rfl) T.g__law_like T.F__law_like.kp T.b__law_like (fa_cons (fe_call (ok__law_minus T) (hr.mono (by decide)) (by rfl) T.g__law_minus T.F__law_minus.kp T.b__law_minus (fa_cons (fe_ixT (fe_var (pv 3)) fe_int (fun _ _ => rfl)) (fa_cons (fe_ixT (fe_var (pv 3)) fe_int (fun _ _ => rfl)) fa_nil))) (fa_cons (fe_call (ok__law_wide T) (hr.mono (by decide)) (by rfl) T.g__law_wide T.F__law_wide.kp T.b__law_wide (fa_cons (fe_var (pv 0)) (fa_cons (fe_var (pv 1)) fa_nil))) fa_nil))))) (fss_one (fs_ret fe_bl)) fss_nil)
      (fss_cons (fs_set (ps_set (i := 4) sc__law_right.nd rfl (by first | exact Or.inl rfl | exact Or.inr rfl) (fe_call (ok__law_minus T) (hr.mono (by decide)) (by rfl) T.g__law_minus T.F__law_minus.kp T.b__law_minus (fa_cons (fe_tup (fa_cons fe_int (fa_cons fe_int fa_nil))) (fa_cons (fe_var (pv 0)) fa_nil)))))
      (fss_cons (fs_set (ps_set (i := 5) sc__law_right.nd rfl (by first | exact Or.inl rfl | exact Or.inr rfl) (fe_call (ok__law_over T) (hr.mono (by decide)) (by rfl) T.g__law_over T.F__law_over.kp T.b__law_over (fa_cons (fe_call (ok__law_power T) (hr.mono (by decide)) (by rfl) T.g__law_power T.F__law_power.kp T.b__law_power (fa_cons (fe_var (pv 0)) (fa_cons (fe_var (pv 1)) fa_nil))) (fa_cons (fe_tup (fa_cons fe_int (fa_cons fe_int fa_nil))) fa_nil)))))
      (fss_cons (fs_set (ps_set (i := 6) sc__law_right.nd rfl (by first | exact Or.inl rfl | exact Or.inr rfl) (fe_call (ok__law_times T) (hr.mono (by decide)) (by rfl) T.g__law_times T.F__law_times.kp T.b__law_times (fa_cons (fe_var (pv 5)) (fa_cons (fe_call (ok__law_plus T) (hr.mono (by decide)) (by rfl) T.g__law_plus T.F__law_plus.kp T.b__law_plus (fa_cons (fe_tup (fa_cons (fe_add (fe_var (pv 1)) fe_int) (fa_cons fe_int fa_nil))) (fa_cons (fe_call (ok__law_over T) (hr.mono (by decide)) (by rfl) T.g__law_over T.F__law_over.kp T.b__law_over (fa_cons (fe_var (pv 0)) (fa_cons (fe_var (pv 4)) fa_nil))) fa_nil))) fa_nil)))))
      (fss_one (fs_ret (fe_not (fe_call (ok__law_below T) (hr.mono (by decide)) (by rfl) T.g__law_below T.F__law_below.kp T.b__law_below (fa_cons (fe_var (pv 6)) (fa_cons (fe_call (ok__law_minus T) (hr.mono (by decide)) (by rfl) T.g__law_minus T.F__law_minus.kp T.b__law_minus (fa_cons (fe_tup (fa_cons fe_int (fa_cons fe_int fa_nil))) (fa_cons (fe_var (pv 2)) fa_nil))) fa_nil)))))))))))))
theorem sc_law : FnScope ["script", "draws_so", "step", "cut_so", "most_so", "more", "many_so", "above", "grown"] ["script"] (defScope (top 42)) := ⟨rfl, rfl, rfl, by decide +kernel, rfl, by decide +kernel, by decide +kernel⟩
theorem ok_law (T : Tx K mg a fd) : FnG P w K mg base CX0 15 (a 42) (fd 42) ["script"] (spLaw K) := by
  refine fnG_of T.F_law sc_law (fun vs H Q E h => by obtain ⟨_, _, rfl, _⟩ := h; rfl) fun cdv A out s H vs Q E hr h => ⟨tLawOf K t_law, PSs.nox ?_, pure_law (m := 7) rfl p_law vs H Q E h⟩
  exact pss_cons (ps_set (i := 1) sc_law.nd rfl (by first | exact Or.inl rfl | exact Or.inr rfl) (peG_call (ok__law_begin T) (hr.mono (by decide)) (by rfl) T.g__law_begin T.F__law_begin.kp T.b__law_begin (pa_cons (pv 0) pa_nil)))
    (fss_cons (fs_forR (i := 2) (ps_for PassesOwn.never rfl (pi_range1 (by rfl) T.n_range (pa_cons fe_int pa_nil)) (pg_name (i := 2) sc_law.nd rfl (by first | exact Or.inl rfl | exact Or.inr rfl)) (fss_cons (fs_set (ps_set (i := 3) sc_law.nd rfl (by first | exact Or.inl rfl | exact Or.inr rfl) (fe_call (ok__law_cut T) (hr.mono (by decide)) (by rfl) T.g__law_cut T.F__law_cut.kp T.b__law_cut (fa_cons (fe_var (pv 1)) fa_nil))))
      (fss_cons (fs_forT (i := 4) (ps_for PassesOwn.never rfl (pi_tup (fe_tup (fa_cons fe_int (fa_cons fe_int (fa_cons (fe_add fe_int (fe_call (ok__law_draw T) (hr.mono (by decide)) (by rfl) T.g__law_draw T.F__law_draw.kp T.b__law_draw (fa_cons (fe_var (pv 1)) (fa_cons fe_int fa_nil)))) fa_nil))))) (pg_name (i := 4) sc_law.nd rfl (by first | exact Or.inl rfl | exact Or.inr rfl)) (fss_one (fs_if (ft_not (ft_val (fe_call (ok__law_right T) (hr.mono (by decide)) (by rfl) T.g__law_right T.F__law_right.kp T.b__law_right (fa_cons (fe_var (pv 3)) (fa_cons (fe_var (pv 4)) fa_nil))))) (fss_one (fs_ret fe_bl)) fss_nil))))
      (fss_cons (fs_par (ps_par (i := 5) (j := 4) rfl sc_law.nd rfl rfl (by decide) rfl rfl (fa_cons (fe_call (ok_covered T) (hr.mono (by decide)) (by rfl) T.g_covered T.F_covered.kp T.b_covered (fa_cons (fe_var (pv 3)) (fa_cons fe_int fa_nil))) (fa_cons fe_int fa_nil)) (by rfl)))
      (fss_cons (fs_set (ps_set (i := 6) sc_law.nd rfl (by first | exact Or.inl rfl | exact Or.inr rfl) (fe_cb (pe_callB call_len_seq (by rfl) T.n_len PySem.boot_len (fa_cons (fe_lcR2 (i := 7) (pe_lc (own := [("above", 7)]) (g := gName 7) rfl sc_law.nd (pi_range2 (by rfl) T.n_range (fa_cons fe_int (fa_cons fe_int fa_nil))) (blkOk_by (N := ["script", "draws_so", "step", "cut_so", "most_so", "more", "many_so", "above", "grown"]) (sc := defScope (top 42)) (by decide +kernel)) (fun _ _ _ _ _ => (pg_name (i := 7) sc_law.nd rfl (by first | exact Or.inl rfl | exact Or.inr rfl))) (fun _ _ _ _ _ => (pts_one (ft_cmp (op_eqD hr.rm.units) (ok_eq _) (fe_call (ok__law_divisor T) (hr.mono (by decide)) (by rfl) T.g__law_divisor T.F__law_divisor.kp T.b__law_divisor (fa_cons (fe_var (pv 7)) (fa_cons fe_int fa_nil))) fe_int (nomark _)))) (fun _ _ _ _ _ => fe_int))) fa_nil)) (ok_len _))))
      (fss_cons (fs_set (ps_set (i := 8) sc_law.nd rfl (by first | exact Or.inl rfl | exact Or.inr rfl) (fe_call (ok__law_times T) (hr.mono (by decide)) (by rfl) T.g__law_times T.F__law_times.kp T.b__law_times (fa_cons (fe_call (ok__law_wide T) (hr.mono (by decide)) (by rfl) T.g__law_wide T.F__law_wide.kp T.b__law_wide (fa_cons (fe_var (pv 3)) (fa_cons fe_int fa_nil))) (fa_cons (fe_tup (fa_cons (fe_var (pv 6)) (fa_cons fe_int fa_nil))) fa_nil)))))
      (fss_one (fs_if (ft_not (ft_val (fe_call (ok__law_like T) (hr.mono (by decide)) (by rfl) T.g__law_like T.F__law_like.kp T.b__law_like (fa_cons (fe_call (ok__law_minus T) (hr.mono (by decide)) (by rfl) T.g__law_minus T.F__law_minus.kp T.b__law_minus (fa_cons (fe_var (pv 5)) (fa_cons (fe_call (ok_covered T) (hr.mono (by decide)) (by rfl) T.g_covered T.F_covered.kp T.b_covered (fa_cons (fe_var (pv 3)) (fa_cons (fe_var (pv 4)) fa_nil))) fa_nil))) (fa_cons (fe_var (pv 8)) fa_nil))))) (fss_one (fs_ret fe_bl)) fss_nil)))))))))
      (fss_one (fs_ret (fe_call (ok__law_like T) (hr.mono (by decide)) (by rfl) T.g__law_like T.F__law_like.kp T.b__law_like (fa_cons (fe_lst (fa_cons (fe_callK (ks := ["most", "part"]) (ok_covered T) (hr.mono (by decide)) (by rfl) T.g_covered T.F_covered.kp prev_ok T.kb_covered_pRev (fk_cons fe_int (fk_cons (fe_tup (fa_cons fe_int (fa_cons fe_int fa_nil))) fk_nil))) (fa_cons (fe_call (ok_covered T) (hr.mono (by decide)) (by rfl) T.g_covered T.F_covered.kp T.b_covered (fa_cons (fe_tup (fa_cons fe_int (fa_cons fe_int fa_nil))) (fa_cons fe_int fa_nil))) fa_nil))) (fa_cons (fe_lst (fa_cons (fe_tup (fa_cons fe_int (fa_cons fe_int fa_nil))) (fa_cons (fe_tup (fa_cons fe_int (fa_cons fe_int fa_nil))) fa_nil))) fa_nil))))))
end
theorem all_mk {l : PySem.W.OpenLaw} {w : World} {K : PySem.W.Frag} {h : Heap} {mg : Str → Option Value} {fa : Addr} (X : K.In h) (G : h.Ns mainGlobals mg) (hfa : mg "law" = some (.ref fa))
    {f25 : Addr} {od25 an25 : Option Addr} {sl25 : Array (Option Value)} {oc25 kV25 dc25 pm25 cd25 ct25 : Value}
    {f38 : Addr} {od38 an38 : Option Addr} {sl38 : Array (Option Value)} {oc38 kV38 dc38 pm38 cd38 ct38 : Value}
    {f28 : Addr} {od28 an28 : Option Addr} {sl28 : Array (Option Value)} {oc28 kV28 dc28 pm28 cd28 ct28 : Value}
    {f29 : Addr} {od29 an29 : Option Addr} {sl29 : Array (Option Value)} {oc29 kV29 dc29 pm29 cd29 ct29 : Value}
    {f24 : Addr} {od24 an24 : Option Addr} {sl24 : Array (Option Value)} {oc24 kV24 dc24 pm24 cd24 ct24 : Value}
    {f26 : Addr} {od26 an26 : Option Addr} {sl26 : Array (Option Value)} {oc26 kV26 dc26 pm26 cd26 ct26 : Value}
    {f27 : Addr} {od27 an27 : Option Addr} {sl27 : Array (Option Value)} {oc27 kV27 dc27 pm27 cd27 ct27 : Value}
    {f32 : Addr} {od32 an32 : Option Addr} {sl32 : Array (Option Value)} {oc32 kV32 dc32 pm32 cd32 ct32 : Value}
    {f10 : Addr} {od10 an10 : Option Addr} {sl10 : Array (Option Value)} {oc10 kV10 dc10 pm10 cd10 ct10 : Value}
    {f11 : Addr} {od11 an11 : Option Addr} {sl11 : Array (Option Value)} {oc11 kV11 dc11 pm11 cd11 ct11 : Value}
    {f16 : Addr} {od16 an16 : Option Addr} {sl16 : Array (Option Value)} {oc16 kV16 dc16 pm16 cd16 ct16 : Value}
    {f17 : Addr} {od17 an17 : Option Addr} {sl17 : Array (Option Value)} {oc17 kV17 dc17 pm17 cd17 ct17 : Value}
    {f12 : Addr} {od12 an12 : Option Addr} {sl12 : Array (Option Value)} {oc12 kV12 dc12 pm12 cd12 ct12 : Value}
    {f4 : Addr} {od4 an4 : Option Addr} {sl4 : Array (Option Value)} {oc4 kV4 dc4 pm4 cd4 ct4 : Value}
    {f2 : Addr} {od2 an2 : Option Addr} {sl2 : Array (Option Value)} {oc2 kV2 dc2 pm2 cd2 ct2 : Value}
    {f3 : Addr} {od3 an3 : Option Addr} {sl3 : Array (Option Value)} {oc3 kV3 dc3 pm3 cd3 ct3 : Value}
    {f19 : Addr} {od19 an19 : Option Addr} {sl19 : Array (Option Value)} {oc19 kV19 dc19 pm19 cd19 ct19 : Value}
    {f20 : Addr} {od20 an20 : Option Addr} {sl20 : Array (Option Value)} {oc20 kV20 dc20 pm20 cd20 ct20 : Value}
    {f21 : Addr} {od21 an21 : Option Addr} {sl21 : Array (Option Value)} {oc21 kV21 dc21 pm21 cd21 ct21 : Value}
    {f22 : Addr} {od22 an22 : Option Addr} {sl22 : Array (Option Value)} {oc22 kV22 dc22 pm22 cd22 ct22 : Value}
    {f31 : Addr} {od31 an31 : Option Addr} {sl31 : Array (Option Value)} {oc31 kV31 dc31 pm31 cd31 ct31 : Value}
    {f35 : Addr} {od35 an35 : Option Addr} {sl35 : Array (Option Value)} {oc35 kV35 dc35 pm35 cd35 ct35 : Value}
    {f33 : Addr} {od33 an33 : Option Addr} {sl33 : Array (Option Value)} {oc33 kV33 dc33 pm33 cd33 ct33 : Value}
    {f39 : Addr} {od39 an39 : Option Addr} {sl39 : Array (Option Value)} {oc39 kV39 dc39 pm39 cd39 ct39 : Value}
    {f30 : Addr} {od30 an30 : Option Addr} {sl30 : Array (Option Value)} {oc30 kV30 dc30 pm30 cd30 ct30 : Value}
    {f36 : Addr} {od36 an36 : Option Addr} {sl36 : Array (Option Value)} {oc36 kV36 dc36 pm36 cd36 ct36 : Value}
    {f37 : Addr} {od37 an37 : Option Addr} {sl37 : Array (Option Value)} {oc37 kV37 dc37 pm37 cd37 ct37 : Value}
    {f34 : Addr} {od34 an34 : Option Addr} {sl34 : Array (Option Value)} {oc34 kV34 dc34 pm34 cd34 ct34 : Value}
    {f40 : Addr} {od40 an40 : Option Addr} {sl40 : Array (Option Value)} {oc40 kV40 dc40 pm40 cd40 ct40 : Value}
    {f41 : Addr} {od41 an41 : Option Addr} {sl41 : Array (Option Value)} {oc41 kV41 dc41 pm41 cd41 ct41 : Value}
    {f42 : Addr} {od42 an42 : Option Addr} {sl42 : Array (Option Value)} {oc42 kV42 dc42 pm42 cd42 ct42 : Value}
    (a25 : PySem.W.nsIn K mainGlobals "_law_begin" = some (some (.ref f25))) (l25 : K.lookup f25 = some ⟨oc25, od25, .func (PySem.W.fnOf "_law_begin" "_law_begin" (defArgs (top 25)) (defBody (top 25)) (defScope (top 25)) .none kV25 dc25 pm25 an25 cd25 ct25), sl25⟩) (c25 : PySem.W.codeIn K cd25 "_law_begin" = true) (k25 : PySem.W.keepIn K (.ref f25) = true)
    (a38 : PySem.W.nsIn K mainGlobals "_law_like" = some (some (.ref f38))) (l38 : K.lookup f38 = some ⟨oc38, od38, .func (PySem.W.fnOf "_law_like" "_law_like" (defArgs (top 38)) (defBody (top 38)) (defScope (top 38)) .none kV38 dc38 pm38 an38 cd38 ct38), sl38⟩) (c38 : PySem.W.codeIn K cd38 "_law_like" = true) (k38 : PySem.W.keepIn K (.ref f38) = true)
    (a28 : PySem.W.nsIn K mainGlobals "_law_divisor" = some (some (.ref f28))) (l28 : K.lookup f28 = some ⟨oc28, od28, .func (PySem.W.fnOf "_law_divisor" "_law_divisor" (defArgs (top 28)) (defBody (top 28)) (defScope (top 28)) .none kV28 dc28 pm28 an28 cd28 ct28), sl28⟩) (c28 : PySem.W.codeIn K cd28 "_law_divisor" = true) (k28 : PySem.W.keepIn K (.ref f28) = true)
    (a29 : PySem.W.nsIn K mainGlobals "_law_share" = some (some (.ref f29))) (l29 : K.lookup f29 = some ⟨oc29, od29, .func (PySem.W.fnOf "_law_share" "_law_share" (defArgs (top 29)) (defBody (top 29)) (defScope (top 29)) .none kV29 dc29 pm29 an29 cd29 ct29), sl29⟩) (c29 : PySem.W.codeIn K cd29 "_law_share" = true) (k29 : PySem.W.keepIn K (.ref f29) = true)
    (a24 : PySem.W.nsIn K mainGlobals "_law_mixed" = some (some (.ref f24))) (l24 : K.lookup f24 = some ⟨oc24, od24, .func (PySem.W.fnOf "_law_mixed" "_law_mixed" (defArgs (top 24)) (defBody (top 24)) (defScope (top 24)) .none kV24 dc24 pm24 an24 cd24 ct24), sl24⟩) (c24 : PySem.W.codeIn K cd24 "_law_mixed" = true) (k24 : PySem.W.keepIn K (.ref f24) = true)
    (a26 : PySem.W.nsIn K mainGlobals "_law_draw" = some (some (.ref f26))) (l26 : K.lookup f26 = some ⟨oc26, od26, .func (PySem.W.fnOf "_law_draw" "_law_draw" (defArgs (top 26)) (defBody (top 26)) (defScope (top 26)) .none kV26 dc26 pm26 an26 cd26 ct26), sl26⟩) (c26 : PySem.W.codeIn K cd26 "_law_draw" = true) (k26 : PySem.W.keepIn K (.ref f26) = true)
    (a27 : PySem.W.nsIn K mainGlobals "_law_cut" = some (some (.ref f27))) (l27 : K.lookup f27 = some ⟨oc27, od27, .func (PySem.W.fnOf "_law_cut" "_law_cut" (defArgs (top 27)) (defBody (top 27)) (defScope (top 27)) .none kV27 dc27 pm27 an27 cd27 ct27), sl27⟩) (c27 : PySem.W.codeIn K cd27 "_law_cut" = true) (k27 : PySem.W.keepIn K (.ref f27) = true)
    (a32 : PySem.W.nsIn K mainGlobals "_law_times" = some (some (.ref f32))) (l32 : K.lookup f32 = some ⟨oc32, od32, .func (PySem.W.fnOf "_law_times" "_law_times" (defArgs (top 32)) (defBody (top 32)) (defScope (top 32)) .none kV32 dc32 pm32 an32 cd32 ct32), sl32⟩) (c32 : PySem.W.codeIn K cd32 "_law_times" = true) (k32 : PySem.W.keepIn K (.ref f32) = true)
    (a10 : PySem.W.nsIn K mainGlobals "is_integer" = some (some (.ref f10))) (l10 : K.lookup f10 = some ⟨oc10, od10, .func (PySem.W.fnOf "is_integer" "is_integer" (defArgs (top 10)) (defBody (top 10)) (defScope (top 10)) .none kV10 dc10 pm10 an10 cd10 ct10), sl10⟩) (c10 : PySem.W.codeIn K cd10 "is_integer" = true) (k10 : PySem.W.keepIn K (.ref f10) = true)
    (a11 : PySem.W.nsIn K mainGlobals "is_fraction" = some (some (.ref f11))) (l11 : K.lookup f11 = some ⟨oc11, od11, .func (PySem.W.fnOf "is_fraction" "is_fraction" (defArgs (top 11)) (defBody (top 11)) (defScope (top 11)) .none kV11 dc11 pm11 an11 cd11 ct11), sl11⟩) (c11 : PySem.W.codeIn K cd11 "is_fraction" = true) (k11 : PySem.W.keepIn K (.ref f11) = true)
    (a16 : PySem.W.nsIn K mainGlobals "is_part" = some (some (.ref f16))) (l16 : K.lookup f16 = some ⟨oc16, od16, .func (PySem.W.fnOf "is_part" "is_part" (defArgs (top 16)) (defBody (top 16)) (defScope (top 16)) .none kV16 dc16 pm16 an16 cd16 ct16), sl16⟩) (c16 : PySem.W.codeIn K cd16 "is_part" = true) (k16 : PySem.W.keepIn K (.ref f16) = true)
    (a17 : PySem.W.nsIn K mainGlobals "need_part" = some (some (.ref f17))) (l17 : K.lookup f17 = some ⟨oc17, od17, .func (PySem.W.fnOf "need_part" "need_part" (defArgs (top 17)) (defBody (top 17)) (defScope (top 17)) .none kV17 dc17 pm17 an17 cd17 ct17), sl17⟩) (c17 : PySem.W.codeIn K cd17 "need_part" = true) (k17 : PySem.W.keepIn K (.ref f17) = true)
    (a12 : PySem.W.nsIn K mainGlobals "need_number" = some (some (.ref f12))) (l12 : K.lookup f12 = some ⟨oc12, od12, .func (PySem.W.fnOf "need_number" "need_number" (defArgs (top 12)) (defBody (top 12)) (defScope (top 12)) .none kV12 dc12 pm12 an12 cd12 ct12), sl12⟩) (c12 : PySem.W.codeIn K cd12 "need_number" = true) (k12 : PySem.W.keepIn K (.ref f12) = true)
    (a4 : PySem.W.nsIn K mainGlobals "total_of" = some (some (.ref f4))) (l4 : K.lookup f4 = some ⟨oc4, od4, .func (PySem.W.fnOf "total_of" "total_of" (defArgs (top 4)) (defBody (top 4)) (defScope (top 4)) .none kV4 dc4 pm4 an4 cd4 ct4), sl4⟩) (c4 : PySem.W.codeIn K cd4 "total_of" = true) (k4 : PySem.W.keepIn K (.ref f4) = true)
    (a2 : PySem.W.nsIn K mainGlobals "reduced" = some (some (.ref f2))) (l2 : K.lookup f2 = some ⟨oc2, od2, .func (PySem.W.fnOf "reduced" "reduced" (defArgs (top 2)) (defBody (top 2)) (defScope (top 2)) .none kV2 dc2 pm2 an2 cd2 ct2), sl2⟩) (c2 : PySem.W.codeIn K cd2 "reduced" = true) (k2 : PySem.W.keepIn K (.ref f2) = true)
    (a3 : PySem.W.nsIn K mainGlobals "power" = some (some (.ref f3))) (l3 : K.lookup f3 = some ⟨oc3, od3, .func (PySem.W.fnOf "power" "power" (defArgs (top 3)) (defBody (top 3)) (defScope (top 3)) .none kV3 dc3 pm3 an3 cd3 ct3), sl3⟩) (c3 : PySem.W.codeIn K cd3 "power" = true) (k3 : PySem.W.keepIn K (.ref f3) = true)
    (a19 : PySem.W.nsIn K mainGlobals "powers_apart" = some (some (.ref f19))) (l19 : K.lookup f19 = some ⟨oc19, od19, .func (PySem.W.fnOf "powers_apart" "powers_apart" (defArgs (top 19)) (defBody (top 19)) (defScope (top 19)) .none kV19 dc19 pm19 an19 cd19 ct19), sl19⟩) (c19 : PySem.W.codeIn K cd19 "powers_apart" = true) (k19 : PySem.W.keepIn K (.ref f19) = true)
    (a20 : PySem.W.nsIn K mainGlobals "length_of" = some (some (.ref f20))) (l20 : K.lookup f20 = some ⟨oc20, od20, .func (PySem.W.fnOf "length_of" "length_of" (defArgs (top 20)) (defBody (top 20)) (defScope (top 20)) .none kV20 dc20 pm20 an20 cd20 ct20), sl20⟩) (c20 : PySem.W.codeIn K cd20 "length_of" = true) (k20 : PySem.W.keepIn K (.ref f20) = true)
    (a21 : PySem.W.nsIn K mainGlobals "lengths_of" = some (some (.ref f21))) (l21 : K.lookup f21 = some ⟨oc21, od21, .func (PySem.W.fnOf "lengths_of" "lengths_of" (defArgs (top 21)) (defBody (top 21)) (defScope (top 21)) .none kV21 dc21 pm21 an21 cd21 ct21), sl21⟩) (c21 : PySem.W.codeIn K cd21 "lengths_of" = true) (k21 : PySem.W.keepIn K (.ref f21) = true)
    (a22 : PySem.W.nsIn K mainGlobals "covered" = some (some (.ref f22))) (l22 : K.lookup f22 = some ⟨oc22, od22, .func (PySem.W.fnOf "covered" "covered" (defArgs (top 22)) (defBody (top 22)) (defScope (top 22)) .none kV22 dc22 pm22 an22 cd22 ct22), sl22⟩) (c22 : PySem.W.codeIn K cd22 "covered" = true) (k22 : PySem.W.keepIn K (.ref f22) = true)
    (a31 : PySem.W.nsIn K mainGlobals "_law_minus" = some (some (.ref f31))) (l31 : K.lookup f31 = some ⟨oc31, od31, .func (PySem.W.fnOf "_law_minus" "_law_minus" (defArgs (top 31)) (defBody (top 31)) (defScope (top 31)) .none kV31 dc31 pm31 an31 cd31 ct31), sl31⟩) (c31 : PySem.W.codeIn K cd31 "_law_minus" = true) (k31 : PySem.W.keepIn K (.ref f31) = true)
    (a35 : PySem.W.nsIn K mainGlobals "_law_power" = some (some (.ref f35))) (l35 : K.lookup f35 = some ⟨oc35, od35, .func (PySem.W.fnOf "_law_power" "_law_power" (defArgs (top 35)) (defBody (top 35)) (defScope (top 35)) .none kV35 dc35 pm35 an35 cd35 ct35), sl35⟩) (c35 : PySem.W.codeIn K cd35 "_law_power" = true) (k35 : PySem.W.keepIn K (.ref f35) = true)
    (a33 : PySem.W.nsIn K mainGlobals "_law_over" = some (some (.ref f33))) (l33 : K.lookup f33 = some ⟨oc33, od33, .func (PySem.W.fnOf "_law_over" "_law_over" (defArgs (top 33)) (defBody (top 33)) (defScope (top 33)) .none kV33 dc33 pm33 an33 cd33 ct33), sl33⟩) (c33 : PySem.W.codeIn K cd33 "_law_over" = true) (k33 : PySem.W.keepIn K (.ref f33) = true)
    (a39 : PySem.W.nsIn K mainGlobals "_law_wide" = some (some (.ref f39))) (l39 : K.lookup f39 = some ⟨oc39, od39, .func (PySem.W.fnOf "_law_wide" "_law_wide" (defArgs (top 39)) (defBody (top 39)) (defScope (top 39)) .none kV39 dc39 pm39 an39 cd39 ct39), sl39⟩) (c39 : PySem.W.codeIn K cd39 "_law_wide" = true) (k39 : PySem.W.keepIn K (.ref f39) = true)
    (a30 : PySem.W.nsIn K mainGlobals "_law_plus" = some (some (.ref f30))) (l30 : K.lookup f30 = some ⟨oc30, od30, .func (PySem.W.fnOf "_law_plus" "_law_plus" (defArgs (top 30)) (defBody (top 30)) (defScope (top 30)) .none kV30 dc30 pm30 an30 cd30 ct30), sl30⟩) (c30 : PySem.W.codeIn K cd30 "_law_plus" = true) (k30 : PySem.W.keepIn K (.ref f30) = true)
    (a36 : PySem.W.nsIn K mainGlobals "_law_floors" = some (some (.ref f36))) (l36 : K.lookup f36 = some ⟨oc36, od36, .func (PySem.W.fnOf "_law_floors" "_law_floors" (defArgs (top 36)) (defBody (top 36)) (defScope (top 36)) .none kV36 dc36 pm36 an36 cd36 ct36), sl36⟩) (c36 : PySem.W.codeIn K cd36 "_law_floors" = true) (k36 : PySem.W.keepIn K (.ref f36) = true)
    (a37 : PySem.W.nsIn K mainGlobals "_law_ends" = some (some (.ref f37))) (l37 : K.lookup f37 = some ⟨oc37, od37, .func (PySem.W.fnOf "_law_ends" "_law_ends" (defArgs (top 37)) (defBody (top 37)) (defScope (top 37)) .none kV37 dc37 pm37 an37 cd37 ct37), sl37⟩) (c37 : PySem.W.codeIn K cd37 "_law_ends" = true) (k37 : PySem.W.keepIn K (.ref f37) = true)
    (a34 : PySem.W.nsIn K mainGlobals "_law_below" = some (some (.ref f34))) (l34 : K.lookup f34 = some ⟨oc34, od34, .func (PySem.W.fnOf "_law_below" "_law_below" (defArgs (top 34)) (defBody (top 34)) (defScope (top 34)) .none kV34 dc34 pm34 an34 cd34 ct34), sl34⟩) (c34 : PySem.W.codeIn K cd34 "_law_below" = true) (k34 : PySem.W.keepIn K (.ref f34) = true)
    (a40 : PySem.W.nsIn K mainGlobals "_law_together" = some (some (.ref f40))) (l40 : K.lookup f40 = some ⟨oc40, od40, .func (PySem.W.fnOf "_law_together" "_law_together" (defArgs (top 40)) (defBody (top 40)) (defScope (top 40)) .none kV40 dc40 pm40 an40 cd40 ct40), sl40⟩) (c40 : PySem.W.codeIn K cd40 "_law_together" = true) (k40 : PySem.W.keepIn K (.ref f40) = true)
    (a41 : PySem.W.nsIn K mainGlobals "_law_right" = some (some (.ref f41))) (l41 : K.lookup f41 = some ⟨oc41, od41, .func (PySem.W.fnOf "_law_right" "_law_right" (defArgs (top 41)) (defBody (top 41)) (defScope (top 41)) .none kV41 dc41 pm41 an41 cd41 ct41), sl41⟩) (c41 : PySem.W.codeIn K cd41 "_law_right" = true) (k41 : PySem.W.keepIn K (.ref f41) = true)
    (a42 : PySem.W.nsIn K mainGlobals "law" = some (some (.ref f42))) (l42 : K.lookup f42 = some ⟨oc42, od42, .func (PySem.W.fnOf "law" "law" (defArgs (top 42)) (defBody (top 42)) (defScope (top 42)) .none kV42 dc42 pm42 an42 cd42 ct42), sl42⟩) (c42 : PySem.W.codeIn K cd42 "law" = true) (k42 : PySem.W.keepIn K (.ref f42) = true)
    (z_abs : PySem.W.nsIn K mainGlobals "abs" = some none)
    (z_int : PySem.W.nsIn K mainGlobals "int" = some none)
    (z_len : PySem.W.nsIn K mainGlobals "len" = some none)
    (z_list : PySem.W.nsIn K mainGlobals "list" = some none)
    (z_range : PySem.W.nsIn K mainGlobals "range" = some none)
    (z_repr : PySem.W.nsIn K mainGlobals "repr" = some none)
    (z_tuple : PySem.W.nsIn K mainGlobals "tuple" = some none)
    (z_type : PySem.W.nsIn K mainGlobals "type" = some none)
    (z_gcd : PySem.W.nsIn K mainGlobals "gcd" = some (some (.builtin "math.gcd")))
    (y_MOST : ∃ t, mg "MOST" = some (.int 1000000000000000000000000000000 t))
    {tg_MOST_BELOW_OF_MEAN : Nat} (z_MOST_BELOW_OF_MEAN : PySem.W.nsIn K mainGlobals "MOST_BELOW_OF_MEAN" = some (some (.int 300 tg_MOST_BELOW_OF_MEAN)))
    {tg_MOST_BELOW_OF_PART : Nat} (z_MOST_BELOW_OF_PART : PySem.W.nsIn K mainGlobals "MOST_BELOW_OF_PART" = some (some (.int 1000 tg_MOST_BELOW_OF_PART)))
    : ∃ fd : FuncData, (∀ (s : Shared) (v : Value), BindsTo s fd ⟨[v], []⟩ [("script", v)]) ∧ ∀ base : Heap, K.In base → base.Ns mainGlobals mg → FnG l.prog w K mg base CX0 15 fa fd ["script"] (spLaw K) := by
  have e := hfa.symm.trans (PySem.W.mg_of X G a42)
  cases e
  have F25 := fun_mk (st := top 25) l25 c25 k25
  have F38 := fun_mk (st := top 38) l38 c38 k38
  have F28 := fun_mk (st := top 28) l28 c28 k28
  have F29 := fun_mk (st := top 29) l29 c29 k29
  have F24 := fun_mk (st := top 24) l24 c24 k24
  have F26 := fun_mk (st := top 26) l26 c26 k26
  have F27 := fun_mk (st := top 27) l27 c27 k27
  have F32 := fun_mk (st := top 32) l32 c32 k32
  have F10 := fun_mk (st := top 10) l10 c10 k10
  have F11 := fun_mk (st := top 11) l11 c11 k11
  have F16 := fun_mk (st := top 16) l16 c16 k16
  have F17 := fun_mk (st := top 17) l17 c17 k17
  have F12 := fun_mk (st := top 12) l12 c12 k12
  have F4 := fun_mk (st := top 4) l4 c4 k4
  have F2 := fun_mk (st := top 2) l2 c2 k2
  have F3 := fun_mk (st := top 3) l3 c3 k3
  have F19 := fun_mk (st := top 19) l19 c19 k19
  have F20 := fun_mk (st := top 20) l20 c20 k20
  have F21 := fun_mk (st := top 21) l21 c21 k21
  have F22 := fun_mk (st := top 22) l22 c22 k22
  have F31 := fun_mk (st := top 31) l31 c31 k31
  have F35 := fun_mk (st := top 35) l35 c35 k35
  have F33 := fun_mk (st := top 33) l33 c33 k33
  have F39 := fun_mk (st := top 39) l39 c39 k39
  have F30 := fun_mk (st := top 30) l30 c30 k30
  have F36 := fun_mk (st := top 36) l36 c36 k36
  have F37 := fun_mk (st := top 37) l37 c37 k37
  have F34 := fun_mk (st := top 34) l34 c34 k34
  have F40 := fun_mk (st := top 40) l40 c40 k40
  have F41 := fun_mk (st := top 41) l41 c41 k41
  have F42 := fun_mk (st := top 42) l42 c42 k42
  have T : Tx K mg (fun i => match i with | 25 => f25 | 38 => f38 | 28 => f28 | 29 => f29 | 24 => f24 | 26 => f26 | 27 => f27 | 32 => f32 | 10 => f10 | 11 => f11 | 16 => f16 | 17 => f17 | 12 => f12 | 4 => f4 | 2 => f2 | 3 => f3 | 19 => f19 | 20 => f20 | 21 => f21 | 22 => f22 | 31 => f31 | 35 => f35 | 33 => f33 | 39 => f39 | 30 => f30 | 36 => f36 | 37 => f37 | 34 => f34 | 40 => f40 | 41 => f41 | 42 => fa | _ => 0) (fun i => match i with | 25 => PySem.W.fnOf "_law_begin" "_law_begin" (defArgs (top 25)) (defBody (top 25)) (defScope (top 25)) .none kV25 dc25 pm25 an25 cd25 ct25 | 38 => PySem.W.fnOf "_law_like" "_law_like" (defArgs (top 38)) (defBody (top 38)) (defScope (top 38)) .none kV38 dc38 pm38 an38 cd38 ct38 | 28 => PySem.W.fnOf "_law_divisor" "_law_divisor" (defArgs (top 28)) (defBody (top 28)) (defScope (top 28)) .none kV28 dc28 pm28 an28 cd28 ct28 | 29 => PySem.W.fnOf "_law_share" "_law_share" (defArgs (top 29)) (defBody (top 29)) (defScope (top 29)) .none kV29 dc29 pm29 an29 cd29 ct29 | 24 => PySem.W.fnOf "_law_mixed" "_law_mixed" (defArgs (top 24)) (defBody (top 24)) (defScope (top 24)) .none kV24 dc24 pm24 an24 cd24 ct24 | 26 => PySem.W.fnOf "_law_draw" "_law_draw" (defArgs (top 26)) (defBody (top 26)) (defScope (top 26)) .none kV26 dc26 pm26 an26 cd26 ct26 | 27 => PySem.W.fnOf "_law_cut" "_law_cut" (defArgs (top 27)) (defBody (top 27)) (defScope (top 27)) .none kV27 dc27 pm27 an27 cd27 ct27 | 32 => PySem.W.fnOf "_law_times" "_law_times" (defArgs (top 32)) (defBody (top 32)) (defScope (top 32)) .none kV32 dc32 pm32 an32 cd32 ct32 | 10 => PySem.W.fnOf "is_integer" "is_integer" (defArgs (top 10)) (defBody (top 10)) (defScope (top 10)) .none kV10 dc10 pm10 an10 cd10 ct10 | 11 => PySem.W.fnOf "is_fraction" "is_fraction" (defArgs (top 11)) (defBody (top 11)) (defScope (top 11)) .none kV11 dc11 pm11 an11 cd11 ct11 | 16 => PySem.W.fnOf "is_part" "is_part" (defArgs (top 16)) (defBody (top 16)) (defScope (top 16)) .none kV16 dc16 pm16 an16 cd16 ct16 | 17 => PySem.W.fnOf "need_part" "need_part" (defArgs (top 17)) (defBody (top 17)) (defScope (top 17)) .none kV17 dc17 pm17 an17 cd17 ct17 | 12 => PySem.W.fnOf "need_number" "need_number" (defArgs (top 12)) (defBody (top 12)) (defScope (top 12)) .none kV12 dc12 pm12 an12 cd12 ct12 | 4 => PySem.W.fnOf "total_of" "total_of" (defArgs (top 4)) (defBody (top 4)) (defScope (top 4)) .none kV4 dc4 pm4 an4 cd4 ct4 | 2 => PySem.W.fnOf "reduced" "reduced" (defArgs (top 2)) (defBody (top 2)) (defScope (top 2)) .none kV2 dc2 pm2 an2 cd2 ct2 | 3 => PySem.W.fnOf "power" "power" (defArgs (top 3)) (defBody (top 3)) (defScope (top 3)) .none kV3 dc3 pm3 an3 cd3 ct3 | 19 => PySem.W.fnOf "powers_apart" "powers_apart" (defArgs (top 19)) (defBody (top 19)) (defScope (top 19)) .none kV19 dc19 pm19 an19 cd19 ct19 | 20 => PySem.W.fnOf "length_of" "length_of" (defArgs (top 20)) (defBody (top 20)) (defScope (top 20)) .none kV20 dc20 pm20 an20 cd20 ct20 | 21 => PySem.W.fnOf "lengths_of" "lengths_of" (defArgs (top 21)) (defBody (top 21)) (defScope (top 21)) .none kV21 dc21 pm21 an21 cd21 ct21 | 22 => PySem.W.fnOf "covered" "covered" (defArgs (top 22)) (defBody (top 22)) (defScope (top 22)) .none kV22 dc22 pm22 an22 cd22 ct22 | 31 => PySem.W.fnOf "_law_minus" "_law_minus" (defArgs (top 31)) (defBody (top 31)) (defScope (top 31)) .none kV31 dc31 pm31 an31 cd31 ct31 | 35 => PySem.W.fnOf "_law_power" "_law_power" (defArgs (top 35)) (defBody (top 35)) (defScope (top 35)) .none kV35 dc35 pm35 an35 cd35 ct35 | 33 => PySem.W.fnOf "_law_over" "_law_over" (defArgs (top 33)) (defBody (top 33)) (defScope (top 33)) .none kV33 dc33 pm33 an33 cd33 ct33 | 39 => PySem.W.fnOf "_law_wide" "_law_wide" (defArgs (top 39)) (defBody (top 39)) (defScope (top 39)) .none kV39 dc39 pm39 an39 cd39 ct39 | 30 => PySem.W.fnOf "_law_plus" "_law_plus" (defArgs (top 30)) (defBody (top 30)) (defScope (top 30)) .none kV30 dc30 pm30 an30 cd30 ct30 | 36 => PySem.W.fnOf "_law_floors" "_law_floors" (defArgs (top 36)) (defBody (top 36)) (defScope (top 36)) .none kV36 dc36 pm36 an36 cd36 ct36 | 37 => PySem.W.fnOf "_law_ends" "_law_ends" (defArgs (top 37)) (defBody (top 37)) (defScope (top 37)) .none kV37 dc37 pm37 an37 cd37 ct37 | 34 => PySem.W.fnOf "_law_below" "_law_below" (defArgs (top 34)) (defBody (top 34)) (defScope (top 34)) .none kV34 dc34 pm34 an34 cd34 ct34 | 40 => PySem.W.fnOf "_law_together" "_law_together" (defArgs (top 40)) (defBody (top 40)) (defScope (top 40)) .none kV40 dc40 pm40 an40 cd40 ct40 | 41 => PySem.W.fnOf "_law_right" "_law_right" (defArgs (top 41)) (defBody (top 41)) (defScope (top 41)) .none kV41 dc41 pm41 an41 cd41 ct41 | 42 => PySem.W.fnOf "law" "law" (defArgs (top 42)) (defBody (top 42)) (defScope (top 42)) .none kV42 dc42 pm42 an42 cd42 ct42 | _ => PySem.W.fnOf "law" "law" (defArgs (top 42)) (defBody (top 42)) (defScope (top 42)) .none kV42 dc42 pm42 an42 cd42 ct42) :=
    { n_abs := PySem.W.mg_none_of X G z_abs,
      n_int := PySem.W.mg_none_of X G z_int,
      n_len := PySem.W.mg_none_of X G z_len,
      n_list := PySem.W.mg_none_of X G z_list,
      n_range := PySem.W.mg_none_of X G z_range,
      n_repr := PySem.W.mg_none_of X G z_repr,
      n_tuple := PySem.W.mg_none_of X G z_tuple,
      n_type := PySem.W.mg_none_of X G z_type,
      m_gcd := PySem.W.mg_of X G z_gcd,
      c_MOST := y_MOST,
      c_MOST_BELOW_OF_MEAN := ⟨_, PySem.W.mg_of X G z_MOST_BELOW_OF_MEAN⟩,
      c_MOST_BELOW_OF_PART := ⟨_, PySem.W.mg_of X G z_MOST_BELOW_OF_PART⟩,
      F__law_begin := F25,
      g__law_begin := PySem.W.mg_of X G a25,
      b__law_begin := F25.binds (ps := ["script"]) fun _ _ _ _ _ _ us hl => match us, hl with | [_], _ => rfl,
      F__law_like := F38,
      g__law_like := PySem.W.mg_of X G a38,
      b__law_like := F38.binds (ps := ["got", "due"]) fun _ _ _ _ _ _ us hl => match us, hl with | [_, _], _ => rfl,
      F__law_divisor := F28,
      g__law_divisor := PySem.W.mg_of X G a28,
      b__law_divisor := F28.binds (ps := ["one", "two"]) fun _ _ _ _ _ _ us hl => match us, hl with | [_, _], _ => rfl,
      F__law_share := F29,
      g__law_share := PySem.W.mg_of X G a29,
      b__law_share := F29.binds (ps := ["above", "below"]) fun _ _ _ _ _ _ us hl => match us, hl with | [_, _], _ => rfl,
      F__law_mixed := F24,
      g__law_mixed := PySem.W.mg_of X G a24,
      b__law_mixed := F24.binds (ps := ["cell", "k"]) fun _ _ _ _ _ _ us hl => match us, hl with | [_, _], _ => rfl,
      F__law_draw := F26,
      g__law_draw := PySem.W.mg_of X G a26,
      b__law_draw := F26.binds (ps := ["draws_so", "limit"]) fun _ _ _ _ _ _ us hl => match us, hl with | [_, _], _ => rfl,
      F__law_cut := F27,
      g__law_cut := PySem.W.mg_of X G a27,
      b__law_cut := F27.binds (ps := ["draws_so"]) fun _ _ _ _ _ _ us hl => match us, hl with | [_], _ => rfl,
      F__law_times := F32,
      g__law_times := PySem.W.mg_of X G a32,
      b__law_times := F32.binds (ps := ["one", "two"]) fun _ _ _ _ _ _ us hl => match us, hl with | [_, _], _ => rfl,
      F_is_integer := F10,
      g_is_integer := PySem.W.mg_of X G a10,
      b_is_integer := F10.binds (ps := ["value"]) fun _ _ _ _ _ _ us hl => match us, hl with | [_], _ => rfl,
      F_is_fraction := F11,
      g_is_fraction := PySem.W.mg_of X G a11,
      b_is_fraction := F11.binds (ps := ["value"]) fun _ _ _ _ _ _ us hl => match us, hl with | [_], _ => rfl,
      F_is_part := F16,
      g_is_part := PySem.W.mg_of X G a16,
      b_is_part := F16.binds (ps := ["value"]) fun _ _ _ _ _ _ us hl => match us, hl with | [_], _ => rfl,
      F_need_part := F17,
      g_need_part := PySem.W.mg_of X G a17,
      b_need_part := F17.binds (ps := ["part"]) fun _ _ _ _ _ _ us hl => match us, hl with | [_], _ => rfl,
      F_need_number := F12,
      g_need_number := PySem.W.mg_of X G a12,
      b_need_number := F12.binds (ps := ["value", "least", "most"]) fun _ _ _ _ _ _ us hl => match us, hl with | [_, _, _], _ => rfl,
      F_total_of := F4,
      g_total_of := PySem.W.mg_of X G a4,
      b_total_of := F4.binds (ps := ["numbers"]) fun _ _ _ _ _ _ us hl => match us, hl with | [_], _ => rfl,
      F_reduced := F2,
      g_reduced := PySem.W.mg_of X G a2,
      b_reduced := F2.binds (ps := ["above", "below"]) fun _ _ _ _ _ _ us hl => match us, hl with | [_, _], _ => rfl,
      F_power := F3,
      g_power := PySem.W.mg_of X G a3,
      b_power := F3.binds (ps := ["base", "number"]) fun _ _ _ _ _ _ us hl => match us, hl with | [_, _], _ => rfl,
      F_powers_apart := F19,
      g_powers_apart := PySem.W.mg_of X G a19,
      b_powers_apart := F19.binds (ps := ["part", "number"]) fun _ _ _ _ _ _ us hl => match us, hl with | [_, _], _ => rfl,
      F_length_of := F20,
      g_length_of := PySem.W.mg_of X G a20,
      b_length_of := F20.binds (ps := ["part", "below"]) fun _ _ _ _ _ _ us hl => match us, hl with | [_, _], _ => rfl,
      F_lengths_of := F21,
      g_lengths_of := PySem.W.mg_of X G a21,
      b_lengths_of := F21.binds (ps := ["part", "below"]) fun _ _ _ _ _ _ us hl => match us, hl with | [_, _], _ => rfl,
      F_covered := F22,
      g_covered := PySem.W.mg_of X G a22,
      b_covered := F22.binds (ps := ["part", "most"]) fun _ _ _ _ _ _ us hl => match us, hl with | [_, _], _ => rfl,
      F__law_minus := F31,
      g__law_minus := PySem.W.mg_of X G a31,
      b__law_minus := F31.binds (ps := ["one", "two"]) fun _ _ _ _ _ _ us hl => match us, hl with | [_, _], _ => rfl,
      F__law_power := F35,
      g__law_power := PySem.W.mg_of X G a35,
      b__law_power := F35.binds (ps := ["one", "times_so"]) fun _ _ _ _ _ _ us hl => match us, hl with | [_, _], _ => rfl,
      F__law_over := F33,
      g__law_over := PySem.W.mg_of X G a33,
      b__law_over := F33.binds (ps := ["one", "two"]) fun _ _ _ _ _ _ us hl => match us, hl with | [_, _], _ => rfl,
      F__law_wide := F39,
      g__law_wide := PySem.W.mg_of X G a39,
      b__law_wide := F39.binds (ps := ["cut_so", "below"]) fun _ _ _ _ _ _ us hl => match us, hl with | [_, _], _ => rfl,
      F__law_plus := F30,
      g__law_plus := PySem.W.mg_of X G a30,
      b__law_plus := F30.binds (ps := ["one", "two"]) fun _ _ _ _ _ _ us hl => match us, hl with | [_, _], _ => rfl,
      F__law_floors := F36,
      g__law_floors := PySem.W.mg_of X G a36,
      b__law_floors := F36.binds (ps := ["cut_so", "pair_so"]) fun _ _ _ _ _ _ us hl => match us, hl with | [_, _], _ => rfl,
      F__law_ends := F37,
      g__law_ends := PySem.W.mg_of X G a37,
      b__law_ends := F37.binds (ps := ["cut_so", "pair_so"]) fun _ _ _ _ _ _ us hl => match us, hl with | [_, _], _ => rfl,
      F__law_below := F34,
      g__law_below := PySem.W.mg_of X G a34,
      b__law_below := F34.binds (ps := ["one", "two"]) fun _ _ _ _ _ _ us hl => match us, hl with | [_, _], _ => rfl,
      F__law_together := F40,
      g__law_together := PySem.W.mg_of X G a40,
      b__law_together := F40.binds (ps := ["cut_so", "most_so"]) fun _ _ _ _ _ _ us hl => match us, hl with | [_, _], _ => rfl,
      F__law_right := F41,
      g__law_right := PySem.W.mg_of X G a41,
      b__law_right := F41.binds (ps := ["cut_so", "most_so"]) fun _ _ _ _ _ _ us hl => match us, hl with | [_, _], _ => rfl,
      F_law := F42,
      g_law := PySem.W.mg_of X G a42,
      b_law := F42.binds (ps := ["script"]) fun _ _ _ _ _ _ us hl => match us, hl with | [_], _ => rfl,
      kb_covered_pRev := fun s ws hl => match ws, hl with | [_, _], _ => .of_eq rfl }
  exact ⟨_, fun s v => .of_eq rfl, fun base _ _ => ok_law T⟩
end Lw
open PySem PySem.W PyProof.Rows
set_option maxRecDepth 100000 in
set_option maxHeartbeats 0 in
theorem PySem.Challenge.cw_sawrounds_k23_whole_how_much_is_covered_holds : PySem.Challenge.rw_sawrounds_k23_whole_how_much_is_covered.Holds := by
  w_on; o_law; k_head; (case hw => w_witness2)
  k_fill
  refine Sx.walkG (l := PySem.Challenge.rw_sawrounds_k23_whole_how_much_is_covered) (k := 15) (x := "script") rfl rfl (Sx.room_caller 15 (by decide)) (fun w h Y => PySem.W.kIn_of Y) ?F
  case F =>
    intro w mg fa h KX G XX hmg
    refine' Lw.all_mk KX G hmg ?a25 ?l25 ?c25 ?k25 ?a38 ?l38 ?c38 ?k38 ?a28 ?l28 ?c28 ?k28 ?a29 ?l29 ?c29 ?k29 ?a24 ?l24 ?c24 ?k24 ?a26 ?l26 ?c26 ?k26 ?a27 ?l27 ?c27 ?k27 ?a32 ?l32 ?c32 ?k32 ?a10 ?l10 ?c10 ?k10 ?a11 ?l11 ?c11 ?k11 ?a16 ?l16 ?c16 ?k16 ?a17 ?l17 ?c17 ?k17 ?a12 ?l12 ?c12 ?k12 ?a4 ?l4 ?c4 ?k4 ?a2 ?l2 ?c2 ?k2 ?a3 ?l3 ?c3 ?k3 ?a19 ?l19 ?c19 ?k19 ?a20 ?l20 ?c20 ?k20 ?a21 ?l21 ?c21 ?k21 ?a22 ?l22 ?c22 ?k22 ?a31 ?l31 ?c31 ?k31 ?a35 ?l35 ?c35 ?k35 ?a33 ?l33 ?c33 ?k33 ?a39 ?l39 ?c39 ?k39 ?a30 ?l30 ?c30 ?k30 ?a36 ?l36 ?c36 ?k36 ?a37 ?l37 ?c37 ?k37 ?a34 ?l34 ?c34 ?k34 ?a40 ?l40 ?c40 ?k40 ?a41 ?l41 ?c41 ?k41 ?a42 ?l42 ?c42 ?k42 ?z_abs ?z_int ?z_len ?z_list ?z_range ?z_repr ?z_tuple ?z_type ?z_gcd ?y_MOST ?z_MOST_BELOW_OF_MEAN ?z_MOST_BELOW_OF_PART
    (case a25 => k_is)
    (case l25 => k_is)
    (case c25 => k_is)
    (case k25 => k_is)
    (case a38 => k_is)
    (case l38 => k_is)
    (case c38 => k_is)
    (case k38 => k_is)
    (case a28 => k_is)
    (case l28 => k_is)
    (case c28 => k_is)
    (case k28 => k_is)
    (case a29 => k_is)
    (case l29 => k_is)
    (case c29 => k_is)
    (case k29 => k_is)
    (case a24 => k_is)
    (case l24 => k_is)
    (case c24 => k_is)
    (case k24 => k_is)
    (case a26 => k_is)
    (case l26 => k_is)
    (case c26 => k_is)
    (case k26 => k_is)
    (case a27 => k_is)
    (case l27 => k_is)
    (case c27 => k_is)
    (case k27 => k_is)
    (case a32 => k_is)
    (case l32 => k_is)
    (case c32 => k_is)
    (case k32 => k_is)
    (case a10 => k_is)
    (case l10 => k_is)
    (case c10 => k_is)
    (case k10 => k_is)
    (case a11 => k_is)
    (case l11 => k_is)
    (case c11 => k_is)
    (case k11 => k_is)
    (case a16 => k_is)
    (case l16 => k_is)
    (case c16 => k_is)
    (case k16 => k_is)
    (case a17 => k_is)
    (case l17 => k_is)
    (case c17 => k_is)
    (case k17 => k_is)
    (case a12 => k_is)
    (case l12 => k_is)
    (case c12 => k_is)
    (case k12 => k_is)
    (case a4 => k_is)
    (case l4 => k_is)
    (case c4 => k_is)
    (case k4 => k_is)
    (case a2 => k_is)
    (case l2 => k_is)
    (case c2 => k_is)
    (case k2 => k_is)
    (case a3 => k_is)
    (case l3 => k_is)
    (case c3 => k_is)
    (case k3 => k_is)
    (case a19 => k_is)
    (case l19 => k_is)
    (case c19 => k_is)
    (case k19 => k_is)
    (case a20 => k_is)
    (case l20 => k_is)
    (case c20 => k_is)
    (case k20 => k_is)
    (case a21 => k_is)
    (case l21 => k_is)
    (case c21 => k_is)
    (case k21 => k_is)
    (case a22 => k_is)
    (case l22 => k_is)
    (case c22 => k_is)
    (case k22 => k_is)
    (case a31 => k_is)
    (case l31 => k_is)
    (case c31 => k_is)
    (case k31 => k_is)
    (case a35 => k_is)
    (case l35 => k_is)
    (case c35 => k_is)
    (case k35 => k_is)
    (case a33 => k_is)
    (case l33 => k_is)
    (case c33 => k_is)
    (case k33 => k_is)
    (case a39 => k_is)
    (case l39 => k_is)
    (case c39 => k_is)
    (case k39 => k_is)
    (case a30 => k_is)
    (case l30 => k_is)
    (case c30 => k_is)
    (case k30 => k_is)
    (case a36 => k_is)
    (case l36 => k_is)
    (case c36 => k_is)
    (case k36 => k_is)
    (case a37 => k_is)
    (case l37 => k_is)
    (case c37 => k_is)
    (case k37 => k_is)
    (case a34 => k_is)
    (case l34 => k_is)
    (case c34 => k_is)
    (case k34 => k_is)
    (case a40 => k_is)
    (case l40 => k_is)
    (case c40 => k_is)
    (case k40 => k_is)
    (case a41 => k_is)
    (case l41 => k_is)
    (case c41 => k_is)
    (case k41 => k_is)
    (case a42 => k_is)
    (case l42 => k_is)
    (case c42 => k_is)
    (case k42 => k_is)
    (case z_abs => k_is)
    (case z_int => k_is)
    (case z_len => k_is)
    (case z_list => k_is)
    (case z_range => k_is)
    (case z_repr => k_is)
    (case z_tuple => k_is)
    (case z_type => k_is)
    (case z_gcd => k_is)
    (case z_MOST_BELOW_OF_MEAN => k_is)
    (case z_MOST_BELOW_OF_PART => k_is)
    (case y_MOST => first | (refine Sx.loose_int XX.2 ?_; exact List.Mem.head _) | (refine Sx.loose_int XX.2 ?_; exact List.Mem.tail _ (List.Mem.head _)))
