import PyProof.Rows.All
import Wide.All
import OpenK.AllK
import Wide.FinOn
import HandS.ForMost
import HandS.ForExc
import HandS.Walk
import HandS.Deep
import HandS.Zip
import HandS.IsInst
import HandS.Wide
import HandS.TupMul
import HandS.TupAny
import HandS.TupLe
import HandS.Conv
import HandS.ExcField
import HandS.Style
import KE.GoesEnum
import PyProof.EqAt
import PyProof.EqKinds
import PyProof.TupleCall
import Open.SpecLaws
import KE.OsGo
import HandS.ForSpec
import PySem.Challenge.RW_movedfolders_k49_rules_by_hand_refused
set_option Elab.async false
set_option linter.all false
set_option maxRecDepth 100000
set_option maxHeartbeats 4000000
namespace DL
open PySem PySem.Spec PyProof.Rows L2

abbrev D := PyData
/-- a value of the layer: data, the number of a mutable cell, the script -/
inductive W where
  | d (x : D) | c (n : Nat) | sc (ns : List Int)
/-- a mutable object: given up, a list -/
inductive Cell where
  | dead | lst (xs : List D)
abbrev CS := List Cell
/-- an exception: its class's number, its one field -/
structure Exn where
  cls : Nat
  arg : D
inductive R (a : Type) where
  | ok (x : a) (s : CS) | exc (e : Exn) (s : CS) | bad
abbrev En := List (Option W)
abbrev fE := En → CS → R W
def R.bind {a b : Type} (r : R a) (k : a → CS → R b) : R b := match r with
  | .ok x s => k x s
  | .exc e s => .exc e s
  | .bad => .bad

/-! ### lists and tuples that no one changes -/
def FL (H : Hp) (A : Addr → Prop) (a : Addr) (xs : List V) : Prop := H a = some (.lst xs) ∧ ¬ A a
def FT (H : Hp) (A : Addr → Prop) (a : Addr) (xs : List V) : Prop := H a = some (.tup xs) ∧ ¬ A a
section
variable {K : PySem.W.Frag} {H H' : Hp} {A A' : Addr → Prop} {a : Addr} {xs : List V}
theorem FL.sq (h : FL H A a xs) : SqL K H a xs := .of h.1
theorem FT.sq (h : FT H A a xs) : SqT K H a xs := .of h.1
end
mutual
inductive Fz (H : Hp) (A : Addr → Prop) : V → D → Prop
  | non : Fz H A .non .none
  | bl (b : Bool) : Fz H A (.bl b) (.bool b)
  | int (i : Int) : Fz H A (.int i) (.int i)
  | str (x : Str) : Fz H A (.str x) (.str x)
  | lst {a : Addr} {xs : List V} {ds : List D} : FL H A a xs → Fzs H A xs ds → Fz H A (.ref a) (.list ds)
  | tup {a : Addr} {xs : List V} {ds : List D} : FT H A a xs → Fzs H A xs ds → Fz H A (.ref a) (.tuple ds)
inductive Fzs (H : Hp) (A : Addr → Prop) : List V → List D → Prop
  | nil : Fzs H A [] []
  | cons {v : V} {vs : List V} {d : D} {ds : List D} : Fz H A v d → Fzs H A vs ds → Fzs H A (v :: vs) (d :: ds)
end
section
variable {K : PySem.W.Frag} {H H' : Hp} {A A' : Addr → Prop}
mutual
theorem Fz.dp : ∀ {v : V} {d : D}, Fz H A v d → Dp K H v d
  | _, _, .non => .non
  | _, _, .bl b => .bl b
  | _, _, .int i => .int i
  | _, _, .str x => .str x
  | _, _, .lst h t => .lst h.sq (Fzs.dp t)
  | _, _, .tup h t => .tup h.sq (Fzs.dp t)
theorem Fzs.dp : ∀ {v : List V} {d : List D}, Fzs H A v d → DpAll K H v d
  | _, _, .nil => .nil
  | _, _, .cons h t => .cons (Fz.dp h) (Fzs.dp t)
end
/-- what keeps the objects that are no cells, and makes cells of none of them -/
structure Kp (H H' : Hp) (A A' : Addr → Prop) : Prop where
  keep : ∀ a o, H a = some o → ¬ A a → H' a = some o
  new : ∀ a o, H a = some o → ¬ A a → ¬ A' a
mutual
theorem Fz.kp (k : Kp H H' A A') : ∀ {v : V} {d : D}, Fz H A v d → Fz H' A' v d
  | _, _, .non => .non
  | _, _, .bl b => .bl b
  | _, _, .int i => .int i
  | _, _, .str x => .str x
  | _, _, .lst h t => .lst ⟨k.keep _ _ h.1 h.2, k.new _ _ h.1 h.2⟩ (Fzs.kp k t)
  | _, _, .tup h t => .tup ⟨k.keep _ _ h.1 h.2, k.new _ _ h.1 h.2⟩ (Fzs.kp k t)
theorem Fzs.kp (k : Kp H H' A A') : ∀ {v : List V} {d : List D}, Fzs H A v d → Fzs H' A' v d
  | _, _, .nil => .nil
  | _, _, .cons h t => .cons (Fz.kp k h) (Fzs.kp k t)
end
theorem Fz.mono (k : ∀ a, A' a → A a) {v : V} {d : D} (h : Fz H A v d) : Fz H A' v d := h.kp ⟨fun _ _ e _ => e, fun a _ _ n z => n (k a z)⟩
theorem Fzs.mono (k : ∀ a, A' a → A a) {v : List V} {d : List D} (h : Fzs H A v d) : Fzs H A' v d := h.kp ⟨fun _ _ e _ => e, fun a _ _ n z => n (k a z)⟩
theorem Fz.same (k : Same H H') {v : V} {d : D} (h : Fz H A v d) : Fz H' A v d := h.kp ⟨fun a o e _ => k a o e, fun _ _ _ n => n⟩
theorem Fzs.same (k : Same H H') {v : List V} {d : List D} (h : Fzs H A v d) : Fzs H' A v d := h.kp ⟨fun a o e _ => k a o e, fun _ _ _ n => n⟩
theorem Fzs.len : ∀ {v : List V} {d : List D}, Fzs H A v d → v.length = d.length
  | _, _, .nil => rfl
  | _, _, .cons _ t => by rw [List.length_cons, List.length_cons, Fzs.len t]
theorem Fzs.get : ∀ {v : List V} {d : List D} {i : Nat} {x : D}, Fzs H A v d → d[i]? = some x → ∃ y, v[i]? = some y ∧ Fz H A y x
  | _, _, _, _, .nil, e => by simp at e
  | _, _, 0, _, .cons h _, e => by simp at e; subst e; exact ⟨_, rfl, h⟩
  | _, _, i + 1, x, .cons _ t, e => by
    obtain ⟨y, h1, h2⟩ := Fzs.get (i := i) (x := x) t (by simpa using e)
    exact ⟨y, by simpa using h1, h2⟩
theorem Fzs.getV : ∀ {v : List V} {d : List D} {i : Nat} {y : V}, Fzs H A v d → v[i]? = some y → ∃ x, d[i]? = some x ∧ Fz H A y x
  | _, _, _, _, .nil, e => by simp at e
  | _, _, 0, _, .cons h _, e => by simp at e; subst e; exact ⟨_, rfl, h⟩
  | _, _, i + 1, x, .cons _ t, e => by
    obtain ⟨y, h1, h2⟩ := Fzs.getV (i := i) (y := x) t (by simpa using e)
    exact ⟨y, by simpa using h1, h2⟩
theorem Fzs.app : ∀ {v w : List V} {d e : List D}, Fzs H A v d → Fzs H A w e → Fzs H A (v ++ w) (d ++ e)
  | _, _, _, _, .nil, h => h
  | _, _, _, _, .cons h t, s => .cons h (Fzs.app t s)
theorem Fzs.take : ∀ {v : List V} {d : List D} (n : Nat), Fzs H A v d → Fzs H A (v.take n) (d.take n)
  | _, _, 0, _ => .nil
  | _, _, _ + 1, .nil => .nil
  | _, _, n + 1, .cons h t => .cons h (Fzs.take n t)
theorem Fzs.drop : ∀ {v : List V} {d : List D} (n : Nat), Fzs H A v d → Fzs H A (v.drop n) (d.drop n)
  | _, _, 0, h => h
  | _, _, _ + 1, .nil => .nil
  | _, _, n + 1, .cons _ t => Fzs.drop n t
end

/-! ### the cells -/
def lv (μ : List Addr) (s : CS) (a : Addr) : Prop := ∃ (n : Nat) (c : Cell), μ[n]? = some a ∧ s[n]? = some c ∧ c ≠ Cell.dead
def Av (B : Addr → Prop) (μ : List Addr) (s : CS) (a : Addr) : Prop := B a ∨ lv μ s a
def CellOk (H : Hp) (A : Addr → Prop) (a : Addr) : Cell → Prop
  | .dead => True
  | .lst ds => ∃ xs, H a = some (.lst xs) ∧ Fzs H A xs ds
structure SR (B : Addr → Prop) (μ : List Addr) (s : CS) (H : Hp) : Prop where
  len : μ.length = s.length
  inj : ∀ (n m : Nat) (a : Addr), μ[n]? = some a → μ[m]? = some a → n = m
  th : ∀ (n : Nat) (a : Addr), μ[n]? = some a → H a ≠ none
  nb : ∀ (n : Nat) (a : Addr), μ[n]? = some a → ¬ B a
  bt : ∀ a, B a → H a ≠ none
  cell : ∀ (n : Nat) (a : Addr) (c : Cell), μ[n]? = some a → s[n]? = some c → CellOk H (Av B μ s) a c
/-- from one state to a later one -/
structure Stp (μ : List Addr) (s : CS) (H : Hp) (μ' : List Addr) (s' : CS) (H' : Hp) : Prop where
  pre : ∃ t, μ' = μ ++ t
  keep : ∀ a o, H a = some o → ¬ lv μ s a → H' a = some o
  th : ∀ a, H a ≠ none → H' a ≠ none
  new : ∀ a, lv μ' s' a → lv μ s a ∨ H a = none
section
variable {K : PySem.W.Frag} {B : Addr → Prop} {μ μ' μ'' : List Addr} {s s' s'' : CS} {H H' H'' : Hp}
theorem Stp.refl : Stp μ s H μ s H := ⟨⟨[], by simp⟩, fun _ _ e _ => e, fun _ e => e, fun _ e => .inl e⟩
theorem Stp.trans (a : Stp μ s H μ' s' H') (b : Stp μ' s' H' μ'' s'' H'') : Stp μ s H μ'' s'' H'' where
  pre := by
    obtain ⟨t, rfl⟩ := a.pre
    obtain ⟨u, rfl⟩ := b.pre
    exact ⟨t ++ u, by simp⟩
  keep := fun x o e n => b.keep x o (a.keep x o e n) fun z => (a.new x z).elim n fun q => by rw [e] at q; cases q
  th := fun x e => b.th x (a.th x e)
  new := fun x z => (b.new x z).elim (a.new x) fun q => .inr (by
    cases h : H x with
    | none => rfl
    | some o => exact absurd q (a.th x (by rw [h]; simp)))
theorem Stp.kp (a : Stp μ s H μ' s' H') : Kp H H' (Av B μ s) (Av B μ' s') :=
  ⟨fun x o e n => a.keep x o e fun z => n (.inr z), fun x o e n z => z.elim (fun b => n (.inl b)) fun l => (a.new x l).elim (fun q => n (.inr q)) fun q => by rw [e] at q; cases q⟩
/-- the heap grows, the cells stay -/
theorem SR.same (r : SR B μ s H) (k : Same H H') : SR B μ s H' where
  len := r.len
  inj := r.inj
  th := fun n a e => by
    cases h : H a with
    | none => exact absurd h (r.th n a e)
    | some o => rw [k _ _ h]; simp
  nb := r.nb
  bt := fun a b => by
    cases h : H a with
    | none => exact absurd h (r.bt a b)
    | some o => rw [k _ _ h]; simp
  cell := fun n a c e1 e2 => by
    have q := r.cell n a c e1 e2
    cases c with
    | dead => trivial
    | lst ds =>
      obtain ⟨xs, e, f⟩ := q
      exact ⟨xs, k _ _ e, f.same k⟩
theorem Stp.same (k : Same H H') : Stp μ s H μ s H' :=
  ⟨⟨[], by simp⟩, fun a o e _ => k a o e, fun a e => by
    cases h : H a with
    | none => exact absurd h e
    | some o => rw [k _ _ h]; simp, fun _ e => .inl e⟩
end

/-! ### what stands for what -/
/-- the written part, by which the script may be read -/
class KFrag where
  K : PySem.W.Frag
def KSc [KFrag] (a : Addr) (ns : List Int) : Prop := ∃ (o : Obj) (its : Array Value) (n : Nat), KFrag.K.lookup a = some o ∧ o.cls = .type "list" ∧ o.dict = none ∧ o.data = .seq its n ∧ its.size ≤ sizeLine ∧ Vals (ns.map V.int) its.toList
section
variable [KFrag]
/-- b stands for a -/
class Rp (a : Type) (b : outParam Type) where
  rel : (Addr → Prop) → List Addr → CS → Hp → b → a → Prop
  stp : ∀ {B : Addr → Prop} {μ μ' : List Addr} {s s' : CS} {H H' : Hp} {v : b} {w : a}, Stp μ s H μ' s' H' → rel B μ s H v w → rel B μ' s' H' v w
def RW (B : Addr → Prop) (μ : List Addr) (s : CS) (H : Hp) (v : V) : W → Prop
  | .d x => Fz H (Av B μ s) v x
  | .c n => ∃ a, v = .ref a ∧ μ[n]? = some a
  | .sc ns => ∃ a, v = .ref a ∧ ((∃ o, H a = some (.frz o (.lst (ns.map V.int))) ∧ ¬ lv μ s a) ∨ KSc a ns)
theorem RW.stp {B : Addr → Prop} {μ μ' : List Addr} {s s' : CS} {H H' : Hp} (a : Stp μ s H μ' s' H') {v : V} {w : W} (h : RW B μ s H v w) : RW B μ' s' H' v w := by
  cases w with
  | d x => exact Fz.kp a.kp h
  | c n =>
    obtain ⟨b, e, q⟩ := h
    obtain ⟨t, rfl⟩ := a.pre
    refine ⟨b, e, ?_⟩
    rw [List.getElem?_append_left (List.getElem?_eq_some_iff.mp q).1]
    exact q
  | sc ns =>
    obtain ⟨b, e, h⟩ := h
    rcases h with ⟨o, q, n⟩ | h
    · exact ⟨b, e, .inl ⟨o, a.keep _ _ q n, fun z => (a.new b z).elim n fun y => by rw [q] at y; cases y⟩⟩
    · exact ⟨b, e, .inr h⟩
instance : Rp W V := ⟨RW, fun a h => RW.stp a h⟩
inductive RWs (B : Addr → Prop) (μ : List Addr) (s : CS) (H : Hp) : List V → List W → Prop
  | nil : RWs B μ s H [] []
  | cons {v : V} {w : W} {vs : List V} {ws : List W} : RW B μ s H v w → RWs B μ s H vs ws → RWs B μ s H (v :: vs) (w :: ws)
theorem RWs.stp {B : Addr → Prop} {μ μ' : List Addr} {s s' : CS} {H H' : Hp} (a : Stp μ s H μ' s' H') : ∀ {v : List V} {w : List W}, RWs B μ s H v w → RWs B μ' s' H' v w
  | _, _, .nil => .nil
  | _, _, .cons h t => .cons (h.stp a) (RWs.stp a t)
instance : Rp (List W) (List V) := ⟨RWs, fun a h => RWs.stp a h⟩
instance : Rp Bool Bool := ⟨fun _ _ _ _ b a => b = a, fun _ h => h⟩
instance : Rp (Option Int) (Option Int) := ⟨fun _ _ _ _ b a => b = a, fun _ h => h⟩
structure ER (B : Addr → Prop) (μ : List Addr) (s : CS) (H : Hp) (σ : L2.St) (ρ : En) : Prop where
  len : σ.length = ρ.length
  at_ : ∀ (i : Nat) (w : W), ρ[i]? = some (some w) → ∃ v, σ[i]? = some (some v) ∧ RW B μ s H v w
section
variable {B : Addr → Prop} {μ μ' : List Addr} {s s' : CS} {H H' : Hp} {σ : L2.St} {ρ : En}
theorem ER.stp (a : Stp μ s H μ' s' H') (h : ER B μ s H σ ρ) : ER B μ' s' H' σ ρ :=
  ⟨h.len, fun i w e => let ⟨v, e1, e2⟩ := h.at_ i w e; ⟨v, e1, e2.stp a⟩⟩
theorem ER.set (h : ER B μ s H σ ρ) {v : V} {w : W} (r : RW B μ s H v w) (i : Nat) : ER B μ s H (σ.set i (some v)) (ρ.set i (some w)) := by
  refine ⟨by rw [List.length_set, List.length_set]; exact h.len, fun j u e => ?_⟩
  by_cases hij : i = j
  · subst hij
    have hl : i < ρ.length := by
      have := (List.getElem?_eq_some_iff.mp e).1
      rwa [List.length_set] at this
    rw [List.getElem?_set_self hl] at e
    have hl' : i < σ.length := by rw [h.len]; exact hl
    cases e
    exact ⟨v, by rw [List.getElem?_set_self hl'], r⟩
  · rw [List.getElem?_set_ne hij] at e
    rw [List.getElem?_set_ne hij]
    exact h.at_ j u e
end

/-! ### what is wanted -/
abbrev TX := Nat → Addr × Str
abbrev WXc := Value → Option Addr → L2.St → Hp → Prop
def ExV (T : TX) (A : Addr → Prop) (H : Hp) (e : Exn) (c : Value) (d : Option Addr) : Prop :=
  c = .ref (T e.cls).1 ∧ ∃ dd v, d = some dd ∧ H dd = some (.xd [((T e.cls).2, v)]) ∧ Fz H A v e.arg
section
variable {a b : Type} [Rp a b]
def Fin (T : TX) (Wx : WXc) (B : Addr → Prop) (μ : List Addr) (s : CS) (H : Hp) (σ : L2.St) (Q : b → Hp → Prop) : R a → Prop
  | .ok w s' => ∀ v μ' H', Stp μ s H μ' s' H' → SR B μ' s' H' → Rp.rel B μ' s' H' v w → Q v H'
  | .exc e s' => ∀ μ' H' c d, Stp μ s H μ' s' H' → SR B μ' s' H' → ExV T (Av B μ' s') H' e c d → Wx c d σ H'
  | .bad => False
def tD (T : TX) (Wx : WXc) (f : En → CS → R a) : L2.St → Hp → (b → Hp → Prop) → Prop := fun σ H Q => ∃ B μ s ρ, SR B μ s H ∧ ER B μ s H σ ρ ∧ Fin T Wx B μ s H σ Q (f ρ s)
end
section
variable {a b c d : Type} [Rp a b] [Rp c d] {T : TX} {Wx : WXc} {B : Addr → Prop} {μ μ' : List Addr} {s s' : CS} {H H' : Hp} {σ : L2.St} {ρ : En} {Q : b → Hp → Prop} {Qc : d → Hp → Prop}
theorem Fin.stp (st : Stp μ s H μ' s' H') {r : R a} (h : Fin T Wx B μ s H σ Q r) : Fin T Wx B μ' s' H' σ Q r := by
  cases r with
  | ok w t => exact fun v m h1 b c d => h v m h1 (st.trans b) c d
  | exc e t => exact fun m h1 c d b x y => h m h1 c d (st.trans b) x y
  | bad => exact h
theorem tD_bind {f : En → CS → R a} {g : a → CS → R c} {k : b → Hp → Prop} (r : SR B μ s H) (e : ER B μ s H σ ρ) (q : Fin T Wx B μ s H σ Qc ((f ρ s).bind g))
    (h : ∀ w s1 v μ1 H1, Stp μ s H μ1 s1 H1 → SR B μ1 s1 H1 → ER B μ1 s1 H1 σ ρ → Rp.rel B μ1 s1 H1 v w → Fin T Wx B μ1 s1 H1 σ Qc (g w s1) → k v H1) : tD T Wx f σ H k := by
  refine ⟨B, μ, s, ρ, r, e, ?_⟩
  cases z : f ρ s with
  | ok w s1 =>
    rw [z] at q
    intro v μ1 H1 a b c
    exact h w s1 v μ1 H1 a b (e.stp a) c (Fin.stp a q)
  | exc x s1 =>
    rw [z] at q
    exact q
  | bad =>
    rw [z] at q
    exact q
/-- a value that is at hand, the cells as they are, the heap grown -/
theorem Fin.use {w : a} {v : b} (q : Fin T Wx B μ s H σ Q (.ok w s)) (k : Same H H') (r : SR B μ s H) (h : Rp.rel B μ s H' v w) : Q v H' := q v μ H' (Stp.same k) (r.same k) h
theorem Fin.here {w : a} {v : b} (q : Fin T Wx B μ s H σ Q (.ok w s)) (r : SR B μ s H) (h : Rp.rel B μ s H v w) : Q v H := q v μ H Stp.refl r h
end
end
end DL
namespace DL
open PySem PySem.Spec PyProof.Rows L2
section
variable [KFrag]

/-! ### expressions -/
theorem PE_imp {X : Cx} {e : Expr} {t t' : TE} (h : PE X e t) (k : ∀ σ H Q, t' σ H Q → t σ H Q) : PE X e t' := ⟨fun pins s σ H Q I z => h.run pins s σ H Q I (k _ _ _ z)⟩
theorem PT_imp {X : Cx} {e : Expr} {t t' : TT} (h : PT X e t) (k : ∀ σ H Q, t' σ H Q → t σ H Q) : PT X e t' := ⟨fun pins s σ H Q I z => h.run pins s σ H Q I (k _ _ _ z)⟩
theorem PW_imp {X : Cx} {e : Expr} {t t' : TT} (h : PW X e t) (k : ∀ σ H Q, t' σ H Q → t σ H Q) : PW X e t' := ⟨fun w pins s σ H Q I z => h.run w pins s σ H Q I (k _ _ _ z)⟩
theorem PA_imp {X : Cx} {e : List Expr} {t t' : TA} (h : PA X e t) (k : ∀ σ H Q, t' σ H Q → t σ H Q) : PA X e t' := ⟨fun pos pins s σ H Q I z => h.run pos pins s σ H Q I (k _ _ _ z)⟩
theorem PS_imp {X : Cx} {e : Stmt} {t t' : TS} (h : PS X e t) (k : ∀ D σ H, t' D σ H → t D σ H) : PS X e t' := ⟨fun pins s σ H D I z => h.run pins s σ H D I (k _ _ _ z)⟩
theorem PSs_imp {X : Cx} {e : List Stmt} {t t' : TS} (h : PSs X e t) (k : ∀ D σ H, t' D σ H → t D σ H) : PSs X e t' := ⟨fun pins s σ H D I z => h.run pins s σ H D I (k _ _ _ z)⟩

abbrev DE (X : Cx) (T : TX) (Wx : WXc) (e : Expr) (f : En → CS → R W) : Prop := PE X e (tD T Wx f)
abbrev DA (X : Cx) (T : TX) (Wx : WXc) (e : List Expr) (f : En → CS → R (List W)) : Prop := PA X e (tD T Wx f)
abbrev DT (X : Cx) (T : TX) (Wx : WXc) (e : Expr) (f : En → CS → R Bool) : Prop := PT X e (tD T Wx f)
abbrev DW (X : Cx) (T : TX) (Wx : WXc) (e : Expr) (f : En → CS → R Bool) : Prop := PW X e (tD T Wx f)

section
variable {X : Cx} {T : TX} {Wx : WXc}

def fVar (i : Nat) (ρ : En) (s : CS) : R W := match ρ[i]? with
  | some (some w) => .ok w s
  | _ => .bad
def fC (x : D) (_ : En) (s : CS) : R W := .ok (.d x) s
theorem de_var {i : Nat} {e : Expr} (h : PE X e (tVar i)) : DE X T Wx e (fVar i) := PE_imp h fun σ H Q ⟨B, μ, s, ρ, r, e, q⟩ => by
  unfold fVar at q
  cases z : ρ[i]? with
  | none => rw [z] at q; exact q.elim
  | some o =>
    cases o with
    | none => rw [z] at q; exact q.elim
    | some w =>
      rw [z] at q
      obtain ⟨v, h1, h2⟩ := e.at_ i w z
      exact ⟨v, h1, Fin.here q r h2⟩
theorem de_const {e : Expr} {v : V} {x : D} (h : PE X e (tC v)) (k : ∀ (H : Hp) A, Fz H A v x) : DE X T Wx e (fC x) := PE_imp h fun σ H Q ⟨B, μ, s, ρ, r, _, q⟩ =>
  Fin.here (a := W) (w := .d x) q r (k _ _)
theorem de_int {i j pos} : DE X T Wx (.Constant (.int i) j pos) (fC (.int i)) := de_const pe_int fun _ _ => .int i
theorem de_bool {i j pos} : DE X T Wx (.Constant (.bool i) j pos) (fC (.bool i)) := de_const pe_bl fun _ _ => .bl i
theorem de_none {j pos} : DE X T Wx (.Constant .none j pos) (fC .none) := de_const pe_non fun _ _ => .non
theorem de_str {x j pos} : DE X T Wx (.Constant (.str x) j pos) (fC (.str x)) := de_const pe_str fun _ _ => .str x
/-- a module's int -/
theorem de_gint {x : Str} {i : Int} {t : Tok} {pos : Pos} (hg : Gl X x) (hm : X.mg x = some (.int i t)) (hd : (x == ("__debug__" : Str)) = false := by decide) : DE X T Wx (.Name x pos) (fC (.int i)) :=
  de_const (v := .int i) (pe_glob hg hm (show ∃ t', Value.int i t = Value.int i t' from ⟨t, rfl⟩) hd) fun _ _ => .int i

/-! arguments -/
def fNil (_ : En) (s : CS) : R (List W) := .ok [] s
def fCons (f : En → CS → R W) (g : En → CS → R (List W)) (ρ : En) (s : CS) : R (List W) := (f ρ s).bind fun w s => (g ρ s).bind fun ws s => .ok (w :: ws) s
theorem da_nil : DA X T Wx [] fNil := PA_imp pa_nil fun σ H Q ⟨B, μ, s, ρ, r, _, q⟩ => Fin.here (a := List W) (w := []) q r RWs.nil
theorem da_cons {e : Expr} {es : List Expr} {f : En → CS → R W} {g : En → CS → R (List W)} (h : DE X T Wx e f) (k : DA X T Wx es g) (hs : starEach (e :: es) X.env = (false, eval e X.env) :: starEach es X.env := by rfl) : DA X T Wx (e :: es) (fCons f g) :=
  PA_imp (pa_cons h k hs) fun σ H Q ⟨B, μ, s, ρ, r, e, q⟩ =>
    tD_bind r e q fun w s1 v μ1 H1 st1 r1 e1 rel1 q1 => tD_bind r1 e1 q1 fun ws s2 vs μ2 H2 st2 r2 e2 rel2 q2 =>
      Fin.here (a := List W) q2 r2 (RWs.cons (Rp.stp (a := W) (b := V) st2 rel1) rel2)

/-! values by values -/
def allD : List W → Option (List D)
  | [] => some []
  | .d x :: r => (allD r).map (x :: ·)
  | _ :: _ => none
def lift1 (g : D → Option D) (w : W) (s : CS) : R W := match w with
  | .d x => match g x with
    | some z => .ok (.d z) s
    | none => .bad
  | _ => .bad
def lift2 (g : D → D → Option D) (w u : W) (s : CS) : R W := match w, u with
  | .d x, .d y => match g x y with
    | some z => .ok (.d z) s
    | none => .bad
  | _, _ => .bad
def liftN (g : List D → Option D) (ws : List W) (s : CS) : R W := match allD ws with
  | some xs => match g xs with
    | some z => .ok (.d z) s
    | none => .bad
  | none => .bad
def Bt (H : Hp) (A : Addr → Prop) : Prop := ∀ a, A a → H a ≠ none
theorem SR.bt' {B : Addr → Prop} {μ : List Addr} {s : CS} {H : Hp} (r : SR B μ s H) : Bt H (Av B μ s) := fun a h => h.elim (r.bt a) fun ⟨n, _, e, _⟩ => r.th n a e
/-- an operation of two values, as a function of data -/
def rD (g : D → D → Option D) : R2 := fun x y H Q => ∃ A dx dy z, Bt H A ∧ Fz H A x dx ∧ Fz H A y dy ∧ g dx dy = some z ∧ ∀ v H', Same H H' → Fz H' A v z → Q v H'
def rD1 (g : D → Option D) : V → Hp → VK → Prop := fun x H Q => ∃ A dx z, Bt H A ∧ Fz H A x dx ∧ g dx = some z ∧ ∀ v H', Same H H' → Fz H' A v z → Q v H'
def rDs (g : List D → Option D) : List V → Hp → VK → Prop := fun xs H Q => ∃ A ds z, Bt H A ∧ Fzs H A xs ds ∧ g ds = some z ∧ ∀ v H', Same H H' → Fz H' A v z → Q v H'
def f2 (g : D → D → Option D) (fa fb : En → CS → R W) (ρ : En) (s : CS) : R W := (fa ρ s).bind fun x s => (fb ρ s).bind fun y s => lift2 g x y s
def f1 (g : D → Option D) (fa : En → CS → R W) (ρ : En) (s : CS) : R W := (fa ρ s).bind fun x s => lift1 g x s
def fN (g : List D → Option D) (fs : En → CS → R (List W)) (ρ : En) (s : CS) : R W := (fs ρ s).bind fun xs s => liftN g xs s
section
variable {B : Addr → Prop} {μ : List Addr} {s : CS} {H : Hp} {σ : L2.St} {Q : VK}
theorem lift2_use {g : D → D → Option D} {w u : W} {x y : V} (r : SR B μ s H) (hw : RW B μ s H x w) (hu : RW B μ s H y u) (q : Fin T Wx B μ s H σ Q (lift2 g w u s)) : rD g x y H Q := by
  cases w with
  | c n => exact q.elim
  | sc n => exact q.elim
  | d dx =>
    cases u with
    | c n => exact q.elim
    | sc n => exact q.elim
    | d dy =>
      unfold lift2 at q
      cases e : g dx dy with
      | none => simp only [e] at q; exact q.elim
      | some z =>
        simp only [e] at q
        exact ⟨Av B μ s, dx, dy, z, r.bt', hw, hu, e, fun v H' k f => Fin.use (a := W) (w := .d z) q k r f⟩
theorem lift1_use {g : D → Option D} {w : W} {x : V} (r : SR B μ s H) (hw : RW B μ s H x w) (q : Fin T Wx B μ s H σ Q (lift1 g w s)) : rD1 g x H Q := by
  cases w with
  | c n => exact q.elim
  | sc n => exact q.elim
  | d dx =>
    unfold lift1 at q
    cases e : g dx with
    | none => simp only [e] at q; exact q.elim
    | some z =>
      simp only [e] at q
      exact ⟨Av B μ s, dx, z, r.bt', hw, e, fun v H' k f => Fin.use (a := W) (w := .d z) q k r f⟩
theorem allD_fz : ∀ {ws : List W} {xs : List V} {ds : List D}, allD ws = some ds → RWs B μ s H xs ws → Fzs H (Av B μ s) xs ds
  | _, _, _, e, .nil => by cases e; exact .nil
  | w :: ws, _, ds, e, .cons h t => by
    cases w with
    | c n => cases e
    | sc n => cases e
    | d x =>
      unfold allD at e
      cases z : allD ws with
      | none => rw [z] at e; cases e
      | some l =>
        rw [z] at e
        cases e
        exact .cons h (allD_fz z t)
theorem liftN_use {g : List D → Option D} {ws : List W} {xs : List V} (r : SR B μ s H) (hw : RWs B μ s H xs ws) (q : Fin T Wx B μ s H σ Q (liftN g ws s)) : rDs g xs H Q := by
  unfold liftN at q
  cases e : allD ws with
  | none => simp only [e] at q; exact q.elim
  | some ds =>
    simp only [e] at q
    cases e2 : g ds with
    | none => simp only [e2] at q; exact q.elim
    | some z =>
      simp only [e2] at q
      exact ⟨Av B μ s, ds, z, r.bt', allD_fz e hw, e2, fun v H' k f => Fin.use (a := W) (w := .d z) q k r f⟩
end
abbrev DOp (X : Cx) (f : Value → Value → Sem Value) (g : D → D → Option D) : Prop := OpR X f (rD g)
section
variable {a b c : Expr} {fa fb fc : En → CS → R W} {pos : Pos} {g g' : D → D → Option D}
/-- the reading of a two-place operation -/
theorem t2_use {fa fb : En → CS → R W} {σ : L2.St} {H : Hp} {Q : VK} (h : tD T Wx (f2 g fa fb) σ H Q) : tOp (rD g) (tD T Wx fa) (tD T Wx fb) σ H Q := by
  obtain ⟨B, μ, s, ρ, r, e, q⟩ := h
  exact tD_bind r e q fun w s1 v μ1 H1 st1 r1 e1 rel1 q1 => tD_bind r1 e1 q1 fun u s2 x μ2 H2 st2 r2 e2 rel2 q2 => lift2_use r2 (Rp.stp (a := W) (b := V) st2 rel1) rel2 q2
theorem de_op {op : Operator} (ho : DOp X (binaryOp op) g) (ha : DE X T Wx a fa) (hb : DE X T Wx b fb) : DE X T Wx (.BinOp a op b pos) (f2 g fa fb) := PE_imp (pe_op ho ha hb) fun _ _ _ => t2_use
theorem de_cmp {op : CmpOp} (ho : DOp X (compareOp op) g) (ha : DE X T Wx a fa) (hb : DE X T Wx b fb) (hm : behindInMarks op b = false := by first | exact nomark _ | rfl) : DE X T Wx (.Compare a [op] [b] pos) (f2 g fa fb) :=
  PE_imp (pe_cmpR ho ha hb hm) fun _ _ _ => t2_use
theorem de_ix (ho : IxR X (rD g)) (ha : DE X T Wx a fa) (hb : DE X T Wx b fb) (hs : PlainIx b := by exact fun _ _ => rfl) : DE X T Wx (.Subscript a b pos) (f2 g fa fb) := PE_imp (pe_ix ho ha hb hs) fun _ _ _ => t2_use
/-- a value whose truth is asked: bools alone -/
def toB : W → CS → R Bool
  | .d (.bool b), s => .ok b s
  | _, _ => .bad
def fB (f : En → CS → R W) (ρ : En) (s : CS) : R Bool := (f ρ s).bind toB
theorem tB_use {f : En → CS → R W} {σ : L2.St} {H : Hp} {Q : Bool → Hp → Prop} (h : tD T Wx (fB f) σ H Q) : tB (tD T Wx f) σ H Q := by
  obtain ⟨B, μ, s, ρ, r, e, q⟩ := h
  refine tD_bind r e q fun w s1 v μ1 H1 st1 r1 e1 rel1 q1 => ?_
  cases w with
  | c n => exact q1.elim
  | sc n => exact q1.elim
  | d x =>
    have rel1 : Fz H1 (Av B μ1 s1) v x := rel1
    cases x with
    | bool b =>
      cases rel1
      exact ⟨b, rfl, Fin.here (a := Bool) q1 r1 rfl⟩
    | _ => exact q1.elim
theorem dt_cmp {op : CmpOp} (ho : DOp X (compareOp op) g) (ha : DE X T Wx a fa) (hb : DE X T Wx b fb) (hm : behindInMarks op b = false := by first | exact nomark _ | rfl) : DT X T Wx (.Compare a [op] [b] pos) (fB (f2 g fa fb)) :=
  PT_imp (pt_cmp ⟨fun pins s σ H Q I h => binT ha hb I (t2_use h) fun v u s2 x y H2 I2 rx ry q => ho pins s2 σ H2 x y v u Q I2 rx ry q⟩ hm) fun _ _ _ => tB_use
theorem dt_val {e : Expr} {f : En → CS → R W} (h : DE X T Wx e f) (he : ∀ whole, isTrue e X.env whole = (do let v ← whole; standAt e.pos; holding [v] (truthy v)) := by intro _; rfl) : DT X T Wx e (fB f) :=
  PT_imp (pt_val h he) fun _ _ _ => tB_use
/-! and, or, not -/
def fNot (f : En → CS → R Bool) (ρ : En) (s : CS) : R Bool := (f ρ s).bind fun b s => .ok (!b) s
def fAnd (f g : En → CS → R Bool) (ρ : En) (s : CS) : R Bool := (f ρ s).bind fun b s => if b = true then g ρ s else .ok false s
def fOr (f g : En → CS → R Bool) (ρ : En) (s : CS) : R Bool := (f ρ s).bind fun b s => if b = true then .ok true s else g ρ s
theorem dt_not {f : En → CS → R Bool} (h : DT X T Wx a f) : DT X T Wx (.UnaryOp .Not a pos) (fNot f) := PT_imp (pt_not h) fun σ H Q ⟨B, μ, s, ρ, r, e, q⟩ =>
  tD_bind r e q fun w s1 v μ1 H1 st1 r1 e1 rel1 q1 => by
    cases rel1
    exact Fin.here (a := Bool) q1 r1 rfl
theorem dw_and1 {f : En → CS → R Bool} (h : DT X T Wx a f) : DW X T Wx (.BoolOp .And [a] pos) f := pw_and1 h
theorem dw_or1 {f : En → CS → R Bool} (h : DT X T Wx a f) : DW X T Wx (.BoolOp .Or [a] pos) f := pw_or1 h
theorem dw_and {rest : List Expr} {f g : En → CS → R Bool} (h : DT X T Wx a f) (k : DW X T Wx (.BoolOp .And (b :: rest) pos) g) : DW X T Wx (.BoolOp .And (a :: b :: rest) pos) (fAnd f g) := PW_imp (pw_and h k) fun σ H Q ⟨B, μ, s, ρ, r, e, q⟩ =>
  tD_bind r e q fun w s1 v μ1 H1 st1 r1 e1 rel1 q1 => by
    cases rel1
    cases w with
    | true => exact ⟨B, μ1, s1, ρ, r1, e1, q1⟩
    | false => exact Fin.here (a := Bool) q1 r1 rfl
theorem dw_or {rest : List Expr} {f g : En → CS → R Bool} (h : DT X T Wx a f) (k : DW X T Wx (.BoolOp .Or (b :: rest) pos) g) : DW X T Wx (.BoolOp .Or (a :: b :: rest) pos) (fOr f g) := PW_imp (pw_or h k) fun σ H Q ⟨B, μ, s, ρ, r, e, q⟩ =>
  tD_bind r e q fun w s1 v μ1 H1 st1 r1 e1 rel1 q1 => by
    cases rel1
    cases w with
    | false => exact ⟨B, μ1, s1, ρ, r1, e1, q1⟩
    | true => exact Fin.here (a := Bool) q1 r1 rfl
theorem dt_w {e : Expr} {f : En → CS → R Bool} (h : DW X T Wx e f) : DT X T Wx e f := h.pt
/-! .. as values: bools alone -/
def fAndV (f g : En → CS → R W) (ρ : En) (s : CS) : R W := (fB f ρ s).bind fun b s => if b = true then g ρ s else .ok (.d (.bool false)) s
def fOrV (f g : En → CS → R W) (ρ : En) (s : CS) : R W := (fB f ρ s).bind fun b s => if b = true then .ok (.d (.bool true)) s else g ρ s
def fNotV (f : En → CS → R W) (ρ : En) (s : CS) : R W := (fB f ρ s).bind fun b s => .ok (.d (.bool (!b))) s
theorem de_one {op} {f : En → CS → R W} (h : DE X T Wx a f) : DE X T Wx (.BoolOp op [a] pos) f := pe_one h
theorem tBV {f : En → CS → R W} {k : Bool → CS → R W} {σ : L2.St} {H : Hp} {Q : VK} {B : Addr → Prop} {μ : List Addr} {s : CS} {ρ : En} {kk : V → Hp → Prop} (r : SR B μ s H) (e : ER B μ s H σ ρ) (q : Fin T Wx B μ s H σ Q ((fB f ρ s).bind k))
    (h : ∀ b s1 μ1 H1, SR B μ1 s1 H1 → ER B μ1 s1 H1 σ ρ → Fin T Wx B μ1 s1 H1 σ Q (k b s1) → kk (.bl b) H1) : tD T Wx f σ H kk := by
  have q' : Fin T Wx B μ s H σ Q ((f ρ s).bind fun w s => (toB w s).bind k) := by
    unfold fB at q
    cases z : f ρ s with
    | ok w s1 => rw [z] at q; exact q
    | exc x s1 => rw [z] at q; exact q
    | bad => rw [z] at q; exact q
  refine tD_bind r e q' fun w s1 v μ1 H1 st1 r1 e1 rel1 q1 => ?_
  cases w with
  | c n => exact q1.elim
  | sc n => exact q1.elim
  | d x =>
    have rel1 : Fz H1 (Av B μ1 s1) v x := rel1
    cases x with
    | bool b =>
      cases rel1
      exact h b s1 μ1 H1 r1 e1 q1
    | _ => exact q1.elim
theorem de_and {rest : List Expr} {f g : En → CS → R W} (h : DE X T Wx a f) (k : DE X T Wx (.BoolOp .And (b :: rest) pos) g) : DE X T Wx (.BoolOp .And (a :: b :: rest) pos) (fAndV f g) := PE_imp (pe_and h k) fun σ H Q ⟨B, μ, s, ρ, r, e, q⟩ =>
  tBV r e q fun b s1 μ1 H1 r1 e1 q1 => ⟨b, rfl, by
    cases b with
    | true => exact ⟨B, μ1, s1, ρ, r1, e1, q1⟩
    | false => exact Fin.here (a := W) q1 r1 (Fz.bl false)⟩
theorem de_or {rest : List Expr} {f g : En → CS → R W} (h : DE X T Wx a f) (k : DE X T Wx (.BoolOp .Or (b :: rest) pos) g) : DE X T Wx (.BoolOp .Or (a :: b :: rest) pos) (fOrV f g) := PE_imp (pe_or h k) fun σ H Q ⟨B, μ, s, ρ, r, e, q⟩ =>
  tBV r e q fun b s1 μ1 H1 r1 e1 q1 => ⟨b, rfl, by
    cases b with
    | false => exact ⟨B, μ1, s1, ρ, r1, e1, q1⟩
    | true => exact Fin.here (a := W) q1 r1 (Fz.bl true)⟩
theorem de_not {f : En → CS → R W} (h : DE X T Wx a f) : DE X T Wx (.UnaryOp .Not a pos) (fNotV f) := PE_imp (pe_not h) fun σ H Q ⟨B, μ, s, ρ, r, e, q⟩ =>
  tBV r e q fun b s1 μ1 H1 r1 e1 q1 => ⟨b, rfl, Fin.here (a := W) q1 r1 (Fz.bl _)⟩
/-! a if t else b -/
def fIf (t : En → CS → R Bool) (f g : En → CS → R W) (ρ : En) (s : CS) : R W := (t ρ s).bind fun b s => if b = true then f ρ s else g ρ s
theorem de_if {t : En → CS → R Bool} {f g : En → CS → R W} (ht : DT X T Wx c t) (hf : DE X T Wx a f) (hg : DE X T Wx b g) : DE X T Wx (.IfExp c a b pos) (fIf t f g) := PE_imp (pe_ifExp ht hf hg) fun σ H Q ⟨B, μ, s, ρ, r, e, q⟩ =>
  tD_bind r e q fun w s1 v μ1 H1 st1 r1 e1 rel1 q1 => by
    cases rel1
    cases w with
    | true => exact ⟨B, μ1, s1, ρ, r1, e1, q1⟩
    | false => exact ⟨B, μ1, s1, ρ, r1, e1, q1⟩
/-! a chain of two -/
def fChain (g g' : D → D → Option D) (fa fb fc : En → CS → R W) (ρ : En) (s : CS) : R W :=
  (fa ρ s).bind fun x s => (fb ρ s).bind fun y s => (lift2 g x y s).bind fun z s => (toB z s).bind fun k s => if k = true then (fc ρ s).bind fun z s => lift2 g' y z s else .ok (.d (.bool false)) s
theorem Fin.imp {Q Q' : VK} {B : Addr → Prop} {μ : List Addr} {s : CS} {H : Hp} {σ : L2.St} {r : R W} (k : ∀ v H', Q v H' → Q' v H') (q : Fin T Wx B μ s H σ Q r) : Fin T Wx B μ s H σ Q' r := by
  cases r with
  | ok w s1 => exact fun v μ1 H1 st r rel => k _ _ (q v μ1 H1 st r rel)
  | exc x s1 => exact q
  | bad => exact q
theorem Fin_split {f : R W} {k : W → CS → R W} {B : Addr → Prop} {μ : List Addr} {s : CS} {H : Hp} {σ : L2.St} {Q : VK} (q : Fin T Wx B μ s H σ Q (f.bind k)) :
    Fin T Wx B μ s H σ (fun v H1 => ∃ w s1 μ1, Stp μ s H μ1 s1 H1 ∧ SR B μ1 s1 H1 ∧ RW B μ1 s1 H1 v w ∧ Fin T Wx B μ1 s1 H1 σ Q (k w s1)) f := by
  cases f with
  | ok w s1 => exact fun v μ1 H1 st r rel => ⟨w, s1, μ1, st, r, rel, Fin.stp st q⟩
  | exc x s1 => exact q
  | bad => exact q
theorem Fin_splitB {f : R W} {k : W → CS → R Bool} {B : Addr → Prop} {μ : List Addr} {s : CS} {H : Hp} {σ : L2.St} {Q : Bool → Hp → Prop} (q : Fin T Wx B μ s H σ Q (f.bind k)) :
    Fin T Wx B μ s H σ (fun v H1 => ∃ w s1 μ1, Stp μ s H μ1 s1 H1 ∧ SR B μ1 s1 H1 ∧ RW B μ1 s1 H1 v w ∧ Fin T Wx B μ1 s1 H1 σ Q (k w s1)) f := by
  cases f with
  | ok w s1 => exact fun v μ1 H1 st r rel => ⟨w, s1, μ1, st, r, rel, Fin.stp st q⟩
  | exc x s1 => exact q
  | bad => exact q
theorem tChain_use {fa fb fc : En → CS → R W} {σ : L2.St} {H : Hp} {Q : VK} (h : tD T Wx (fChain g g' fa fb fc) σ H Q) : tChain (rD g) (rD g') (tD T Wx fa) (tD T Wx fb) (tD T Wx fc) σ H Q := by
  obtain ⟨B, μ, s, ρ, r, e, q⟩ := h
  refine tD_bind r e q fun w s1 v μ1 H1 st1 r1 e1 rel1 q1 => tD_bind r1 e1 q1 fun u s2 x μ2 H2 st2 r2 e2 rel2 q2 => ?_
  have q3 := Fin_split q2
  refine lift2_use (T := T) (Wx := Wx) (σ := σ) r2 (Rp.stp (a := W) (b := V) st2 rel1) rel2 (Fin.imp (fun vz H3 z => ?_) q3)
  obtain ⟨w4, s4, μ4, st4, r4, rel4, q4⟩ := z
  cases w4 with
  | c n => exact q4.elim
  | sc n => exact q4.elim
  | d dz =>
    have rel4 : Fz H3 (Av B μ4 s4) vz dz := rel4
    cases dz with
    | bool k =>
      cases rel4
      refine ⟨k, rfl, ?_⟩
      cases k with
      | false => exact Fin.here (a := W) q4 r4 (Fz.bl false)
      | true =>
        exact tD_bind r4 (e2.stp st4) q4 fun w5 s5 v5 μ5 H5 st5 r5 e5 rel5 q5 => lift2_use r5 (Rp.stp (a := W) (b := V) (st4.trans st5) rel2) rel5 q5
    | _ => exact q4.elim
theorem de_chain {op op' : CmpOp} (ho : DOp X (compareOp op) g) (ho' : DOp X (compareOp op') g') (ha : DE X T Wx a fa) (hb : DE X T Wx b fb) (hc : DE X T Wx c fc) (hm : lastMarks [op, op'] [b, c] = false := by with_unfolding_all rfl) :
    DE X T Wx (.Compare a [op, op'] [b, c] pos) (fChain g g' fa fb fc) := PE_imp (pe_chain ho ho' ha hb hc hm) fun _ _ _ => tChain_use
theorem dt_chain {op op' : CmpOp} (ho : DOp X (compareOp op) g) (ho' : DOp X (compareOp op') g') (ha : DE X T Wx a fa) (hb : DE X T Wx b fb) (hc : DE X T Wx c fc) (hm : lastMarks [op, op'] [b, c] = false := by with_unfolding_all rfl) :
    DT X T Wx (.Compare a [op, op'] [b, c] pos) (fB (fChain g g' fa fb fc)) := PT_imp (pt_chain ho ho' ha hb hc hm) fun σ H Q h => by
  obtain ⟨B, μ, s, ρ, r, e, q⟩ := h
  refine tChain_use ⟨B, μ, s, ρ, r, e, Fin.imp (fun vz H3 z => ?_) (Fin_splitB q)⟩
  obtain ⟨w4, s4, μ4, st4, r4, rel4, q4⟩ := z
  cases w4 with
  | c n => exact q4.elim
  | sc n => exact q4.elim
  | d dz =>
    have rel4 : Fz H3 (Av B μ4 s4) vz dz := rel4
    cases dz with
    | bool k =>
      cases rel4
      exact ⟨k, rfl, Fin.here (a := Bool) q4 r4 rfl⟩
    | _ => exact q4.elim
end
end
end
end DL
namespace DL
open PySem PySem.Spec PyProof.Rows L2
section
variable [KFrag]

theorem same_upd {H : Hp} {p : Addr} {o : HO} (h : H p = none) : Same H (upd H p o) := fun b x e => by
  rw [upd_ne (ne_of_none e h)]
  exact e
theorem Fz.newT {H : Hp} {A : Addr → Prop} {p : Addr} {xs : List V} {ds : List D} (bt : Bt H A) (h : H p = none) (f : Fzs H A xs ds) : Fz (upd H p (.tup xs)) A (.ref p) (.tuple ds) :=
  .tup ⟨upd_same, fun z => bt p z h⟩ (f.same (same_upd h))
theorem Fz.newL {H : Hp} {A : Addr → Prop} {p : Addr} {xs : List V} {ds : List D} (bt : Bt H A) (h : H p = none) (f : Fzs H A xs ds) : Fz (upd H p (.lst xs)) A (.ref p) (.list ds) :=
  .lst ⟨upd_same, fun z => bt p z h⟩ (f.same (same_upd h))

def line : Nat := 16777216
theorem line_eq : sizeLine = line := sizeLine_eq
def tupD (ds : List D) : Option D := if ds.length ≤ line then some (.tuple ds) else none
def lstD (ds : List D) : Option D := if ds.length ≤ line then some (.list ds) else none
section
variable {X : Cx} {T : TX} {Wx : WXc} {es : List Expr} {fs : En → CS → R (List W)} {pos : Pos}
theorem de_tup {k} (h : DA X T Wx es fs) : DE X T Wx (.Tuple es k pos) (fN tupD fs) := PE_imp (pe_tup h) fun σ H Q ⟨B, μ, s, ρ, r, e, q⟩ =>
  tD_bind r e q fun w s1 v μ1 H1 st1 r1 e1 rel1 q1 => by
    obtain ⟨A, ds, z, bt, fz, e, q⟩ := liftN_use r1 rel1 q1
    unfold tupD at e
    split at e
    · rename_i hl
      cases e
      exact ⟨by rw [fz.len, line_eq]; exact hl, fun p hp => q _ _ (same_upd hp) (Fz.newT bt hp fz)⟩
    · cases e
theorem de_lst (h : DA X T Wx es fs) : DE X T Wx (.List es pos) (fN lstD fs) := PE_imp (pe_lst h) fun σ H Q ⟨B, μ, s, ρ, r, e, q⟩ =>
  tD_bind r e q fun w s1 v μ1 H1 st1 r1 e1 rel1 q1 => by
    obtain ⟨A, ds, z, bt, fz, e, q⟩ := liftN_use r1 rel1 q1
    unfold lstD at e
    split at e
    · rename_i hl
      cases e
      exact ⟨by rw [fz.len, line_eq]; exact hl, fun p hp => q _ _ (same_upd hp) (Fz.newL bt hp fz)⟩
    · cases e
end

/-! ### arithmetic -/
def addD : D → D → Option D
  | .int i, .int j => some (.int (i + j))
  | .tuple xs, .tuple ys => if xs.length + ys.length ≤ line then some (.tuple (xs ++ ys)) else none
  | .list xs, .list ys => if xs.length + ys.length ≤ line then some (.list (xs ++ ys)) else none
  | _, _ => none
def subD : D → D → Option D
  | .int i, .int j => some (.int (i - j))
  | _, _ => none
def modD : D → D → Option D
  | .int i, .int j => if 0 < j then some (.int (i % j)) else none
  | _, _ => none
def fdivD : D → D → Option D
  | .int i, .int j => if 0 < j ∧ j < 1073741824 then some (.int (i / j)) else none
  | _, _ => none
def negD : D → Option D
  | .int i => some (.int (-i))
  | _ => none
section
variable {X : Cx}
theorem dop_add : DOp X (binaryOp .Add) addD := by
  intro pins s σ H x y v u Q I rx ry h
  obtain ⟨A, dx, dy, z, bt, fx, fy, e, q⟩ := h
  cases fx with
  | int i =>
    cases fy with
    | int j => cases e; exact op_add pins s σ H _ _ v u Q I rx ry ⟨i, j, rfl, rfl, q _ _ (Same.refl _) (.int _)⟩
    | _ => cases e
  | @tup a xs ds h1 f1 =>
    cases fy with
    | @tup b ys es h2 f2 =>
      simp only [addD] at e
      split at e
      · rename_i hl
        cases e
        have l1 := f1.len
        have l2 := f2.len
        refine op_catA pins s σ H _ _ v u Q I rx ry ⟨a, b, xs, ys, rfl, rfl, h1.sq, h2.sq, by rw [l1, l2, line_eq]; exact hl, fun e0 => ?_, fun _ e0 => ?_, fun _ _ p hp => q _ _ (same_upd hp) (Fz.newT bt hp (f1.app f2))⟩
        · subst e0
          cases f1
          exact q _ _ (Same.refl _) (.tup h2 f2)
        · subst e0
          cases f2
          rw [List.append_nil] at q
          exact q _ _ (Same.refl _) (.tup h1 f1)
      · cases e
    | _ => cases e
  | @lst a xs ds h1 f1 =>
    cases fy with
    | @lst b ys es h2 f2 =>
      simp only [addD] at e
      split at e
      · rename_i hl
        cases e
        exact op_cat pins s σ H _ _ v u Q I rx ry ⟨a, b, xs, ys, rfl, rfl, h1.1, h2.1, by rw [f1.len, f2.len, line_eq]; exact hl, fun p hp => q _ _ (same_upd hp) (Fz.newL bt hp (f1.app f2))⟩
      · cases e
    | _ => cases e
  | _ => cases fy <;> cases e
theorem dop_sub : DOp X (binaryOp .Sub) subD := by
  intro pins s σ H x y v u Q I rx ry h
  obtain ⟨A, dx, dy, z, bt, fx, fy, e, q⟩ := h
  cases fx with
  | int i =>
    cases fy with
    | int j => cases e; exact op_sub pins s σ H _ _ v u Q I rx ry ⟨i, j, rfl, rfl, q _ _ (Same.refl _) (.int _)⟩
    | _ => cases e
  | _ => cases fy <;> cases e
theorem dop_mod : DOp X (binaryOp .Mod) modD := by
  intro pins s σ H x y v u Q I rx ry h
  obtain ⟨A, dx, dy, z, bt, fx, fy, e, q⟩ := h
  cases fx with
  | int i =>
    cases fy with
    | int j =>
      simp only [modD] at e
      split at e
      · rename_i hl
        cases e
        exact op_mod pins s σ H _ _ v u Q I rx ry ⟨i, j, rfl, rfl, hl, q _ _ (Same.refl _) (.int _)⟩
      · cases e
    | _ => cases e
  | _ => cases fy <;> cases e
theorem dop_fdiv : DOp X (binaryOp .FloorDiv) fdivD := by
  intro pins s σ H x y v u Q I rx ry h
  obtain ⟨A, dx, dy, z, bt, fx, fy, e, q⟩ := h
  cases fx with
  | int i =>
    cases fy with
    | int j =>
      simp only [fdivD] at e
      split at e
      · rename_i hl
        cases e
        exact op_fdiv pins s σ H _ _ v u Q I rx ry ⟨i, j, rfl, rfl, hl, q _ _ (Same.refl _) (.int _)⟩
      · cases e
    | _ => cases e
  | _ => cases fy <;> cases e
theorem de_neg {T : TX} {Wx : WXc} {a : Expr} {f : En → CS → R W} {pos : Pos} (h : DE X T Wx a f) : DE X T Wx (.UnaryOp .USub a pos) (f1 negD f) := PE_imp (pe_un un_neg h) fun σ H Q ⟨B, μ, s, ρ, r, e, q⟩ =>
  tD_bind r e q fun w s1 v μ1 H1 st1 r1 e1 rel1 q1 => by
    obtain ⟨A, dx, z, bt, fx, e, q⟩ := lift1_use r1 rel1 q1
    cases fx with
    | int i => cases e; exact ⟨i, rfl, q _ _ (Same.refl _) (.int _)⟩
    | _ => cases e

/-! ### comparisons -/
def eqD (d e : D) : Option D := if SeqAt.shaped d = true ∧ SeqAt.shaped e = true then some (.bool (PyData.eqv d e)) else none
def neD (d e : D) : Option D := if SeqAt.shaped d = true ∧ SeqAt.shaped e = true then some (.bool (!PyData.eqv d e)) else none
def cmpD (p : Int → Int → Bool) : D → D → Option D
  | .int i, .int j => some (.bool (p i j))
  | _, _ => none
def ltD : D → D → Option D := cmpD fun i j => decide (i < j)
def leD : D → D → Option D := cmpD fun i j => decide (i ≤ j)
def gtD : D → D → Option D := cmpD fun i j => decide (j < i)
def geD : D → D → Option D := cmpD fun i j => decide (j ≤ i)
theorem dop_eq (hu : X.A.units + 64 < cLine) : DOp X (compareOp .Eq) eqD := by
  intro pins s σ H x y v u Q I rx ry h
  obtain ⟨A, dx, dy, z, bt, fx, fy, e, q⟩ := h
  unfold eqD at e
  split at e
  · rename_i hs
    cases e
    exact op_eqD hu pins s σ H _ _ v u Q I rx ry ⟨dx, dy, fx.dp, fy.dp, hs.1, hs.2, q _ _ (Same.refl _) (.bl _)⟩
  · cases e
theorem dop_ne (hu : X.A.units + 64 < cLine) : DOp X (compareOp .NotEq) neD := by
  intro pins s σ H x y v u Q I rx ry h
  obtain ⟨A, dx, dy, z, bt, fx, fy, e, q⟩ := h
  unfold neD at e
  split at e
  · rename_i hs
    cases e
    exact op_neD hu pins s σ H _ _ v u Q I rx ry ⟨dx, dy, fx.dp, fy.dp, hs.1, hs.2, q _ _ (Same.refl _) (.bl _)⟩
  · cases e
theorem dop_cmp {op : CmpOp} {p : Int → Int → Bool} (h : OpR X (compareOp op) (rI0 fun i j => .bl (p i j))) : DOp X (compareOp op) (cmpD p) := by
  intro pins s σ H x y v u Q I rx ry h
  obtain ⟨A, dx, dy, z, bt, fx, fy, e, q⟩ := h
  cases fx with
  | int i =>
    cases fy with
    | int j => cases e; exact h pins s σ H _ _ v u Q I rx ry ⟨i, j, rfl, rfl, q _ _ (Same.refl _) (.bl _)⟩
    | _ => cases e
  | _ => cases fy <;> cases e
theorem dop_lt : DOp X (compareOp .Lt) ltD := dop_cmp op_lt
theorem dop_le : DOp X (compareOp .LtE) leD := dop_cmp op_le
theorem dop_gt : DOp X (compareOp .Gt) gtD := dop_cmp op_gt
theorem dop_ge : DOp X (compareOp .GtE) geD := dop_cmp op_ge

/-! ### items -/
def ixD : D → D → Option D
  | .tuple xs, .int i => atI xs i
  | .list xs, .int i => atI xs i
  | _, _ => none
theorem Fzs_atI {H : Hp} {A : Addr → Prop} {xs : List V} {ds : List D} {i : Int} {d : D} (f : Fzs H A xs ds) (e : atI ds i = some d) : ∃ v, atI xs i = some v ∧ Fz H A v d := by
  unfold atI at e ⊢
  rw [f.len]
  cases z : ixN ds.length i with
  | none => rw [z] at e; cases e
  | some j =>
    rw [z] at e
    exact f.get e
theorem dix : IxR X (rD ixD) := by
  intro value slice pins s σ H x y v u Q I rx ry h hs
  obtain ⟨A, dx, dy, z, bt, fx, fy, e, q⟩ := h
  cases fx with
  | @tup a xs ds h1 f1 =>
    cases fy with
    | int j =>
      obtain ⟨v', h3, h4⟩ := Fzs_atI f1 e
      exact ix_tup value slice pins s σ H _ _ v u Q I rx ry ⟨a, xs, j, v', rfl, rfl, h1.sq, h3, q _ _ (Same.refl _) h4⟩ hs
    | _ => cases e
  | @lst a xs ds h1 f1 =>
    cases fy with
    | int j =>
      obtain ⟨v', h3, h4⟩ := Fzs_atI f1 e
      exact ix_list value slice pins s σ H _ _ v u Q I rx ry ⟨a, xs, j, v', rfl, rfl, h1.sq, h3, q _ _ (Same.refl _) h4⟩ hs
    | _ => cases e
  | _ => cases fy <;> cases e
end

/-! ### slices -/
def cutD (xs : List D) (lo hi : Option Int) : List D := (xs.drop (HT.sIx xs.length 0 lo)).take (HT.sIx xs.length xs.length hi - HT.sIx xs.length 0 lo)
def slD (x : D) (lo hi : Option Int) : Option D := match x with
  | .tuple xs => some (.tuple (cutD xs lo hi))
  | .list xs => some (.list (cutD xs lo hi))
  | _ => none
abbrev fO := En → CS → R (Option Int)
def fO0 (_ : En) (s : CS) : R (Option Int) := .ok none s
def toO : W → CS → R (Option Int)
  | .d (.int i), s => .ok (some i) s
  | _, _ => .bad
def fO1 (f : En → CS → R W) (ρ : En) (s : CS) : R (Option Int) := (f ρ s).bind toO
def liftS (w : W) (lo hi : Option Int) (s : CS) : R W := match w with
  | .d x => match slD x lo hi with
    | some z => .ok (.d z) s
    | none => .bad
  | .sc ns => .ok (.d (.list (cutD (ns.map .int) lo hi))) s
  | _ => .bad
def fSl (f : En → CS → R W) (lo hi : fO) (ρ : En) (s : CS) : R W := (f ρ s).bind fun x s => (lo ρ s).bind fun l s => (hi ρ s).bind fun h s => liftS x l h s
theorem Fzs.ints {H : Hp} {A : Addr → Prop} : ∀ (ns : List Int), Fzs H A (ns.map V.int) (ns.map .int)
  | [] => .nil
  | n :: r => .cons (.int n) (Fzs.ints r)
theorem Fzs.cut {H : Hp} {A : Addr → Prop} {xs : List V} {ds : List D} (f : Fzs H A xs ds) (lo hi : Option Int) : Fzs H A (cutV xs lo hi) (cutD ds lo hi) := by
  unfold cutV cutD
  rw [f.len]
  exact (f.drop _).take _
theorem cutD_all {ds : List D} {lo hi : Option Int} (h1 : HT.sIx ds.length 0 lo = 0) (h2 : HT.sIx ds.length ds.length hi = ds.length) : cutD ds lo hi = ds := by
  unfold cutD
  rw [h1, h2, List.drop_zero, Nat.sub_zero, List.take_length]
section
variable {X : Cx} {T : TX} {Wx : WXc} {e : Expr} {f : En → CS → R W} {lo hi : Option Expr} {gl gh : fO} {pos p2 : Pos}
abbrev DO (X : Cx) (T : TX) (Wx : WXc) (e : Option Expr) (f : fO) : Prop := PO X e (tD T Wx f)
theorem do_none : DO X T Wx none fO0 := ⟨fun pins s σ H Q I h => by
  obtain ⟨B, μ, t, ρ, r, e, q⟩ := h
  exact (po_none (X := X)).run pins s σ H Q I (Fin.here (a := Option Int) (w := none) q r rfl)⟩
theorem do_some (h : DE X T Wx e f) : DO X T Wx (some e) (fO1 f) := ⟨fun pins s σ H Q I z => by
  refine (po_some h).run pins s σ H Q I ?_
  obtain ⟨B, μ, t, ρ, r, e, q⟩ := z
  refine tD_bind r e q fun w s1 v μ1 H1 st1 r1 e1 rel1 q1 => ?_
  cases w with
  | c n => exact q1.elim
  | sc n => exact q1.elim
  | d x =>
    have rel1 : Fz H1 (Av B μ1 s1) v x := rel1
    cases x with
    | int i =>
      cases rel1
      exact ⟨i, rfl, Fin.here (a := Option Int) q1 r1 rfl⟩
    | _ => exact q1.elim⟩
theorem de_slice (hK : X.K = KFrag.K) (h : DE X T Wx e f) (hl : DO X T Wx lo gl) (hu : DO X T Wx hi gh) : DE X T Wx (.Subscript e (.Slice lo hi none p2) pos) (fSl f gl gh) :=
  PE_imp (pe_slice (sl_tupA.or sl_list) h hl hu) fun σ H Q ⟨B, μ, s, ρ, r, e, q⟩ =>
  tD_bind r e q fun w s1 v μ1 H1 st1 r1 e1 rel1 q1 => tD_bind r1 e1 q1 fun l s2 vl μ2 H2 st2 r2 e2 rel2 q2 => tD_bind r2 e2 q2 fun u s3 vu μ3 H3 st3 r3 e3 rel3 q3 => by
    cases rel2
    cases rel3
    have rel := RW.stp (st2.trans st3) rel1
    cases w with
    | c n => exact q3.elim
    | sc ns =>
      obtain ⟨a, ev, hs⟩ := rel
      subst ev
      have hs : SqL X.K H3 a (ns.map V.int) := hs.elim (fun ⟨o, ea, _⟩ => .inl (.inr ⟨o, ea⟩)) fun h => .inr (by rw [hK]; exact h)
      refine .inr ⟨a, ns.map V.int, rfl, hs, fun p hp => ?_⟩
      exact Fin.use (a := W) q3 (same_upd hp) r3 (Fz.newL r3.bt' hp ((Fzs.ints ns).cut _ _))
    | d x =>
      have rel : Fz H3 (Av B μ3 s3) v x := rel
      cases rel with
      | @tup a xs ds h1 f1 =>
        refine .inl ⟨a, xs, rfl, h1.sq, fun z => ?_, fun _ p hp => ?_⟩
        · have e : cutD ds l u = ds := cutD_all (by rw [← f1.len]; exact z.1) (by rw [← f1.len]; exact z.2)
          refine Fin.here (a := W) q3 r3 ?_
          show Fz H3 _ _ (.tuple (cutD ds l u))
          rw [e]
          exact .tup h1 f1
        · exact Fin.use (a := W) q3 (same_upd hp) r3 (Fz.newT r3.bt' hp (f1.cut _ _))
      | @lst a xs ds h1 f1 =>
        exact .inr ⟨a, xs, rfl, h1.sq, fun p hp => Fin.use (a := W) q3 (same_upd hp) r3 (Fz.newL r3.bt' hp (f1.cut _ _))⟩
      | _ => exact q3.elim

/-! ### calls of built-ins -/
variable {es : List Expr} {fs : En → CS → R (List W)} {x : Str} {p : Pos}
abbrev DCall (X : Cx) (f : Value) (g : List D → Option D) : Prop := CallR X f (rDs g)
theorem tN_use {g : List D → Option D} {σ : L2.St} {H : Hp} {Q : VK} (h : tD T Wx (fN g fs) σ H Q) : tCB (rDs g) (tD T Wx fs) σ H Q := by
  obtain ⟨B, μ, s, ρ, r, e, q⟩ := h
  exact tD_bind r e q fun w s1 v μ1 H1 st1 r1 e1 rel1 q1 => liftN_use r1 rel1 q1
theorem de_callB {id : String} {g : List D → Option D} (hc : DCall X (.builtin id) g) (hg : Gl X x) (hm : X.mg x = none) (hv : bootBuiltins x = some (.builtin id)) (ha : DA X T Wx (e :: es) fs) (hn : x ≠ "__name__" := by decide) (hdb : (x == ("__debug__" : Str)) = false := by decide)
    (he : starEach (e :: es) X.env = (false, eval e X.env) :: starEach es X.env := by rfl) (hpl : (backTo pos (starEach es X.env)).any (·.1) = false := by rfl) : DE X T Wx (.Call (.Name x p) (e :: es) [] pos) (fN g fs) :=
  PE_imp (pe_callB hc hg hm hv ha hn hdb he hpl) fun _ _ _ => tN_use
theorem de_callTy {id : String} {g : List D → Option D} (hc : DCall X (.type id) g) (hg : Gl X x) (hm : X.mg x = none) (hv : bootBuiltins x = some (.type id)) (ha : DA X T Wx (e :: es) fs) (hn : x ≠ "__name__" := by decide) (hdb : (x == ("__debug__" : Str)) = false := by decide)
    (he : starEach (e :: es) X.env = (false, eval e X.env) :: starEach es X.env := by rfl) (hpl : (backTo pos (starEach es X.env)).any (·.1) = false := by rfl) : DE X T Wx (.Call (.Name x p) (e :: es) [] pos) (fN g fs) :=
  PE_imp (pe_callTy hc hg hm hv ha hn hdb he hpl) fun _ _ _ => tN_use

def lenD : List D → Option D
  | [.tuple xs] => some (.int xs.length)
  | [.list xs] => some (.int xs.length)
  | _ => none
def max2D : List D → Option D
  | [.int i, .int j] => some (.int (if j > i then j else i))
  | _ => none
def min2D : List D → Option D
  | [.int i, .int j] => some (.int (if j < i then j else i))
  | _ => none
def absD : List D → Option D
  | [.int i] => some (.int (if i < 0 then -i else i))
  | _ => none
def intD : List D → Option D
  | [.int i] => some (.int i)
  | [.bool k] => some (.int (if k then 1 else 0))
  | _ => none
def tupleD : List D → Option D
  | [.list xs] => some (.tuple xs)
  | [.tuple xs] => some (.tuple xs)
  | _ => none
def listD : List D → Option D
  | [.list xs] => some (.list xs)
  | [.tuple xs] => some (.list xs)
  | _ => none
def boolsD : List D → Option (List Bool)
  | [] => some []
  | .bool b :: r => (boolsD r).map (b :: ·)
  | _ :: _ => none
def allBD : List D → Option D
  | [.list xs] => (boolsD xs).map fun bs => .bool (bs.all id)
  | _ => none
theorem bools_fz {H : Hp} {A : Addr → Prop} : ∀ {xs : List V} {ds : List D} {bs : List Bool}, Fzs H A xs ds → boolsD ds = some bs → xs = bs.map V.bl
  | _, _, _, .nil, e => by cases e; rfl
  | _, d :: ds, bs, .cons h t, e => by
    cases d with
    | bool b =>
      cases h
      unfold boolsD at e
      cases z : boolsD ds with
      | none => rw [z] at e; cases e
      | some l =>
        rw [z] at e
        cases e
        rw [bools_fz t z]
        rfl
    | _ => cases e
theorem dc_len : DCall X (.builtin "len") lenD := by
  intro pins s σ H xs us Q I r h
  obtain ⟨A, ds, z, bt, fz, e, q⟩ := h
  cases fz with
  | nil => cases e
  | cons h1 t =>
    cases t with
    | cons _ _ => cases h1 <;> cases e
    | nil =>
      cases h1 with
      | @tup a ys ds h1 f1 => cases e; exact call_len_seq pins s σ H _ us Q I r ⟨a, ys, rfl, .inr h1.sq, by rw [f1.len]; exact q _ _ (Same.refl _) (.int _)⟩
      | @lst a ys ds h1 f1 => cases e; exact call_len_seq pins s σ H _ us Q I r ⟨a, ys, rfl, .inl h1.sq, by rw [f1.len]; exact q _ _ (Same.refl _) (.int _)⟩
      | _ => cases e
theorem dc_max2 (hc : X.calm = true) : DCall X (.builtin "max") max2D := by
  intro pins s σ H xs us Q I r h
  obtain ⟨A, ds, z, bt, fz, e, q⟩ := h
  cases fz with
  | nil => cases e
  | cons h1 t =>
    cases t with
    | nil => cases h1 <;> cases e
    | cons h2 t =>
      cases t with
      | cons _ _ => cases h1 <;> cases h2 <;> cases e
      | nil =>
        cases h1 with
        | int i =>
          cases h2 with
          | int j => cases e; exact call_max2 hc pins s σ H _ us Q I r ⟨i, j, rfl, q _ _ (Same.refl _) (.int _)⟩
          | _ => cases e
        | _ => cases h2 <;> cases e
theorem dc_min2 (hc : X.calm = true) : DCall X (.builtin "min") min2D := by
  intro pins s σ H xs us Q I r h
  obtain ⟨A, ds, z, bt, fz, e, q⟩ := h
  cases fz with
  | nil => cases e
  | cons h1 t =>
    cases t with
    | nil => cases h1 <;> cases e
    | cons h2 t =>
      cases t with
      | cons _ _ => cases h1 <;> cases h2 <;> cases e
      | nil =>
        cases h1 with
        | int i =>
          cases h2 with
          | int j => cases e; exact call_min2 hc pins s σ H _ us Q I r ⟨i, j, rfl, q _ _ (Same.refl _) (.int _)⟩
          | _ => cases e
        | _ => cases h2 <;> cases e
theorem dc_abs : DCall X (.builtin "abs") absD := by
  intro pins s σ H xs us Q I r h
  obtain ⟨A, ds, z, bt, fz, e, q⟩ := h
  cases fz with
  | nil => cases e
  | cons h1 t =>
    cases t with
    | cons _ _ => cases h1 <;> cases e
    | nil =>
      cases h1 with
      | int i => cases e; exact call_abs pins s σ H _ us Q I r ⟨i, rfl, q _ _ (Same.refl _) (.int _)⟩
      | _ => cases e
theorem dc_int : DCall X (.type "int") intD := by
  intro pins s σ H xs us Q I r h
  obtain ⟨A, ds, z, bt, fz, e, q⟩ := h
  cases fz with
  | nil => cases e
  | cons h1 t =>
    cases t with
    | cons _ _ => cases h1 <;> cases e
    | nil =>
      cases h1 with
      | int i => cases e; exact call_int1 pins s σ H _ us Q I r (.inl ⟨i, rfl, q _ _ (Same.refl _) (.int _)⟩)
      | bl i => cases e; exact call_int1 pins s σ H _ us Q I r (.inr ⟨i, rfl, q _ _ (Same.refl _) (.int _)⟩)
      | _ => cases e
theorem dc_tuple : DCall X (.type "tuple") tupleD := by
  intro pins s σ H xs us Q I r h
  obtain ⟨A, ds, z, bt, fz, e, q⟩ := h
  cases fz with
  | nil => cases e
  | cons h1 t =>
    cases t with
    | cons _ _ => cases h1 <;> cases e
    | nil =>
      cases h1 with
      | @tup a ys ds h1 f1 => cases e; exact call_tuple_of pins s σ H _ us Q I r ⟨a, ys, rfl, .inr ⟨h1.sq, q _ _ (Same.refl _) (.tup h1 f1)⟩⟩
      | @lst a ys ds h1 f1 => cases e; exact call_tuple_of pins s σ H _ us Q I r ⟨a, ys, rfl, .inl ⟨h1.sq, fun l hl => q _ _ (same_upd hl) (Fz.newT bt hl f1)⟩⟩
      | _ => cases e
theorem dc_list : DCall X (.type "list") listD := by
  intro pins s σ H xs us Q I r h
  obtain ⟨A, ds, z, bt, fz, e, q⟩ := h
  cases fz with
  | nil => cases e
  | cons h1 t =>
    cases t with
    | cons _ _ => cases h1 <;> cases e
    | nil =>
      cases h1 with
      | @tup a ys ds h1 f1 => cases e; exact call_list_of pins s σ H _ us Q I r ⟨a, ys, rfl, .inr h1.sq, fun l hl => q _ _ (same_upd hl) (Fz.newL bt hl f1)⟩
      | @lst a ys ds h1 f1 => cases e; exact call_list_of pins s σ H _ us Q I r ⟨a, ys, rfl, .inl h1.sq, fun l hl => q _ _ (same_upd hl) (Fz.newL bt hl f1)⟩
      | _ => cases e
theorem dc_all (hc : X.calm = true) : DCall X (.builtin "all") allBD := by
  intro pins s σ H xs us Q I r h
  obtain ⟨A, ds, z, bt, fz, e, q⟩ := h
  cases fz with
  | nil => cases e
  | cons h1 t =>
    cases t with
    | cons _ _ => cases h1 <;> cases e
    | nil =>
      cases h1 with
      | @lst a ys ds h1 f1 =>
        simp only [allBD] at e
        cases zb : boolsD ds with
        | none => rw [zb] at e; cases e
        | some bs =>
          rw [zb] at e
          cases e
          refine cr_all hc pins s σ H _ us Q I r ⟨a, bs, rfl, ?_, q _ _ (Same.refl _) (.bl _)⟩
          rw [← bools_fz f1 zb]
          exact h1.sq
      | _ => cases e
/-! isinstance(x, T), T a built-in type -/
def tyN : D → String
  | .none => "NoneType" | .bool _ => "bool" | .int _ => "int" | .str _ => "str" | .list _ => "list" | .tuple _ => "tuple" | .dict _ => "dict"
/-- the table of a class among the types of data -/
structure IsiT (c : String) (g : D → Bool) : Prop where
  at_ : ∀ d, (∀ k, d ≠ .dict k) → kitB (tyN d) c = some (g d)
def isiD (g : D → Bool) (d : D) : Option D := some (.bool (g d))
theorem Fz.ty {K : PySem.W.Frag} {H : Hp} {A : Addr → Prop} {v : V} {d : D} (f : Fz H A v d) : TyX K H v (.type (tyN d)) := by
  cases f with
  | non => exact .base .non
  | bl b => exact .base (.bl b)
  | int i => exact .base (.int i)
  | str x => exact .base (.str x)
  | lst h _ => exact .base (.lst h.1)
  | tup h _ => exact .base (.tup h.1)
theorem Fz.noD {H : Hp} {A : Addr → Prop} {v : V} {d : D} (f : Fz H A v d) : ∀ k, d ≠ .dict k := by
  cases f <;> (intro k z; cases z)
theorem de_isi {c : String} {cx : Str} {g : D → Bool} {pc : Pos} (t : IsiT c g) (hg : Gl X "isinstance") (hm : X.mg "isinstance" = none) (hgc : Gl X cx) (hmc : X.mg cx = none) (hvc : bootBuiltins cx = some (.type c)) (ha : DE X T Wx e f) (hnc : cx ≠ "__name__" := by decide) (hdc : (cx == ("__debug__" : Str)) = false := by decide)
    (hs1 : starEach [e, .Name cx pc] X.env = (false, eval e X.env) :: starEach [.Name cx pc] X.env := by rfl) (hs2 : starEach [.Name cx pc] X.env = (false, eval (.Name cx pc) X.env) :: starEach [] X.env := by rfl) (hpl : (backTo pos (starEach [.Name cx pc] X.env)).any (·.1) = false := by rfl) :
    DE X T Wx (.Call (.Name "isinstance" p) [e, .Name cx pc] [] pos) (f1 (isiD g) f) :=
  PE_imp (pe_callB call_isi hg hm PyProof.Rows.boot_isinstance (pa_cons ha (pa_cons (pe_bltn hgc hmc hvc (v := .ty c) rfl hnc hdc) pa_nil hs2) hs1) (he := hs1) (hpl := hpl)) fun σ H Q ⟨B, μ, s, ρ, r, e, q⟩ =>
  tD_bind r e q fun w s1 v μ1 H1 st1 r1 e1 rel1 q1 => by
    obtain ⟨A, dx, z, bt, fx, e, q⟩ := lift1_use r1 rel1 q1
    cases e
    exact ⟨v, .ty c, .type (tyN dx), .type c, g dx, rfl, .ty c, fx.ty, kit_ty (t.at_ dx fx.noD), q _ _ (Same.refl _) (.bl _)⟩
def isInt : D → Bool
  | .int _ => true | .bool _ => true | _ => false
def isBool : D → Bool
  | .bool _ => true | _ => false
def isTuple : D → Bool
  | .tuple _ => true | _ => false
def isList : D → Bool
  | .list _ => true | _ => false
def isStr : D → Bool
  | .str _ => true | _ => false
theorem isi_int : IsiT "int" isInt := ⟨fun d h => match d with
  | .none => (show kitB "NoneType" "int" = some false by decide +kernel)
  | .bool _ => (show kitB "bool" "int" = some true by decide +kernel)
  | .int _ => (show kitB "int" "int" = some true by decide +kernel)
  | .str _ => (show kitB "str" "int" = some false by decide +kernel)
  | .list _ => (show kitB "list" "int" = some false by decide +kernel)
  | .tuple _ => (show kitB "tuple" "int" = some false by decide +kernel)
  | .dict k => absurd rfl (h k)⟩
theorem isi_bool : IsiT "bool" isBool := ⟨fun d h => match d with
  | .none => (show kitB "NoneType" "bool" = some false by decide +kernel)
  | .bool _ => (show kitB "bool" "bool" = some true by decide +kernel)
  | .int _ => (show kitB "int" "bool" = some false by decide +kernel)
  | .str _ => (show kitB "str" "bool" = some false by decide +kernel)
  | .list _ => (show kitB "list" "bool" = some false by decide +kernel)
  | .tuple _ => (show kitB "tuple" "bool" = some false by decide +kernel)
  | .dict k => absurd rfl (h k)⟩
theorem isi_tuple : IsiT "tuple" isTuple := ⟨fun d h => match d with
  | .none => (show kitB "NoneType" "tuple" = some false by decide +kernel)
  | .bool _ => (show kitB "bool" "tuple" = some false by decide +kernel)
  | .int _ => (show kitB "int" "tuple" = some false by decide +kernel)
  | .str _ => (show kitB "str" "tuple" = some false by decide +kernel)
  | .list _ => (show kitB "list" "tuple" = some false by decide +kernel)
  | .tuple _ => (show kitB "tuple" "tuple" = some true by decide +kernel)
  | .dict k => absurd rfl (h k)⟩
theorem isi_list : IsiT "list" isList := ⟨fun d h => match d with
  | .none => (show kitB "NoneType" "list" = some false by decide +kernel)
  | .bool _ => (show kitB "bool" "list" = some false by decide +kernel)
  | .int _ => (show kitB "int" "list" = some false by decide +kernel)
  | .str _ => (show kitB "str" "list" = some false by decide +kernel)
  | .list _ => (show kitB "list" "list" = some true by decide +kernel)
  | .tuple _ => (show kitB "tuple" "list" = some false by decide +kernel)
  | .dict k => absurd rfl (h k)⟩
theorem isi_str : IsiT "str" isStr := ⟨fun d h => match d with
  | .none => (show kitB "NoneType" "str" = some false by decide +kernel)
  | .bool _ => (show kitB "bool" "str" = some false by decide +kernel)
  | .int _ => (show kitB "int" "str" = some false by decide +kernel)
  | .str _ => (show kitB "str" "str" = some true by decide +kernel)
  | .list _ => (show kitB "list" "str" = some false by decide +kernel)
  | .tuple _ => (show kitB "tuple" "str" = some false by decide +kernel)
  | .dict k => absurd rfl (h k)⟩
end
end
end DL
namespace DL
open PySem PySem.Spec PyProof.Rows L2
section
variable [KFrag]

/-! ### targets -/
def tG (is : List Nat) (h : W → En → Option En) : TG := fun v σ H Q => ∃ B μ s ρ w ρ', SR B μ s H ∧ ER B μ s H σ ρ ∧ RW B μ s H v w ∧ h w ρ = some ρ' ∧ ∀ σ', ER B μ s H σ' ρ' → σ'.length = σ.length → (∀ i, i ∉ is → σ'[i]? = σ[i]?) → Q σ' H
def tGs (is : List Nat) (h : List D → En → Option En) : TGs := fun vs σ H Q => ∃ B μ s ρ ds ρ', SR B μ s H ∧ ER B μ s H σ ρ ∧ Fzs H (Av B μ s) vs ds ∧ h ds ρ = some ρ' ∧ ∀ σ', ER B μ s H σ' ρ' → σ'.length = σ.length → (∀ i, i ∉ is → σ'[i]? = σ[i]?) → Q σ' H
abbrev DG (X : Cx) (e : Expr) (is : List Nat) (h : W → En → Option En) : Prop := PG X e (tG is h)
abbrev DGs (X : Cx) (e : List Expr) (is : List Nat) (h : List D → En → Option En) : Prop := PGs X e (tGs is h)
theorem PG_imp {X : Cx} {e : Expr} {t t' : TG} (h : PG X e t) (k : ∀ v σ H Q, t' v σ H Q → t v σ H Q) : PG X e t' := ⟨fun pins s σ H v u Q I r z => h.run pins s σ H v u Q I r (k _ _ _ _ z)⟩
theorem PGs_imp {X : Cx} {e : List Expr} {t t' : TGs} (h : PGs X e t) (k : ∀ v σ H Q, t' v σ H Q → t v σ H Q) : PGs X e t' := ⟨fun pins s σ H v u Q I r z => h.run pins s σ H v u Q I r (k _ _ _ _ z)⟩
def hN (i : Nat) (w : W) (ρ : En) : Option En := some (ρ.set i (some w))
def hsN (ds : List D) (ρ : En) : Option En := match ds with
  | [] => some ρ
  | _ => none
def hsC (h : W → En → Option En) (k : List D → En → Option En) (ds : List D) (ρ : En) : Option En := match ds with
  | [] => none
  | x :: r => match h (.d x) ρ with
    | some ρ1 => k r ρ1
    | none => none
def hT (n : Nat) (k : List D → En → Option En) (w : W) (ρ : En) : Option En := match w with
  | .d (.tuple ds) => if ds.length = n then k ds ρ else none
  | _ => none
section
variable {X : Cx}
theorem dg_name {i : Nat} {x : Str} {pos : Pos} (h : PG X (.Name x pos) (gName i)) : DG X (.Name x pos) [i] (hN i) := PG_imp h fun v σ H Q ⟨B, μ, s, ρ, w, ρ', r, e, rel, z, q⟩ => by
  cases z
  refine q _ (e.set rel i) (by rw [List.length_set]) fun j hj => ?_
  rw [List.getElem?_set_ne (fun z => hj (by rw [z]; exact List.mem_singleton_self _))]
theorem dgs_nil : DGs X [] [] hsN := PGs_imp pgs_nil fun v σ H Q ⟨B, μ, s, ρ, ds, ρ', r, e, f, z, q⟩ => by
  cases f with
  | nil => cases z; exact ⟨rfl, q σ e rfl fun _ _ => rfl⟩
  | cons _ _ => cases z
theorem dgs_cons {e : Expr} {es : List Expr} {is js : List Nat} {h : W → En → Option En} {k : List D → En → Option En} (h1 : DG X e is h) (h2 : DGs X es js k)
    (ho : PGs X (e :: es) (gCons (tG is h) (tGs js k))) : DGs X (e :: es) (is ++ js) (hsC h k) := PGs_imp ho fun v σ H Q ⟨B, μ, s, ρ, ds, ρ', r, e, f, z, q⟩ => by
  cases f with
  | nil => cases z
  | @cons v vs d ds f1 f2 =>
    unfold hsC at z
    cases y : h (.d d) ρ with
    | none => simp only [y] at z; cases z
    | some ρ1 =>
      simp only [y] at z
      refine ⟨v, vs, rfl, B, μ, s, ρ, .d d, ρ1, r, e, f1, y, fun σ1 e1 l1 a1 => ?_⟩
      exact ⟨B, μ, s, ρ1, ds, ρ', r, e1, f2, z, fun σ2 e2 l2 a2 => q σ2 e2 (l2.trans l1) fun i hi => (a2 i fun m => hi (List.mem_append_right _ m)).trans (a1 i fun m => hi (List.mem_append_left _ m))⟩
theorem dg_tup {es : List Expr} {k : Nat} {pos : Pos} {n : Nat} {is : List Nat} {h : List D → En → Option En} (ho : PG X (.Tuple es k pos) (gTup X.K n (tGs is h))) : DG X (.Tuple es k pos) is (hT n h) := PG_imp ho fun v σ H Q ⟨B, μ, s, ρ, w, ρ', r, e, rel, z, q⟩ => by
  unfold hT at z
  split at z
  · rename_i ds
    split at z
    · rename_i hl
      have rel : Fz H (Av B μ s) v (.tuple ds) := rel
      cases rel with
      | @tup a xs _ h1 f1 => exact ⟨a, xs, rfl, h1.sq, f1.len.trans hl, B, μ, s, ρ, ds, ρ', r, e, f1, z, q⟩
    · cases z
  · cases z
end

/-! ### what is walked -/
/-- an iterator that stands for a list of data -/
structure ItR (B : Addr → Prop) (μ : List Addr) (s : CS) (H : Hp) (J : It) (ds : List D) : Prop where
  ex : ∃ G Y, Walk J ds.length G Y ∧ (∀ H' A', Kp H H' (Av B μ s) A' → Bt H' A' → G H') ∧
    ∀ i H' A' v H'', Kp H H' (Av B μ s) A' → Bt H' A' → i < ds.length → Y i H' v H'' → Same H' H'' ∧ ∃ d, ds[i]? = some d ∧ Fz H'' A' v d
theorem Kp.trans {H H' H'' : Hp} {A A' A'' : Addr → Prop} (a : Kp H H' A A') (b : Kp H' H'' A' A'') : Kp H H'' A A'' :=
  ⟨fun x o e n => b.keep x o (a.keep x o e n) (a.new x o e n), fun x o e n => b.new x o (a.keep x o e n) (a.new x o e n)⟩
theorem ItR.stp {B : Addr → Prop} {μ μ' : List Addr} {s s' : CS} {H H' : Hp} {J : It} {ds : List D} (a : Stp μ s H μ' s' H') (h : ItR B μ s H J ds) : ItR B μ' s' H' J ds := by
  obtain ⟨G, Y, w, g, y⟩ := h.ex
  exact ⟨G, Y, w, fun h A k bt => g h A (a.kp.trans k) bt, fun i h A v h2 k bt => y i h A v h2 (a.kp.trans k) bt⟩
instance : Rp (List D) It := ⟨ItR, fun a h => h.stp a⟩
abbrev DI (X : Cx) (T : TX) (Wx : WXc) (tg iter : Expr) (f : En → CS → R (List D)) : Prop := PI X tg iter (tD T Wx f)
theorem PI_imp {X : Cx} {tg e : Expr} {t t' : TI} (h : PI X tg e t) (k : ∀ σ H Q, t' σ H Q → t σ H Q) : PI X tg e t' := ⟨fun pins s σ H Q I z => h.run pins s σ H Q I (k _ _ _ z)⟩
theorem itr_list {K : PySem.W.Frag} {B : Addr → Prop} {μ : List Addr} {s : CS} {H : Hp} {a : Addr} {xs : List V} {ds : List D} (h : FL H (Av B μ s) a xs) (f : Fzs H (Av B μ s) xs ds) : ItR B μ s H (Itl K a) ds := by
  refine ⟨fun H => SqL K H a xs, YAt xs, ?_, fun H' A' k bt => ?_, fun i H' A' v H'' k bt hi y => ?_⟩
  · rw [← f.len]; exact walk_list
  · exact .of (k.keep _ _ h.1 h.2)
  · obtain ⟨rfl, e⟩ := y
    obtain ⟨d, e1, e2⟩ := (f.kp k).getV e
    exact ⟨Same.refl _, d, e1, e2⟩
theorem itr_tup {K : PySem.W.Frag} {B : Addr → Prop} {μ : List Addr} {s : CS} {H : Hp} {a : Addr} {xs : List V} {ds : List D} (h : FT H (Av B μ s) a xs) (f : Fzs H (Av B μ s) xs ds) : ItR B μ s H (Itt K a) ds := by
  refine ⟨fun H => SqT K H a xs, YAt xs, ?_, fun H' A' k bt => ?_, fun i H' A' v H'' k bt hi y => ?_⟩
  · rw [← f.len]; exact walk_tup
  · exact .of (k.keep _ _ h.1 h.2)
  · obtain ⟨rfl, e⟩ := y
    obtain ⟨d, e1, e2⟩ := (f.kp k).getV e
    exact ⟨Same.refl _, d, e1, e2⟩
def rngD (lo : Int) (n : Nat) : List D := (List.range n).map fun i => .int (lo + (i : Nat))
theorem itr_rng {B : Addr → Prop} {μ : List Addr} {s : CS} {H : Hp} {lo : Int} {n : Nat} : ItR B μ s H (Itr lo n) (rngD lo n) := by
  have hl : (rngD lo n).length = n := by simp [rngD]
  refine ⟨fun _ => True, YFn fun i => .int (lo + i), by rw [hl]; exact walk_range, fun _ _ _ _ => trivial, fun i H' A' v H'' k bt hi y => ?_⟩
  obtain ⟨rfl, rfl⟩ := y
  refine ⟨Same.refl _, .int (lo + i), ?_, .int _⟩
  rw [hl] at hi
  simp [rngD, hi]
def seqD : W → CS → R (List D)
  | .d (.tuple ds), s => .ok ds s
  | .d (.list ds), s => .ok ds s
  | .sc ns, s => .ok (ns.map .int) s
  | _, _ => .bad
def listW : W → CS → R (List D)
  | .d (.list ds), s => .ok ds s
  | _, _ => .bad
def tupW : W → CS → R (List D)
  | .d (.tuple ds), s => .ok ds s
  | _, _ => .bad
def fItL (f : En → CS → R W) (ρ : En) (s : CS) : R (List D) := (f ρ s).bind listW
def fItT (f : En → CS → R W) (ρ : En) (s : CS) : R (List D) := (f ρ s).bind tupW
def fRng1 (f : En → CS → R W) (ρ : En) (s : CS) : R (List D) := (f ρ s).bind fun w s => match w with
  | .d (.int j) => if -(2 ^ 62) ≤ j ∧ j < 2 ^ 62 then .ok (rngD 0 j.toNat) s else .bad
  | _ => .bad
def fRng2 (f g : En → CS → R W) (ρ : En) (s : CS) : R (List D) := (f ρ s).bind fun w s => (g ρ s).bind fun u s => match w, u with
  | .d (.int i), .d (.int j) => if -(2 ^ 62) ≤ i ∧ i < 2 ^ 62 ∧ -(2 ^ 62) ≤ j ∧ j < 2 ^ 62 then .ok (rngD i (j - i).toNat) s else .bad
  | _, _ => .bad
section
variable {X : Cx} {T : TX} {Wx : WXc} {tg e e2 : Expr} {f g : En → CS → R W} {p pos : Pos}
theorem di_list (h : DE X T Wx e f) : DI X T Wx tg e (fItL f) := PI_imp (pi_list h) fun σ H Q ⟨B, μ, s, ρ, r, e, q⟩ =>
  tD_bind r e q fun w s1 v μ1 H1 st1 r1 e1 rel1 q1 => by
    unfold listW at q1
    split at q1
    · rename_i ds
      have rel1 : Fz H1 (Av B μ1 s1) v (.list ds) := rel1
      cases rel1 with
      | @lst a xs _ h1 f1 => exact ⟨a, rfl, ⟨xs, h1.sq⟩, Fin.here (a := List D) q1 r1 (itr_list h1 f1)⟩
    · exact q1.elim
theorem di_tup (h : DE X T Wx e f) : DI X T Wx tg e (fItT f) := PI_imp (pi_tup h) fun σ H Q ⟨B, μ, s, ρ, r, e, q⟩ =>
  tD_bind r e q fun w s1 v μ1 H1 st1 r1 e1 rel1 q1 => by
    unfold tupW at q1
    split at q1
    · rename_i ds
      have rel1 : Fz H1 (Av B μ1 s1) v (.tuple ds) := rel1
      cases rel1 with
      | @tup a xs _ h1 f1 => exact ⟨a, rfl, ⟨xs, h1.sq⟩, Fin.here (a := List D) q1 r1 (itr_tup h1 f1)⟩
    · exact q1.elim
theorem di_rng1 (hg : Gl X "range") (hm : X.mg "range" = none) (h : DE X T Wx e f) (hs : starEach [e] X.env = [(false, eval e X.env)] := by rfl) : DI X T Wx tg (.Call (.Name "range" p) [e] [] pos) (fRng1 f) :=
  PI_imp (pi_range1 hg hm (pa_cons h pa_nil (by rw [hs] <;> rfl)) hs) fun σ H Q ⟨B, μ, s, ρ, r, e, q⟩ =>
  tD_bind r e q fun w s1 v μ1 H1 st1 r1 e1 rel1 q1 => by
    split at q1
    · rename_i j
      split at q1
      · rename_i hj
        have rel1 : Fz H1 (Av B μ1 s1) v (.int j) := rel1
        cases rel1
        exact ⟨j, rfl, hj.1, hj.2, Fin.here (a := List D) q1 r1 itr_rng⟩
      · exact q1.elim
    · exact q1.elim
theorem di_rng2 (hg : Gl X "range") (hm : X.mg "range" = none) (h : DE X T Wx e f) (k : DE X T Wx e2 g) (hs : starEach [e, e2] X.env = [(false, eval e X.env), (false, eval e2 X.env)] := by rfl) (hs2 : starEach [e2] X.env = [(false, eval e2 X.env)] := by rfl) :
    DI X T Wx tg (.Call (.Name "range" p) [e, e2] [] pos) (fRng2 f g) :=
  PI_imp (pi_range2 hg hm (pa_cons h (pa_cons k pa_nil (by rw [hs2] <;> rfl)) (by rw [hs, hs2])) hs hs2) fun σ H Q ⟨B, μ, s, ρ, r, e, q⟩ =>
  tD_bind r e q fun w s1 v μ1 H1 st1 r1 e1 rel1 q1 => tD_bind r1 e1 q1 fun u s2 v2 μ2 H2 st2 r2 e2 rel2 q2 => by
    split at q2
    · rename_i i j
      split at q2
      · rename_i hj
        have rel1 : Fz H1 (Av B μ1 s1) v (.int i) := rel1
        have rel2 : Fz H2 (Av B μ2 s2) v2 (.int j) := rel2
        cases rel1
        cases rel2
        exact ⟨i, j, rfl, hj, Fin.here (a := List D) q2 r2 itr_rng⟩
      · exact q2.elim
    · exact q2.elim
end

/-! ### statements -/
inductive RT where
  | nx (ρ : En) (s : CS) | rt (w : W) (s : CS) | bk (ρ : En) (s : CS) | ct (ρ : En) (s : CS) | exc (e : Exn) (ρ : En) (s : CS) | bad
def FinT (T : TX) (Wx : WXc) (B : Addr → Prop) (μ : List Addr) (s : CS) (H : Hp) (D : Ends) : RT → Prop
  | .nx ρ' s' => ∀ σ' μ' H', Stp μ s H μ' s' H' → SR B μ' s' H' → ER B μ' s' H' σ' ρ' → D.nx σ' H'
  | .rt w s' => ∀ v μ' H', Stp μ s H μ' s' H' → SR B μ' s' H' → RW B μ' s' H' v w → D.rt v H'
  | .bk ρ' s' => ∀ σ' μ' H', Stp μ s H μ' s' H' → SR B μ' s' H' → ER B μ' s' H' σ' ρ' → D.bk σ' H'
  | .ct ρ' s' => ∀ σ' μ' H', Stp μ s H μ' s' H' → SR B μ' s' H' → ER B μ' s' H' σ' ρ' → D.ct σ' H'
  | .exc e ρ' s' => ∀ σ' μ' H' c d, Stp μ s H μ' s' H' → SR B μ' s' H' → ER B μ' s' H' σ' ρ' → ExV T (Av B μ' s') H' e c d → Wx c d σ' H'
  | .bad => False
def tT (T : TX) (Wx : WXc) (g : En → CS → RT) : TS := fun D σ H => ∃ B μ s ρ, SR B μ s H ∧ ER B μ s H σ ρ ∧ FinT T Wx B μ s H D (g ρ s)
abbrev DS (X : Cx) (T : TX) (Wx : WXc) (e : Stmt) (g : En → CS → RT) : Prop := PS X e (tT T Wx g)
abbrev DSs (X : Cx) (T : TX) (Wx : WXc) (e : List Stmt) (g : En → CS → RT) : Prop := PSs X e (tT T Wx g)
/-- an expression's end, as a statement's -/
def R.toT {a : Type} (r : R a) (ρ : En) (k : a → CS → RT) : RT := match r with
  | .ok x s => k x s
  | .exc e s => .exc e ρ s
  | .bad => .bad
section
variable {a b : Type} [Rp a b] {T : TX} {Wx : WXc} {B : Addr → Prop} {μ μ' : List Addr} {s s' : CS} {H H' : Hp} {σ : L2.St} {ρ : En} {D : Ends}
theorem FinT.stp (st : Stp μ s H μ' s' H') {r : RT} (h : FinT T Wx B μ s H D r) : FinT T Wx B μ' s' H' D r := by
  cases r with
  | nx ρ t => exact fun v m h1 b c d => h v m h1 (st.trans b) c d
  | rt w t => exact fun v m h1 b c d => h v m h1 (st.trans b) c d
  | bk ρ t => exact fun v m h1 b c d => h v m h1 (st.trans b) c d
  | ct ρ t => exact fun v m h1 b c d => h v m h1 (st.trans b) c d
  | exc e ρ t => exact fun v m h1 c d b x y z => h v m h1 c d (st.trans b) x y z
  | bad => exact h
theorem tD_bindT {f : En → CS → R a} {g : a → CS → RT} {k : b → Hp → Prop} (r : SR B μ s H) (e : ER B μ s H σ ρ) (q : FinT T Wx B μ s H D ((f ρ s).toT ρ g))
    (h : ∀ w s1 v μ1 H1, Stp μ s H μ1 s1 H1 → SR B μ1 s1 H1 → ER B μ1 s1 H1 σ ρ → Rp.rel B μ1 s1 H1 v w → FinT T Wx B μ1 s1 H1 D (g w s1) → k v H1) : tD T Wx f σ H k := by
  refine ⟨B, μ, s, ρ, r, e, ?_⟩
  cases z : f ρ s with
  | ok w s1 =>
    rw [z] at q
    intro v μ1 H1 a b c
    exact h w s1 v μ1 H1 a b (e.stp a) c (FinT.stp a q)
  | exc x s1 =>
    rw [z] at q
    exact fun μ1 H1 c d st r1 ex => q σ μ1 H1 c d st r1 (e.stp st) ex
  | bad =>
    rw [z] at q
    exact q
end
def gSeq (g k : En → CS → RT) (ρ : En) (s : CS) : RT := match g ρ s with
  | .nx ρ1 s1 => k ρ1 s1
  | r => r
def gNx (ρ : En) (s : CS) : RT := .nx ρ s
def gRet (f : En → CS → R W) (ρ : En) (s : CS) : RT := (f ρ s).toT ρ fun w s => .rt w s
def gRetN (_ : En) (s : CS) : RT := .rt (.d .none) s
def gDrop (f : En → CS → R W) (ρ : En) (s : CS) : RT := (f ρ s).toT ρ fun _ s => .nx ρ s
def gBk (ρ : En) (s : CS) : RT := .bk ρ s
def gCt (ρ : En) (s : CS) : RT := .ct ρ s
def gIf (t : En → CS → R Bool) (g k : En → CS → RT) (ρ : En) (s : CS) : RT := (t ρ s).toT ρ fun b s => if b = true then g ρ s else k ρ s
def gAsg (h : W → En → Option En) (f : En → CS → R W) (ρ : En) (s : CS) : RT := (f ρ s).toT ρ fun w s => match h w ρ with
  | some ρ' => .nx ρ' s
  | none => .bad
section
variable {X : Cx} {T : TX} {Wx : WXc} {st : Stmt} {sts : List Stmt} {g k : En → CS → RT} {e tg : Expr} {f : En → CS → R W} {pos : Pos}
theorem dss_nil : DSs X T Wx [] gNx := PSs_imp pss_nil fun D σ H ⟨B, μ, s, ρ, r, e, q⟩ => q σ μ H Stp.refl r e
theorem dss_cons (h1 : DS X T Wx st g) (h2 : DSs X T Wx sts k) : DSs X T Wx (st :: sts) (gSeq g k) := PSs_imp (pss_cons h1 h2) fun D σ H ⟨B, μ, s, ρ, r, e, q⟩ => by
  refine ⟨B, μ, s, ρ, r, e, ?_⟩
  unfold gSeq at q
  cases z : g ρ s with
  | nx ρ1 s1 =>
    simp only [z] at q
    exact fun σ1 μ1 H1 st1 r1 e1 => ⟨B, μ1, s1, ρ1, r1, e1, FinT.stp st1 q⟩
  | rt w s1 => simp only [z] at q; exact q
  | bk w s1 => simp only [z] at q; exact q
  | ct w s1 => simp only [z] at q; exact q
  | exc w ρ1 s1 => simp only [z] at q; exact q
  | bad => simp only [z] at q; exact q
theorem dss_one (h1 : DS X T Wx st g) : DSs X T Wx [st] g := pss_one h1
theorem ds_pass : DS X T Wx (.Pass pos) gNx := PS_imp ps_pass fun D σ H ⟨B, μ, s, ρ, r, e, q⟩ => q σ μ H Stp.refl r e
theorem ds_break : DS X T Wx (.Break pos) gBk := PS_imp ps_break fun D σ H ⟨B, μ, s, ρ, r, e, q⟩ => q σ μ H Stp.refl r e
theorem ds_cont : DS X T Wx (.Continue pos) gCt := PS_imp ps_continue fun D σ H ⟨B, μ, s, ρ, r, e, q⟩ => q σ μ H Stp.refl r e
theorem ds_ret (h : DE X T Wx e f) : DS X T Wx (.Return (some e) pos) (gRet f) := PS_imp (ps_ret h) fun D σ H ⟨B, μ, s, ρ, r, e, q⟩ =>
  tD_bindT r e q fun w s1 v μ1 H1 st1 r1 e1 rel1 q1 => q1 v μ1 H1 Stp.refl r1 rel1
theorem ds_retN : DS X T Wx (.Return none pos) gRetN := PS_imp ps_retN fun D σ H ⟨B, μ, s, ρ, r, e, q⟩ => q .non μ H Stp.refl r Fz.non
theorem ds_expr (h : DE X T Wx e f) (hs : swapsWith e none pos.line X.env = pure false := by rfl) : DS X T Wx (.Expr e pos) (gDrop f) := PS_imp (ps_expr h hs) fun D σ H ⟨B, μ, s, ρ, r, e, q⟩ =>
  tD_bindT r e q fun w s1 v μ1 H1 st1 r1 e1 rel1 q1 => q1 σ μ1 H1 Stp.refl r1 e1
theorem ds_doc {x j p} : DS X T Wx (.Expr (.Constant (.str x) j p) pos) gNx := PS_imp ps_doc fun D σ H ⟨B, μ, s, ρ, r, e, q⟩ => q σ μ H Stp.refl r e
theorem ds_if {t : En → CS → R Bool} {as bs : List Stmt} (ht : DT X T Wx e t) (h1 : DSs X T Wx as g) (h2 : DSs X T Wx bs k) : DS X T Wx (.If e as bs pos) (gIf t g k) := PS_imp (ps_if ht h1 h2) fun D σ H ⟨B, μ, s, ρ, r, e, q⟩ =>
  tD_bindT r e q fun w s1 v μ1 H1 st1 r1 e1 rel1 q1 => by
    cases rel1
    cases w with
    | true => exact ⟨B, μ1, s1, ρ, r1, e1, q1⟩
    | false => exact ⟨B, μ1, s1, ρ, r1, e1, q1⟩
theorem tAsg_use {is : List Nat} {h : W → En → Option En} {D : Ends} {σ : L2.St} {H : Hp} (q : tT T Wx (gAsg h f) D σ H) : tAsg (tD T Wx f) (tG is h) D σ H := by
  obtain ⟨B, μ, s, ρ, r, e, q⟩ := q
  refine tD_bindT r e q fun w s1 v μ1 H1 st1 r1 e1 rel1 q1 => ?_
  cases z : h w ρ with
  | none => rw [z] at q1; exact q1.elim
  | some ρ' =>
    rw [z] at q1
    exact ⟨B, μ1, s1, ρ, w, ρ', r1, e1, rel1, z, fun σ' e' _ _ => q1 σ' μ1 H1 Stp.refl r1 e'⟩
theorem ds_asg {is : List Nat} {h : W → En → Option En} (he : DE X T Wx e f) (hg : DG X tg is h) (hs : swapsWithSole [tg] e pos.line X.env = pure false := by rfl) (hw : swappedStores [tg] e X.env = pure none := by rfl) (h1 : (assignEach [tg] X.env).map (·.2) = [assign tg X.env] := by rfl) : DS X T Wx (.Assign [tg] e pos) (gAsg h f) :=
  PS_imp (ps_asg he hg hs hw h1) fun D σ H q => tAsg_use q
theorem ds_set {i : Nat} {x : Str} {pos' : Pos} (hN' : X.N.Nodup) (hi : X.N[i]? = some x) (hx : Loc X.env.scope x) (he : DE X T Wx e f) (hs : swapsWith e (some (.Name x pos')) pos.line X.env = pure false := by rfl) (hf : X.fn x = true ∨ X.env.scope.names.lookup x = some .local := by first | exact .inl rfl | exact .inr rfl | assumption) :
    DS X T Wx (.Assign [.Name x pos'] e pos) (gAsg (hN i) f) := PS_imp (ps_set hN' hi hx he hs hf) fun D σ H q => by
  obtain ⟨B, μ, s, ρ, r, e, q⟩ := q
  exact tD_bindT r e q fun w s1 v μ1 H1 st1 r1 e1 rel1 q1 => q1 _ μ1 H1 Stp.refl r1 (e1.set rel1 i)
/-! loops -/
def forL (h : W → En → Option En) (body : En → CS → RT) : List PyData → En → CS → RT
  | [], ρ, s => .nx ρ s
  | x :: r, ρ, s => match h (.d x) ρ with
    | none => .bad
    | some ρ1 => match body ρ1 s with
      | .nx ρ2 s2 => forL h body r ρ2 s2
      | .ct ρ2 s2 => forL h body r ρ2 s2
      | .bk ρ2 s2 => .nx ρ2 s2
      | z => z
def gFor (fi : En → CS → R (List PyData)) (h : W → En → Option En) (body : En → CS → RT) (ρ : En) (s : CS) : RT := (fi ρ s).toT ρ fun ds s => forL h body ds ρ s
theorem ds_for {fi : En → CS → R (List PyData)} {is : List Nat} {h : W → En → Option En} {iter : Expr} {body : List Stmt} (hp : PassesOwn (model X.prog X.w) X.A X.env X.xe) (hc : X.calm = true) (hi : DI X T Wx tg iter fi) (hg : DG X tg is h) (hb : DSs X T Wx body g)
    (hs : ∀ x, foldedSetIterable iter X.env x = pure x := by intro _; rfl) : DS X T Wx (.For tg iter body [] pos) (gFor fi h g) := PS_imp (ps_for hp hc hi hg hb hs) fun D σ H ⟨B, μ, s, ρ, r, e, q⟩ => by
  refine tD_bindT r e q fun ds s1 J μ1 H1 st1 r1 e1 rel1 q1 => ?_
  obtain ⟨G, Y, w, gg, yy⟩ := rel1.ex
  refine for_it w (fun i σ' H' => ∃ μ' s' ρ', Stp μ1 s1 H1 μ' s' H' ∧ SR B μ' s' H' ∧ ER B μ' s' H' σ' ρ' ∧ FinT T Wx B μ' s' H' D (forL h g (ds.drop i) ρ' s')) ⟨μ1, s1, ρ, Stp.refl, r1, e1, q1⟩ (fun i σ' H' hi z => ?_) (fun i x σ' H' H'' hi z y => ?_) (fun σ' H' z => ?_)
  · obtain ⟨μ', s', ρ', st, sr, er, fq⟩ := z
    exact gg H' _ st.kp sr.bt'
  · obtain ⟨μ', s', ρ', st, sr, er, fq⟩ := z
    obtain ⟨sm, d, ed, fd⟩ := yy i H' _ x H'' st.kp sr.bt' hi y
    have ec : ds.drop i = d :: ds.drop (i + 1) := by
      obtain ⟨hl, rfl⟩ := List.getElem?_eq_some_iff.mp ed
      exact List.drop_eq_getElem_cons hl
    rw [ec] at fq
    unfold forL at fq
    have sr2 := sr.same sm
    have st2 : Stp μ' s' H' μ' s' H'' := Stp.same sm
    have fq := FinT.stp st2 fq
    cases z1 : h (.d d) ρ' with
    | none => simp only [z1] at fq; exact fq.elim
    | some ρ1 =>
      simp only [z1] at fq
      refine ⟨B, μ', s', ρ', .d d, ρ1, sr2, er.stp st2, fd, z1, fun σ2 e2 _ _ => ⟨B, μ', s', ρ1, sr2, e2, ?_⟩⟩
      cases z2 : g ρ1 s' with
      | nx ρ2 s2 =>
        simp only [z2] at fq
        exact fun σ3 μ3 H3 st3 sr3 er3 => ⟨μ3, s2, ρ2, (st.trans st2).trans st3, sr3, er3, FinT.stp st3 fq⟩
      | ct ρ2 s2 =>
        simp only [z2] at fq
        exact fun σ3 μ3 H3 st3 sr3 er3 => ⟨μ3, s2, ρ2, (st.trans st2).trans st3, sr3, er3, FinT.stp st3 fq⟩
      | bk ρ2 s2 => simp only [z2] at fq; exact fq
      | rt w2 s2 => simp only [z2] at fq; exact fq
      | exc w2 ρ2 s2 => simp only [z2] at fq; exact fq
      | bad => simp only [z2] at fq; exact fq
  · obtain ⟨μ', s', ρ', st, sr, er, fq⟩ := z
    rw [List.drop_length] at fq
    exact fq σ' μ' H' Stp.refl sr er
def whileL (t : En → CS → R Bool) (body : En → CS → RT) : Nat → En → CS → RT
  | 0, _, _ => .bad
  | n + 1, ρ, s => (t ρ s).toT ρ fun b s => if b = true then (match body ρ s with
      | .nx ρ2 s2 => whileL t body n ρ2 s2
      | .ct ρ2 s2 => whileL t body n ρ2 s2
      | .bk ρ2 s2 => .nx ρ2 s2
      | z => z) else .nx ρ s
theorem ds_while {t : En → CS → R Bool} {body : List Stmt} (n : Nat) (hp : PassesOwn (model X.prog X.w) X.A X.env X.xe) (ht : DT X T Wx e t) (hb : DSs X T Wx body g) : DS X T Wx (.While e body [] pos) (whileL t g n) := PS_imp (ps_while hp ht hb) fun D σ H ⟨B, μ, s, ρ, r, e, q⟩ => by
  refine ⟨fun m σ' H' => ∃ μ' s' ρ', SR B μ' s' H' ∧ ER B μ' s' H' σ' ρ' ∧ FinT T Wx B μ' s' H' D (whileL t g m ρ' s'), ⟨n, μ, s, ρ, r, e, q⟩, ?_⟩
  rintro m σ' H' ⟨μ', s', ρ', sr, er, fq⟩
  cases m with
  | zero => exact fq.elim
  | succ m =>
    unfold whileL at fq
    refine tD_bindT sr er fq fun b s1 v μ1 H1 st1 r1 e1 rel1 q1 => ?_
    cases rel1
    cases b with
    | false => exact q1 σ' μ1 H1 Stp.refl r1 e1
    | true =>
      rw [if_pos rfl] at q1 ⊢
      refine ⟨fun σ2 H2 => ∃ μ2 s2 ρ2, SR B μ2 s2 H2 ∧ ER B μ2 s2 H2 σ2 ρ2 ∧ FinT T Wx B μ2 s2 H2 D (whileL t g m ρ2 s2), fun σ2 H2 z => ⟨m, Nat.lt_succ_self m, z⟩, B, μ1, s1, ρ', r1, e1, ?_⟩
      cases z2 : g ρ' s1 with
      | nx ρ2 s2 =>
        simp only [z2] at q1
        exact fun σ3 μ3 H3 st3 sr3 er3 => ⟨μ3, s2, ρ2, sr3, er3, FinT.stp st3 q1⟩
      | ct ρ2 s2 =>
        simp only [z2] at q1
        exact fun σ3 μ3 H3 st3 sr3 er3 => ⟨μ3, s2, ρ2, sr3, er3, FinT.stp st3 q1⟩
      | bk ρ2 s2 => simp only [z2] at q1; exact q1
      | rt w2 s2 => simp only [z2] at q1; exact q1
      | exc w2 ρ2 s2 => simp only [z2] at q1; exact q1
      | bad => simp only [z2] at q1; exact q1
end
end
end DL
namespace DL
open PySem PySem.Spec PyProof.Rows L2
section
variable [KFrag]

/-! ### comprehensions -/
def wipeE (ρ : En) : List Nat → En
  | [] => ρ
  | v :: vs => (wipeE ρ vs).set v none
theorem wipeE_len (ρ : En) : ∀ vs : List Nat, (wipeE ρ vs).length = ρ.length
  | [] => rfl
  | v :: vs => by unfold wipeE; rw [List.length_set, wipeE_len ρ vs]
theorem wipeE_some {ρ : En} {i : Nat} {x : W} : ∀ {vs : List Nat}, (wipeE ρ vs)[i]? = some (some x) → ρ[i]? = some (some x) ∧ i ∉ vs
  | [], h => ⟨h, by simp⟩
  | v :: vs, h => by
    unfold wipeE at h
    by_cases hi : v = i
    · subst hi
      by_cases hv : v < (wipeE ρ vs).length
      · rw [List.getElem?_set_self hv] at h; cases h
      · rw [List.getElem?_eq_none (by simpa using hv)] at h; cases h
    · rw [List.getElem?_set_ne hi] at h
      obtain ⟨h1, h2⟩ := wipeE_some h
      exact ⟨h1, by simp only [List.mem_cons, not_or]; exact ⟨fun e => hi e.symm, h2⟩⟩
theorem ER.wipe {B : Addr → Prop} {μ : List Addr} {s : CS} {H : Hp} {σ : L2.St} {ρ : En} (e : ER B μ s H σ ρ) (vs : List Nat) : ER B μ s H (wipe σ vs) (wipeE ρ vs) := by
  refine ⟨by rw [wipe_length, wipeE_len]; exact e.len, fun i w z => ?_⟩
  obtain ⟨z1, z2⟩ := wipeE_some z
  obtain ⟨v, e1, e2⟩ := e.at_ i w z1
  exact ⟨v, by rw [wipe_out z2]; exact e1, e2⟩
theorem wipe_at {σ : L2.St} {i : Nat} : ∀ {vs : List Nat}, i ∈ vs → i < σ.length → (wipe σ vs)[i]? = some none
  | [], h, _ => by cases h
  | v :: vs, h, hl => by
    unfold wipe
    by_cases e : v = i
    · subst e
      rw [List.getElem?_set_self (by rw [wipe_length]; exact hl)]
    · rw [List.getElem?_set_ne e]
      exact wipe_at ((List.mem_cons.mp h).elim (fun z => absurd z.symm e) fun z => z) hl
theorem wipe_eq {σ σ' : L2.St} {vs is : List Nat} (hl : σ'.length = σ.length) (ha : ∀ i, i ∉ is → σ'[i]? = σ[i]?) (hs : ∀ i ∈ is, i ∈ vs) : wipe σ' vs = wipe σ vs := by
  apply List.ext_getElem?
  intro i
  by_cases hi : i ∈ vs
  · by_cases hb : i < σ.length
    · rw [wipe_at hi hb, wipe_at hi (by rw [hl]; exact hb)]
    · rw [List.getElem?_eq_none (by rw [wipe_length]; omega), List.getElem?_eq_none (by rw [wipe_length]; omega)]
  · rw [wipe_out hi, wipe_out hi, ha i fun z => hi (hs i z)]
theorem wipe_wipe {σ : L2.St} {vs : List Nat} : wipe (wipe σ vs) vs = wipe σ vs := by
  apply List.ext_getElem?
  intro i
  by_cases hi : i ∈ vs
  · by_cases hb : i < σ.length
    · rw [wipe_at hi hb, wipe_at hi (by rw [wipe_length]; exact hb)]
    · rw [List.getElem?_eq_none (by rw [wipe_length, wipe_length]; omega), List.getElem?_eq_none (by rw [wipe_length]; omega)]
  · rw [wipe_out hi, wipe_out hi]

/-- an exception is not looked for within a comprehension -/
def R.bind0 {a b : Type} (r : R a) (k : a → CS → R b) : R b := match r with
  | .ok x s => k x s
  | _ => .bad
abbrev Wx0 : WXc := fun _ _ _ _ => False
def fYes (_ : En) (s : CS) : R Bool := .ok true s
def consR (w : W) (r : CS → R (List D)) (s : CS) : R (List D) := match w with
  | .d y => (r s).bind0 fun ys s => .ok (y :: ys) s
  | _ => .bad
def compL (h : W → En → Option En) (tt : En → CS → R Bool) (f : En → CS → R W) (ρ : En) : List D → CS → R (List D)
  | [], s => .ok [] s
  | x :: r, s => match h (.d x) ρ with
    | none => .bad
    | some ρ1 => (tt ρ1 s).bind0 fun b s => if b = true then (f ρ1 s).bind0 fun w s => consR w (fun s => compL h tt f ρ r s) s else compL h tt f ρ r s
def endL (pre : List D) (r : R (List D)) : R W := r.bind0 fun ys s => .ok (.d (.list (pre ++ ys))) s
def fLc (vs : List Nat) (fi : En → CS → R (List D)) (h : W → En → Option En) (tt : En → CS → R Bool) (f : En → CS → R W) (ρ : En) (s : CS) : R W :=
  (fi ρ s).bind fun items s => if items.length ≤ line then endL [] (compL h tt f (wipeE ρ vs) items s) else .bad

section
variable {T : TX} {Wx : WXc} {B : Addr → Prop} {μ μ' : List Addr} {s s' : CS} {H H' : Hp} {σ : L2.St} {ρ : En}
/-- .. and one object more that no one but the maker may touch -/
def And1 (B : Addr → Prop) (D : Addr) (a : Addr) : Prop := B a ∨ a = D
theorem SR.off {D : Addr} (r : SR (And1 B D) μ s H) : SR B μ s H where
  len := r.len
  inj := r.inj
  th := r.th
  nb := fun n a e z => r.nb n a e (.inl z)
  bt := fun a z => r.bt a (.inl z)
  cell := fun n a c e1 e2 => by
    have q := r.cell n a c e1 e2
    cases c with
    | dead => trivial
    | lst ds =>
      obtain ⟨xs, e, f⟩ := q
      exact ⟨xs, e, f.mono fun a z => z.elim (fun z => .inl (.inl z)) .inr⟩
theorem kp_on {D : Addr} {o : HO} (h : H D = none) : Kp H (upd H D o) (Av B μ s) (Av (And1 B D) μ s) :=
  ⟨fun a x e _ => same_upd h a x e, fun a x e n z => z.elim (fun z => z.elim (fun z => n (.inl z)) fun z => by rw [z, h] at e; cases e) fun z => n (.inr z)⟩
theorem SR.on {D : Addr} {o : HO} (r : SR B μ s H) (h : H D = none) : SR (And1 B D) μ s (upd H D o) where
  len := r.len
  inj := r.inj
  th := fun n a e => by
    cases z : H a with
    | none => exact absurd z (r.th n a e)
    | some x => rw [same_upd h _ _ z]; simp
  nb := fun n a e z => z.elim (r.nb n a e) fun z => r.th n a e (by rw [z]; exact h)
  bt := fun a z => by
    rcases z with z | z
    · cases y : H a with
      | none => exact absurd y (r.bt a z)
      | some x => rw [same_upd h _ _ y]; simp
    · rw [z, upd_same]; simp
  cell := fun n a c e1 e2 => by
    have q := r.cell n a c e1 e2
    cases c with
    | dead => trivial
    | lst ds =>
      obtain ⟨xs, e, f⟩ := q
      exact ⟨xs, same_upd h _ _ e, f.kp (kp_on h)⟩
theorem kp_upd {A : Addr → Prop} {D : Addr} {o : HO} (h : A D) : Kp H (upd H D o) A A :=
  ⟨fun a x e n => by rw [upd_ne (fun z => n (by rw [z]; exact h))]; exact e, fun _ _ _ n => n⟩
theorem SR.updB {D : Addr} {o : HO} (r : SR B μ s H) (h : B D) : SR B μ s (upd H D o) where
  len := r.len
  inj := r.inj
  th := fun n a e => by
    rw [upd_ne (fun z => r.nb n a e (by rw [z]; exact h))]
    exact r.th n a e
  nb := r.nb
  bt := fun a z => by
    by_cases e : a = D
    · rw [e, upd_same]; simp
    · rw [upd_ne e]; exact r.bt a z
  cell := fun n a c e1 e2 => by
    have q := r.cell n a c e1 e2
    cases c with
    | dead => trivial
    | lst ds =>
      obtain ⟨xs, e, f⟩ := q
      exact ⟨xs, by rw [upd_ne (fun z => r.nb n a e1 (by rw [z]; exact h))]; exact e, f.kp (kp_upd (.inl h))⟩
theorem RW.kpB {B' : Addr → Prop} (st : Stp μ s H μ' s' H') (k : Kp H H' (Av B μ s) (Av B' μ' s')) {v : V} {w : W} (h : RW B μ s H v w) : RW B' μ' s' H' v w := by
  cases w with
  | d x => exact Fz.kp k h
  | c n =>
    obtain ⟨b, e, q⟩ := h
    obtain ⟨t, rfl⟩ := st.pre
    refine ⟨b, e, ?_⟩
    rw [List.getElem?_append_left (List.getElem?_eq_some_iff.mp q).1]
    exact q
  | sc ns =>
    obtain ⟨b, e, h⟩ := h
    rcases h with ⟨o, q, n⟩ | h
    · exact ⟨b, e, .inl ⟨o, st.keep _ _ q n, fun z => (st.new b z).elim n fun y => by rw [q] at y; cases y⟩⟩
    · exact ⟨b, e, .inr h⟩
theorem ER.kpB {B' : Addr → Prop} (st : Stp μ s H μ' s' H') (k : Kp H H' (Av B μ s) (Av B' μ' s')) (h : ER B μ s H σ ρ) : ER B' μ' s' H' σ ρ :=
  ⟨h.len, fun i w e => let ⟨v, e1, e2⟩ := h.at_ i w e; ⟨v, e1, e2.kpB st k⟩⟩
/-- an expression that is evaluated within a comprehension -/
theorem tD_bind0 {a b c d : Type} [Rp a b] [Rp c d] {B' : Addr → Prop} {f : En → CS → R a} {g : a → CS → R c} {k : b → Hp → Prop} {μ0 : List Addr} {s0 : CS} {H0 : Hp} {σ0 : L2.St} {Qc : d → Hp → Prop} (r : SR B' μ s H) (e : ER B' μ s H σ ρ)
    (q : Fin T Wx B μ0 s0 H0 σ0 Qc ((f ρ s).bind0 g))
    (h : ∀ w s1 v μ1 H1, Stp μ s H μ1 s1 H1 → SR B' μ1 s1 H1 → ER B' μ1 s1 H1 σ ρ → Rp.rel B' μ1 s1 H1 v w → Fin T Wx B μ0 s0 H0 σ0 Qc (g w s1) → k v H1) : tD T Wx0 f σ H k := by
  refine ⟨B', μ, s, ρ, r, e, ?_⟩
  cases z : f ρ s with
  | ok w s1 =>
    rw [z] at q
    intro v μ1 H1 a b c
    exact h w s1 v μ1 H1 a b (e.stp a) c q
  | exc x s1 =>
    rw [z] at q
    exact q.elim
  | bad =>
    rw [z] at q
    exact q
theorem endL_bind {a : Type} {pre : List D} {r : R a} {k : a → CS → R (List D)} : endL pre (r.bind0 k) = r.bind0 fun x s => endL pre (k x s) := by
  cases r <;> rfl
theorem endL_ite {pre : List D} {b : Bool} {x y : R (List D)} : endL pre (if b = true then x else y) = if b = true then endL pre x else endL pre y := by
  cases b <;> rfl
theorem endL_cons {pre : List D} {y : D} {r : CS → R (List D)} {s : CS} : endL pre (consR (.d y) r s) = endL (pre ++ [y]) (r s) := by
  unfold consR endL
  cases r s with
  | ok ys s => show R.ok _ _ = R.ok _ _; simp
  | exc e s => rfl
  | bad => rfl
end

section
variable {X : Cx} {T : TX} {Wx : WXc} {elt tg iter : Expr} {ifs : List Expr} {scope : Scope} {own : List (Str × Nat)} {pos : Pos} {fi : En → CS → R (List D)} {is : List Nat} {h : W → En → Option En} {tt : En → CS → R Bool} {f : En → CS → R W}
/-- the heap while the list at D is made -/
structure Mk1 (B : Addr → Prop) (μ1 : List Addr) (s1 : CS) (H1 : Hp) (D : Addr) (μ : List Addr) (s : CS) (H : Hp) (ds : List PyData) : Prop where
  st : Stp μ1 s1 H1 μ s H
  sr : SR (And1 B D) μ s H
  ls : ∃ acc, H D = some (.lst acc) ∧ Fzs H (Av (And1 B D) μ s) acc ds
theorem Mk1.kp {B : Addr → Prop} {μ1 : List Addr} {s1 : CS} {H1 : Hp} {D : Addr} {μ : List Addr} {s : CS} {H : Hp} {ds : List PyData} (m : Mk1 B μ1 s1 H1 D μ s H ds) (hD : H1 D = none) : Kp H1 H (Av B μ1 s1) (Av (And1 B D) μ s) :=
  ⟨m.st.kp.keep, fun a o e n z => z.elim (fun z => z.elim (fun z => n (.inl z)) fun z => by rw [z, hD] at e; cases e) fun z => m.st.kp.new a o e n (.inr z)⟩
theorem Mk1.step {B : Addr → Prop} {μ1 : List Addr} {s1 : CS} {H1 : Hp} {D : Addr} {μ μ' : List Addr} {s s' : CS} {H H' : Hp} {ds : List PyData} (m : Mk1 B μ1 s1 H1 D μ s H ds) (st : Stp μ s H μ' s' H') (sr : SR (And1 B D) μ' s' H') : Mk1 B μ1 s1 H1 D μ' s' H' ds := by
  obtain ⟨acc, e, f⟩ := m.ls
  refine ⟨m.st.trans st, sr, acc, st.keep _ _ e fun z => ?_, f.kp st.kp⟩
  obtain ⟨n, _, z, _⟩ := z
  exact m.sr.nb n D z (.inr rfl)
theorem Mk1.push {B : Addr → Prop} {μ1 : List Addr} {s1 : CS} {H1 : Hp} {D : Addr} {μ : List Addr} {s : CS} {H : Hp} {ds : List PyData} (m : Mk1 B μ1 s1 H1 D μ s H ds) (hD : H1 D = none) {v : V} {d : PyData} (fz : Fz H (Av (And1 B D) μ s) v d) (hz : ds.length < line) :
    ∃ acc, H D = some (.lst acc) ∧ acc.length < sizeLine ∧ Mk1 B μ1 s1 H1 D μ s (upd H D (.lst (acc ++ [v]))) (ds ++ [d]) := by
  obtain ⟨acc, e, f⟩ := m.ls
  refine ⟨acc, e, by rw [f.len, line_eq]; exact hz, ⟨?_, m.sr.updB (.inr rfl), acc ++ [v], upd_same, (f.app (.cons fz .nil)).kp (kp_upd (.inl (.inr rfl)))⟩⟩
  refine ⟨m.st.pre, fun a o ea n => ?_, fun a ea => ?_, m.st.new⟩
  · have ha : a ≠ D := fun z => by rw [z, hD] at ea; cases ea
    rw [upd_ne ha]
    exact m.st.keep a o ea n
  · have ha : a ≠ D := fun z => by rw [z] at ea; exact ea hD
    rw [upd_ne ha]
    exact m.st.th a ea
theorem Mk1.start {B : Addr → Prop} {μ : List Addr} {s : CS} {H : Hp} {D : Addr} (r : SR B μ s H) (hD : H D = none) : Mk1 B μ s H D μ s (upd H D (.lst [])) [] :=
  ⟨Stp.same (same_upd hD), r.on hD, [], upd_same, .nil⟩
theorem Mk1.done {B : Addr → Prop} {μ1 : List Addr} {s1 : CS} {H1 : Hp} {D : Addr} {μ : List Addr} {s : CS} {H : Hp} {ds : List PyData} {σ : L2.St} {Q : VK} (m : Mk1 B μ1 s1 H1 D μ s H ds) (r1 : SR B μ1 s1 H1) (hD : H1 D = none)
    (q : Fin (a := W) T Wx B μ1 s1 H1 σ Q (.ok (.d (.list ds)) s)) : Q (.ref D) H := by
  obtain ⟨acc, e, f⟩ := m.ls
  refine q _ μ H m.st m.sr.off (Fz.lst ⟨e, fun z => ?_⟩ (f.mono fun a z => z.elim (fun z => .inl (.inl z)) .inr))
  rcases z with z | ⟨n, _, z, _⟩
  · exact r1.bt D z hD
  · exact m.sr.nb n D z (.inr rfl)
theorem tLc_use {σ : L2.St} {H : Hp} {Q : VK} (hsub : ∀ i ∈ is, i ∈ own.map (·.2)) (q : tD T Wx (fLc (own.map (·.2)) fi h tt f) σ H Q) : tLc (tD T Wx fi) (tG is h) (tD T Wx0 tt) (tD T Wx0 f) (own.map (·.2)) σ H Q := by
  obtain ⟨B, μ, s, ρ, r, e, q⟩ := q
  refine tD_bind r e q fun ds s1 J μ1 H1 st1 r1 e1 rel1 q1 D hD => ?_
  split at q1
  · rename_i hlen
    obtain ⟨G, Y, w, gg, yy⟩ := rel1.ex
    refine lc_it w (fun i H' => ∃ μ' s' ys, Mk1 B μ1 s1 H1 D μ' s' H' ys ∧ ys.length ≤ i ∧ Fin T Wx B μ1 s1 H1 σ Q (endL ys (compL h tt f (wipeE ρ (own.map (·.2))) (ds.drop i) s'))) ⟨μ1, s1, [], Mk1.start r1 hD, Nat.le_refl _, q1⟩ (fun i H' hi z => ?_) (fun i x H' H'' hi z y => ?_) (fun H' z => ?_)
    · obtain ⟨μ', s', ys, m, _, _⟩ := z
      exact gg H' _ (m.kp hD) m.sr.bt'
    · obtain ⟨μ', s', ys, m, hys, fq⟩ := z
      obtain ⟨sm, d, ed, fd⟩ := yy i H' _ x H'' (m.kp hD) m.sr.bt' hi y
      have ec : ds.drop i = d :: ds.drop (i + 1) := by
        obtain ⟨hl, rfl⟩ := List.getElem?_eq_some_iff.mp ed
        exact List.drop_eq_getElem_cons hl
      rw [ec] at fq
      unfold compL at fq
      have m2 : Mk1 B μ1 s1 H1 D μ' s' H'' ys := m.step (Stp.same sm) (m.sr.same sm)
      have er : ER (And1 B D) μ' s' H'' (wipe σ (own.map (·.2))) (wipeE ρ (own.map (·.2))) := (e1.kpB m2.st (m2.kp hD)).wipe _
      cases z1 : h (.d d) (wipeE ρ (own.map (·.2))) with
      | none => simp only [z1] at fq; exact fq.elim
      | some ρ1 =>
        simp only [z1] at fq
        refine ⟨_, μ', s', _, .d d, ρ1, m2.sr, er, fd, z1, fun σ2 e2 l2 a2 => ⟨?_, ?_⟩⟩
        · rw [wipe_eq l2 a2 hsub, wipe_wipe]
        · rw [endL_bind] at fq
          refine tD_bind0 m2.sr e2 fq fun b s3 v3 μ3 H3 st3 r3 e3 rel3 q3 => ?_
          cases rel3
          have m3 := m2.step st3 r3
          rw [endL_ite] at q3
          cases b with
          | false =>
            rw [if_neg Bool.false_ne_true] at q3 ⊢
            exact ⟨μ3, s3, ys, m3, by omega, q3⟩
          | true =>
            rw [if_pos rfl] at q3 ⊢
            rw [endL_bind] at q3
            refine tD_bind0 r3 e3 q3 fun w4 s4 v4 μ4 H4 st4 r4 e4 rel4 q4 => ?_
            have m4 := m3.step st4 r4
            cases w4 with
            | c n => exact q4.elim
            | sc n => exact q4.elim
            | d y =>
              rw [endL_cons] at q4
              obtain ⟨acc, ea, hacc, m5⟩ := m4.push hD rel4 (by omega)
              exact ⟨acc, ea, hacc, μ4, s4, ys ++ [y], m5, by simp; omega, q4⟩
    · obtain ⟨μ', s', ys, m, hys, fq⟩ := z
      rw [List.drop_length] at fq
      have fq : Fin (a := W) T Wx B μ1 s1 H1 σ Q (.ok (.d (.list (ys ++ []))) s') := fq
      rw [List.append_nil] at fq
      exact m.done r1 hD fq
  · exact q1.elim
theorem PTs_imp {X : Cx} {e : List Expr} {t t' : TT} (h : PTs X e t) (k : ∀ σ H Q, t' σ H Q → t σ H Q) : PTs X e t' := ⟨fun pins s σ H Q I z => h.run pins s σ H Q I (k _ _ _ z)⟩
theorem dts_nil : PTs X [] (tD T Wx fYes) := PTs_imp pts_nil fun σ H Q ⟨B, μ, s, ρ, r, e, q⟩ => Fin.here (a := Bool) q r rfl
theorem dts_one {e : Expr} (k : DT X T Wx e tt) : PTs X [e] (tD T Wx tt) := pts_one k
theorem de_lc (hc : X.calm = true) (hN : X.N.Nodup) (hi : DI X T Wx tg iter fi) (ok : BlkOk X.N X.env.scope scope own) (hsub : ∀ i ∈ is, i ∈ own.map (·.2))
    (hg : ∀ (s : Shared) (H : Hp) (C : Addr) (cl : List (Str × Addr)) (fp : List Addr), DG (X.blk s H scope (compEnvC scope cl C X.env) fp) tg is h) (ht : ∀ (s : Shared) (H : Hp) (C : Addr) (cl : List (Str × Addr)) (fp : List Addr), PTs (X.blk s H scope (compEnvC scope cl C X.env) fp) ifs (tD T Wx0 tt))
    (he : ∀ (s : Shared) (H : Hp) (C : Addr) (cl : List (Str × Addr)) (fp : List Addr), DE (X.blk s H scope (compEnvC scope cl C X.env) fp) T Wx0 elt f) (hs : ∀ x, foldedSetIterable iter X.env x = pure x := by intro _; rfl) :
    DE X T Wx (.ListComp elt [⟨tg, iter, ifs, 0⟩] scope pos) (fLc (own.map (·.2)) fi h tt f) := PE_imp (pe_lc hc hN hi ok hg ht he hs) fun σ H Q => tLc_use hsub
theorem ds_setLc {i : Nat} {y : Str} {py spos : Pos} (hc : X.calm = true) (hN' : X.N.Nodup) (hy : X.N[i]? = some y) (hyl : X.env.scope.names.lookup y = some .local)
    (hsw : swapsWith (.ListComp elt [⟨tg, iter, ifs, 0⟩] scope pos) (some (.Name y py)) spos.line X.env = pure true) (hi : DI X T Wx tg iter fi) (ok : BlkOk X.N X.env.scope scope own) (hsub : ∀ i ∈ is, i ∈ own.map (·.2))
    (hg : ∀ (s : Shared) (H : Hp) (C : Addr) (cl : List (Str × Addr)) (fp : List Addr), DG (X.blk s H scope (compEnvC scope cl C X.env) fp) tg is h) (ht : ∀ (s : Shared) (H : Hp) (C : Addr) (cl : List (Str × Addr)) (fp : List Addr), PTs (X.blk s H scope (compEnvC scope cl C X.env) fp) ifs (tD T Wx0 tt))
    (he : ∀ (s : Shared) (H : Hp) (C : Addr) (cl : List (Str × Addr)) (fp : List Addr), DE (X.blk s H scope (compEnvC scope cl C X.env) fp) T Wx0 elt f) (hs : ∀ x, foldedSetIterable iter X.env x = pure x := by intro _; rfl) :
    DS X T Wx (.Assign [.Name y py] (.ListComp elt [⟨tg, iter, ifs, 0⟩] scope pos) spos) (gAsg (hN i) (fLc (own.map (·.2)) fi h tt f)) := PS_imp (ps_setLc hc hN' hy hyl hsw hi ok hg ht he hs) fun D σ H q => by
  have hx : ∀ (t : TE), (∀ σ H Q, tD T Wx (fLc (own.map (·.2)) fi h tt f) σ H Q → t σ H Q) → tAsg t (gName i) D σ H := fun t k => by
    obtain ⟨B, μ, s, ρ, r, e, q⟩ := q
    exact k σ H _ (tD_bindT r e q fun w s1 v μ1 H1 st1 r1 e1 rel1 q1 => q1 _ μ1 H1 Stp.refl r1 (e1.set rel1 i))
  exact hx _ fun σ H Q z => tLc_use hsub z
end
end
end DL
namespace DL
open PySem PySem.Spec PyProof.Rows L2
section
variable [KFrag]

/-! ### defs -/
def startE (n : Nat) (ws : List W) : En := ws.map some ++ List.replicate (n - ws.length) none
/-- a def's value: m parameters, n slots -/
def fnR (m n : Nat) (g : En → CS → RT) (ws : List W) (s : CS) : R W := if ws.length = m then (match g (startE n ws) s with
  | .nx _ s => .ok (.d .none) s
  | .rt w s => .ok w s
  | .exc e _ s => .exc e s
  | _ => .bad) else .bad
def noX (f : List W → CS → R W) (ws : List W) (s : CS) : R W := match f ws s with
  | .ok w s => .ok w s
  | _ => .bad
def spD (T : TX) (m : Nat) (f : List W → CS → R W) : Sp := fun vs H Q E => vs.length = m ∧ ∃ B μ s ws σ, SR B μ s H ∧ RWs B μ s H vs ws ∧ Fin T (fun c d _ H' => E c d H') B μ s H σ Q (f ws s)
section
variable {B : Addr → Prop} {μ : List Addr} {s : CS} {H : Hp}
theorem RWs.len : ∀ {vs : List V} {ws : List W}, RWs B μ s H vs ws → vs.length = ws.length
  | _, _, .nil => rfl
  | _, _, .cons _ t => by rw [List.length_cons, List.length_cons, RWs.len t]
theorem RWs.get : ∀ {vs : List V} {ws : List W} {i : Nat} {w : W}, RWs B μ s H vs ws → ws[i]? = some w → ∃ v, vs[i]? = some v ∧ RW B μ s H v w
  | _, _, _, _, .nil, e => by simp at e
  | _, _, 0, _, .cons h _, e => by simp at e; subst e; exact ⟨_, rfl, h⟩
  | _, _, i + 1, w, .cons _ t, e => by
    obtain ⟨y, h1, h2⟩ := RWs.get (i := i) (w := w) t (by simpa using e)
    exact ⟨y, by simpa using h1, h2⟩
theorem ER.start {N : List Str} {vs : List V} {ws : List W} (r : RWs B μ s H vs ws) : ER B μ s H (start N vs) (startE N.length ws) := by
  unfold L2.start startE
  refine ⟨by rw [List.length_append, List.length_append, List.length_map, List.length_map, List.length_replicate, List.length_replicate, r.len], fun i w e => ?_⟩
  by_cases hi : i < ws.length
  · rw [List.getElem?_append_left (by rw [List.length_map]; exact hi), List.getElem?_map] at e
    cases z : ws[i]? with
    | none => rw [z] at e; cases e
    | some w' =>
      rw [z] at e
      cases e
      obtain ⟨v, h1, h2⟩ := r.get z
      refine ⟨v, ?_, h2⟩
      rw [List.getElem?_append_left (by rw [List.length_map, r.len]; exact hi), List.getElem?_map, h1]
      rfl
  · rw [List.getElem?_append_right (by rw [List.length_map]; omega)] at e
    rw [List.getElem?_replicate] at e
    split at e <;> cases e
end
section
variable {P : Program} {w : World} {K : PySem.W.Frag} {mg : Str → Option Value} {base : Heap} {x qual : Str} {st : Stmt} {f : Addr} {fd : FuncData} {N ps : List Str} {k : Nat} {T : TX} {g : En → CS → RT}
theorem spD_len {T : TX} {m : Nat} {f : List W → CS → R W} : ∀ vs H Q E, spD T m f vs H Q E → vs.length = m := fun _ _ _ _ h => h.1
theorem fn_run {T : TX} {Wx : WXc} {B : Addr → Prop} {μ : List Addr} {s : CS} {H : Hp} {σ : L2.St} {vs : List V} {ws : List W} {m : Nat} {Q : VK} {E : XK} (hW : ∀ c d σ H, E c d H → Wx c d σ H) (r : SR B μ s H) (rw_ : RWs B μ s H vs ws)
    (q : Fin T (fun c d _ H' => E c d H') B μ s H σ Q (fnR m N.length g ws s)) : tT T Wx g { nx := fun _ H' => Q .non H', rt := Q } (start N vs) H := by
  refine ⟨B, μ, s, _, r, ER.start rw_, ?_⟩
  unfold fnR at q
  split at q
  · cases z : g (startE N.length ws) s with
    | nx ρ s1 => simp only [z] at q; exact fun σ' μ' H' st sr _ => q .non μ' H' st sr Fz.non
    | rt w s1 => simp only [z] at q; exact q
    | exc e ρ s1 => simp only [z] at q; exact fun σ' μ' H' c d st sr _ ex => hW _ _ _ _ (q μ' H' c d st sr ex)
    | bk ρ s1 => simp only [z] at q; exact q.elim
    | ct ρ s1 => simp only [z] at q; exact q.elim
    | bad => simp only [z] at q; exact q.elim
  · exact q.elim
theorem noX_fin {T : TX} {Wx Wy : WXc} {B : Addr → Prop} {μ : List Addr} {s : CS} {H : Hp} {σ σ' : L2.St} {Q : VK} {h : List W → CS → R W} {ws : List W} {s' : CS} (q : Fin T Wx B μ s H σ Q (noX h ws s')) : Fin T Wy B μ s H σ' Q (noX h ws s') := by
  unfold noX at q ⊢
  cases z : h ws s' with
  | ok w s1 => simp only [z] at q ⊢; exact q
  | exc e s1 => simp only [z] at q ⊢; exact q.elim
  | bad => simp only [z] at q ⊢; exact q.elim
theorem noX_un {T : TX} {Wx Wy : WXc} {B : Addr → Prop} {μ : List Addr} {s : CS} {H : Hp} {σ σ' : L2.St} {Q : VK} {h : List W → CS → R W} {ws : List W} {s' : CS} (q : Fin T Wx B μ s H σ Q (noX h ws s')) : Fin T Wy B μ s H σ' Q (h ws s') := by
  unfold noX at q
  cases z : h ws s' with
  | ok w s1 => simp only [z] at q ⊢; exact q
  | exc e s1 => simp only [z] at q; exact q.elim
  | bad => simp only [z] at q; exact q.elim
/-- a def that lets nothing out -/
theorem fn_ok {m n : Nat} (F : Fun K x qual st f fd) (S : FnScope N ps (defScope st)) (hm : ps.length = m) (hn : N.length = n)
    (hb : ∀ (cdv : Value) (A : Around) (outer : List Env) (s : Shared) (H : Hp) (E : XK), Room k (A.deeper (envOfC qual (defScope st) s.heap.objs.size f cdv)) → DSs (cxOf CX0 P w K mg base N qual (defScope st) f cdv A outer s H E).nox T Wx0 (defBody st) g) :
    FnOk P w K mg base CX0 (k + 1) f fd ps (spD T m (noX (fnR m n g))) := by
  subst hm
  subst hn
  exact F.ok S spD_len fun cdv A outer s H vs Q E hr h => by
    obtain ⟨_, B, μ, t, ws, σ, r, rw_, q⟩ := h
    exact ⟨_, hb cdv A outer s H E hr, fn_run (Wx := Wx0) (m := ps.length) (E := fun _ _ _ => False) (fun _ _ _ _ z => z) r rw_ (noX_un (Wy := Wx0) (σ' := σ) q)⟩
/-- a def that may raise -/
theorem fn_okX {m n : Nat} (F : Fun K x qual st f fd) (S : FnScope N ps (defScope st)) (hm : ps.length = m) (hn : N.length = n)
    (hb : ∀ (cdv : Value) (A : Around) (outer : List Env) (s : Shared) (H : Hp) (E : XK), Room k (A.deeper (envOfC qual (defScope st) s.heap.objs.size f cdv)) → DSs (cxOf (L2.CX P w) P w K mg base N qual (defScope st) f cdv A outer s H E) T (fun c d _ H' => E c d H') (defBody st) g) :
    FnOk P w K mg base (L2.CX P w) (k + 1) f fd ps (spD T m (fnR m n g)) := by
  subst hm
  subst hn
  exact F.okX S spD_len fun cdv A outer s H vs Q E hr h => by
    obtain ⟨_, B, μ, t, ws, σ, r, rw_, q⟩ := h
    exact ⟨_, hb cdv A outer s H E hr, fn_run (Wx := fun c d _ H' => E c d H') (E := E) (fun _ _ _ _ z => z) r rw_ q⟩
end

/-! ### calls of defs -/
def fCall (m : Nat) (h : List W → CS → R W) (fs : En → CS → R (List W)) (ρ : En) (s : CS) : R W := (fs ρ s).bind fun ws s => if ws.length = m then noX h ws s else .bad
/-- a call with data alone: the callee's cells are its own -/
def pureR (h : List W → CS → R W) (ws : List W) (s : CS) : R W := match h ws [] with
  | .ok (.d x) _ => .ok (.d x) s
  | _ => .bad
def fCallP (m : Nat) (h : List W → CS → R W) (fs : En → CS → R (List W)) (ρ : En) (s : CS) : R W := (fs ρ s).bind fun ws s => if ws.length = m then (match allD ws with
  | some _ => pureR h ws s
  | none => .bad) else .bad
section
variable {X : Cx} {T : TX} {Wx : WXc} {f : Addr} {fd : FuncData} {ps : List Str} {k m : Nat} {h : List W → CS → R W} {x : Str} {p pos : Pos} {e : Expr} {es : List Expr} {fs : En → CS → R (List W)}
theorem de_call (F : FnOk X.prog X.w X.K X.mg X.base CX0 k f fd ps (spD T m (noX h))) (hr : Room k X.A) (hg : Gl X x) (hm : X.mg x = some (.ref f)) (hk : PySem.W.keepIn X.K (.ref f) = true) (hb : Binds X.K fd ps [])
    (ha : DA X T Wx (e :: es) fs) (hdb : (x == ("__debug__" : Str)) = false := by decide) (he : starEach (e :: es) X.env = (false, eval e X.env) :: starEach es X.env := by rfl) (hpl : (backTo pos (starEach es X.env)).any (·.1) = false := by rfl) :
    DE X T Wx (.Call (.Name x p) (e :: es) [] pos) (fCall m h fs) := PE_imp (pe_call F hr hg hm hk hb .nil pass0 ha hdb he hpl) fun σ H Q ⟨B, μ, s, ρ, r, e, q⟩ =>
  tD_bind r e q fun w s1 v μ1 H1 st1 r1 e1 rel1 q1 => by
    split at q1
    · rename_i hl
      have rel1 : RWs B μ1 s1 H1 v w := rel1
      exact ⟨by rw [List.append_nil, rel1.len]; exact hl, B, μ1, s1, w, σ, r1, by rw [List.append_nil]; exact rel1, noX_fin q1⟩
    · exact q1.elim
theorem allD_rws {B B' : Addr → Prop} {μ μ' : List Addr} {s s' : CS} {H : Hp} (hA : ∀ a, Av B' μ' s' a → Av B μ s a) : ∀ {ws : List W} {vs : List V} {ds : List D}, allD ws = some ds → RWs B μ s H vs ws → RWs B' μ' s' H vs ws
  | _, _, _, e, .nil => .nil
  | w :: ws, _, ds, e, .cons h t => by
    cases w with
    | c n => cases e
    | sc n => cases e
    | d x =>
      unfold allD at e
      cases z : allD ws with
      | none => rw [z] at e; cases e
      | some l => exact .cons (show RW _ _ _ _ _ (.d x) from Fz.mono hA h) (allD_rws hA z t)
theorem lv_nil {a : Addr} : ¬ lv [] [] a := fun ⟨n, _, z, _⟩ => by simp at z
theorem SR.pure {B : Addr → Prop} {μ : List Addr} {s : CS} {H : Hp} (r : SR B μ s H) : SR (Av B μ s) [] [] H :=
  ⟨rfl, fun n m a z => by simp at z, fun n a z => by simp at z, fun n a z => by simp at z, r.bt', fun n a c z => by simp at z⟩
theorem pure_fin {T : TX} {Wx Wy : WXc} {B : Addr → Prop} {μ : List Addr} {s : CS} {H : Hp} {σ σ' : L2.St} {Q : VK} {ws : List W} (r : SR B μ s H) (q : Fin T Wx B μ s H σ Q (pureR h ws s)) : Fin T Wy (Av B μ s) [] [] H σ' Q (h ws []) := by
  unfold pureR at q
  cases z : h ws [] with
  | bad => simp only [z] at q; exact q.elim
  | exc e s1 => simp only [z] at q; exact q.elim
  | ok w s1 =>
    cases w with
    | c n => simp only [z] at q; exact q.elim
    | sc n => simp only [z] at q; exact q.elim
    | d y =>
      simp only [z] at q
      intro v μ' H' st sr rel
      have rel : Fz H' (Av (Av B μ s) μ' s1) v y := rel
      exact Fin.use (a := W) (w := .d y) q (fun a o e => st.keep a o e lv_nil) r (Fz.mono (fun a z => .inl z) rel)
theorem de_callP (F : FnOk X.prog X.w X.K X.mg X.base CX0 k f fd ps (spD T m (noX h))) (hr : Room k X.A) (hg : Gl X x) (hm : X.mg x = some (.ref f)) (hk : PySem.W.keepIn X.K (.ref f) = true) (hb : Binds X.K fd ps [])
    (ha : DA X T Wx (e :: es) fs) (hdb : (x == ("__debug__" : Str)) = false := by decide) (he : starEach (e :: es) X.env = (false, eval e X.env) :: starEach es X.env := by rfl) (hpl : (backTo pos (starEach es X.env)).any (·.1) = false := by rfl) :
    DE X T Wx (.Call (.Name x p) (e :: es) [] pos) (fCallP m (noX h) fs) := PE_imp (pe_call F hr hg hm hk hb .nil pass0 ha hdb he hpl) fun σ H Q ⟨B, μ, s, ρ, r, e, q⟩ =>
  tD_bind r e q fun w s1 v μ1 H1 st1 r1 e1 rel1 q1 => by
    split at q1
    · rename_i hl
      have rel1 : RWs B μ1 s1 H1 v w := rel1
      split at q1
      · rename_i ds hd
        refine ⟨by rw [List.append_nil, rel1.len]; exact hl, Av B μ1 s1, [], [], w, σ, r1.pure, ?_, pure_fin r1 q1⟩
        rw [List.append_nil]
        exact allD_rws (fun a z => z.elim id fun z => absurd z lv_nil) hd rel1
      · exact q1.elim
    · exact q1.elim
end
end
end DL
namespace DL
open PySem PySem.Spec PyProof.Rows L2
section
variable [KFrag]

/-! ### comprehensions with two clauses -/
def consA (k : CS → R (List D)) : List D → CS → R (List D)
  | [], s => k s
  | x :: r, s => consR (.d x) (consA k r) s
def appR (a : R (List D)) (k : CS → R (List D)) : R (List D) := a.bind0 (consA k)
def comp2 (vs1 : List Nat) (h : W → En → Option En) (tt : En → CS → R Bool) (fi1 : En → CS → R (List D)) (h1 : W → En → Option En) (tt1 : En → CS → R Bool) (f : En → CS → R W) (ρ : En) : List D → CS → R (List D)
  | [], s => .ok [] s
  | x :: r, s => match h (.d x) ρ with
    | none => .bad
    | some ρ1 => (tt ρ1 s).bind0 fun b s => if b = true then (fi1 ρ1 s).bind0 fun ys s =>
        if ys.length ≤ 4096 then appR (compL h1 tt1 f (wipeE ρ1 vs1) ys s) (fun s => comp2 vs1 h tt fi1 h1 tt1 f ρ r s) else .bad
      else comp2 vs1 h tt fi1 h1 tt1 f ρ r s
def fLc2 (vs vs1 : List Nat) (fi : En → CS → R (List D)) (h : W → En → Option En) (tt : En → CS → R Bool) (fi1 : En → CS → R (List D)) (h1 : W → En → Option En) (tt1 : En → CS → R Bool) (f : En → CS → R W) (ρ : En) (s : CS) : R W :=
  (fi ρ s).bind fun items s => if items.length ≤ 4096 then endL [] (comp2 vs1 h tt fi1 h1 tt1 f (wipeE ρ vs) items s) else .bad
section
variable {T : TX} {Wx : WXc} {B : Addr → Prop} {μ μ' : List Addr} {s s' : CS} {H H' : Hp} {σ : L2.St} {ρ : En}
theorem RW.updB {D : Addr} {o : HO} {acc : List V} (h : B D) (e : H D = some (.lst acc)) {v : V} {w : W} (r : RW B μ s H v w) : RW B μ s (upd H D o) v w := by
  cases w with
  | d x => exact Fz.kp (kp_upd (.inl h)) r
  | c n => exact r
  | sc ns =>
    obtain ⟨b, eb, r⟩ := r
    rcases r with ⟨u, q, n⟩ | r
    · exact ⟨b, eb, .inl ⟨u, by rw [upd_ne (fun z => by rw [z, e] at q; cases q)]; exact q, n⟩⟩
    · exact ⟨b, eb, .inr r⟩
theorem ER.updB {D : Addr} {o : HO} {acc : List V} (h : B D) (e : H D = some (.lst acc)) (r : ER B μ s H σ ρ) : ER B μ s (upd H D o) σ ρ :=
  ⟨r.len, fun i w z => let ⟨v, e1, e2⟩ := r.at_ i w z; ⟨v, e1, e2.updB h e⟩⟩
theorem appR_bind {a : Type} {r : R a} {k : a → CS → R (List D)} {j : CS → R (List D)} : appR (r.bind0 k) j = r.bind0 fun x s => appR (k x s) j := by
  cases r <;> rfl
theorem appR_ite {b : Bool} {x y : R (List D)} {j : CS → R (List D)} : appR (if b = true then x else y) j = if b = true then appR x j else appR y j := by
  cases b <;> rfl
theorem appR_cons {y : D} {r : CS → R (List D)} {s : CS} {j : CS → R (List D)} : appR (consR (.d y) r s) j = consR (.d y) (fun s => appR (r s) j) s := by
  show ((r s).bind0 fun ys s => R.ok (y :: ys) s).bind0 (consA j) = ((r s).bind0 (consA j)).bind0 fun ys s => R.ok (y :: ys) s
  cases r s <;> rfl
theorem appR_nil {s : CS} {j : CS → R (List D)} : appR (.ok [] s) j = j s := rfl
end
section
variable {X : Cx} {T : TX} {Wx : WXc} {elt tg iter tg1 iter1 : Expr} {ifs ifs1 : List Expr} {scope : Scope} {own : List (Str × Nat)} {vs1 : List Nat} {pos : Pos} {fi fi1 : En → CS → R (List D)} {is is1 : List Nat} {h h1 : W → En → Option En} {tt tt1 : En → CS → R Bool} {f : En → CS → R W}
theorem sq4096 {i j n : Nat} (h1 : i < 4096) (h2 : j < 4096) (h3 : n ≤ 4096 * i + j) : n < line := by
  unfold line
  omega
theorem tLc2_use {σ : L2.St} {H : Hp} {Q : VK} (hsub : ∀ i ∈ is, i ∈ own.map (·.2)) (hsub1 : ∀ i ∈ is1, i ∈ vs1) (q : tD T Wx (fLc2 (own.map (·.2)) vs1 fi h tt fi1 h1 tt1 f) σ H Q) :
    tLc2 (tD T Wx fi) (tG is h) (tD T Wx0 tt) (tD T Wx0 fi1) (tG is1 h1) (tD T Wx0 tt1) (tD T Wx0 f) (own.map (·.2)) vs1 σ H Q := by
  obtain ⟨B, μ, s, ρ, r, e, q⟩ := q
  refine tD_bind r e q fun ds s1 J μ1 H1 st1 r1 e1 rel1 q1 D hD => ?_
  split at q1
  · rename_i hlen
    obtain ⟨G, Y, w, gg, yy⟩ := rel1.ex
    refine ⟨fun i m H' => m = ds.length - i ∧ i ≤ ds.length ∧ ∃ μ' s' ys, Mk1 B μ1 s1 H1 D μ' s' H' ys ∧ ys.length ≤ 4096 * i ∧ Fin T Wx B μ1 s1 H1 σ Q (endL ys (comp2 vs1 h tt fi1 h1 tt1 f (wipeE ρ (own.map (·.2))) (ds.drop i) s')),
      ⟨ds.length, by simp, Nat.zero_le _, μ1, s1, [], Mk1.start r1 hD, Nat.zero_le _, q1⟩, ?_⟩
    rintro i m H' ⟨rfl, hi, μ', s', ys, m, hys, fq⟩
    have hG := gg H' _ (m.kp hD) m.sr.bt'
    by_cases hlt : i < ds.length
    · refine .inr ⟨w.goes i H' hlt hG, fun H' => ∃ μ' s' ys, Mk1 B μ1 s1 H1 D μ' s' H' ys ∧ ys.length ≤ 4096 * (i + 1) ∧ Fin T Wx B μ1 s1 H1 σ Q (endL ys (comp2 vs1 h tt fi1 h1 tt1 f (wipeE ρ (own.map (·.2))) (ds.drop (i + 1)) s')),
        fun H' p' => ⟨ds.length - (i + 1), by omega, rfl, hlt, p'⟩, fun x H'' y => ?_⟩
      obtain ⟨sm, d, ed, fd⟩ := yy i H' _ x H'' (m.kp hD) m.sr.bt' hlt (w.yields i H' x H'' hlt hG y)
      have ec : ds.drop i = d :: ds.drop (i + 1) := by
        obtain ⟨hl, rfl⟩ := List.getElem?_eq_some_iff.mp ed
        exact List.drop_eq_getElem_cons hl
      rw [ec] at fq
      unfold comp2 at fq
      have m2 : Mk1 B μ1 s1 H1 D μ' s' H'' ys := m.step (Stp.same sm) (m.sr.same sm)
      have er : ER (And1 B D) μ' s' H'' (wipe σ (own.map (·.2))) (wipeE ρ (own.map (·.2))) := (e1.kpB m2.st (m2.kp hD)).wipe _
      cases z1 : h (.d d) (wipeE ρ (own.map (·.2))) with
      | none => simp only [z1] at fq; exact fq.elim
      | some ρ1 =>
        simp only [z1] at fq
        refine ⟨_, μ', s', _, .d d, ρ1, m2.sr, er, fd, z1, fun σ2 e2 l2 a2 => ⟨?_, ?_⟩⟩
        · rw [wipe_eq l2 a2 hsub, wipe_wipe]
        · rw [endL_bind] at fq
          refine tD_bind0 m2.sr e2 fq fun b s3 v3 μ3 H3 st3 r3 e3 rel3 q3 => ?_
          cases rel3
          have m3 := m2.step st3 r3
          rw [endL_ite] at q3
          cases b with
          | false =>
            rw [if_neg Bool.false_ne_true] at q3 ⊢
            exact ⟨μ3, s3, ys, m3, by omega, q3⟩
          | true =>
            rw [if_pos rfl] at q3 ⊢
            rw [endL_bind] at q3
            refine tD_bind0 r3 e3 q3 fun ds1 s4 J1 μ4 H4 st4 r4 e4 rel4 q4 => ?_
            have m4 := m3.step st4 r4
            split at q4
            · rename_i hlen1
              obtain ⟨G1, Y1, w1, gg1, yy1⟩ := rel4.ex
              refine ⟨fun j k H' => k = ds1.length - j ∧ j ≤ ds1.length ∧ ∃ μ' s' ys, Mk1 B μ1 s1 H1 D μ' s' H' ys ∧ ys.length ≤ 4096 * i + j ∧ ER (And1 B D) μ' s' H' σ2 ρ1 ∧ Kp H4 H' (Av (And1 B D) μ4 s4) (Av (And1 B D) μ' s') ∧
                  Fin T Wx B μ1 s1 H1 σ Q (endL ys (appR (compL h1 tt1 f (wipeE ρ1 vs1) (ds1.drop j) s') fun s => comp2 vs1 h tt fi1 h1 tt1 f (wipeE ρ (own.map (·.2))) (ds.drop (i + 1)) s)),
                ⟨ds1.length, by simp, Nat.zero_le _, μ4, s4, ys, m4, by omega, e4, ⟨fun _ _ z _ => z, fun _ _ _ n => n⟩, q4⟩, ?_⟩
              rintro j k H5 ⟨rfl, hj, μ5, s5, zs, m5, hzs, e5, k5, f5⟩
              have hG1 := gg1 H5 _ k5 m5.sr.bt'
              by_cases hlt1 : j < ds1.length
              · refine .inr ⟨w1.goes j H5 hlt1 hG1, fun H' => ∃ μ' s' ys, Mk1 B μ1 s1 H1 D μ' s' H' ys ∧ ys.length ≤ 4096 * i + (j + 1) ∧ ER (And1 B D) μ' s' H' σ2 ρ1 ∧ Kp H4 H' (Av (And1 B D) μ4 s4) (Av (And1 B D) μ' s') ∧
                    Fin T Wx B μ1 s1 H1 σ Q (endL ys (appR (compL h1 tt1 f (wipeE ρ1 vs1) (ds1.drop (j + 1)) s') fun s => comp2 vs1 h tt fi1 h1 tt1 f (wipeE ρ (own.map (·.2))) (ds.drop (i + 1)) s)),
                  fun H' p' => ⟨ds1.length - (j + 1), by omega, rfl, hlt1, p'⟩, fun x1 H6 y1 => ?_⟩
                obtain ⟨sm1, d1, ed1, fd1⟩ := yy1 j H5 _ x1 H6 k5 m5.sr.bt' hlt1 (w1.yields j H5 x1 H6 hlt1 hG1 y1)
                have ec1 : ds1.drop j = d1 :: ds1.drop (j + 1) := by
                  obtain ⟨hl, rfl⟩ := List.getElem?_eq_some_iff.mp ed1
                  exact List.drop_eq_getElem_cons hl
                rw [ec1] at f5
                unfold compL at f5
                have st6 : Stp μ5 s5 H5 μ5 s5 H6 := Stp.same sm1
                have m6 : Mk1 B μ1 s1 H1 D μ5 s5 H6 zs := m5.step st6 (m5.sr.same sm1)
                have e6 := e5.stp st6
                have k6 := k5.trans st6.kp
                cases z2 : h1 (.d d1) (wipeE ρ1 vs1) with
                | none => simp only [z2] at f5; exact f5.elim
                | some ρ2 =>
                  simp only [z2] at f5
                  refine ⟨_, μ5, s5, _, .d d1, ρ2, m6.sr, e6.wipe _, fd1, z2, fun σ3 e7 l3 a3 => ⟨?_, ?_⟩⟩
                  · rw [wipe_eq l3 a3 hsub1, wipe_wipe]
                  · rw [appR_bind, endL_bind] at f5
                    refine tD_bind0 m6.sr e7 f5 fun b s7 v7 μ7 H7 st7 r7 e8 rel7 q7 => ?_
                    cases rel7
                    have m7 := m6.step st7 r7
                    rw [appR_ite, endL_ite] at q7
                    cases b with
                    | false =>
                      rw [if_neg Bool.false_ne_true] at q7 ⊢
                      exact ⟨μ7, s7, zs, m7, by omega, e6.stp st7, k6.trans st7.kp, q7⟩
                    | true =>
                      rw [if_pos rfl] at q7 ⊢
                      rw [appR_bind, endL_bind] at q7
                      refine tD_bind0 r7 e8 q7 fun w8 s8 v8 μ8 H8 st8 r8 e9 rel8 q8 => ?_
                      have m8 := m7.step st8 r8
                      cases w8 with
                      | c n => exact q8.elim
                      | sc n => exact q8.elim
                      | d y8 =>
                        rw [appR_cons, endL_cons] at q8
                        obtain ⟨acc, ea, hacc, m9⟩ := m8.push hD rel8 (sq4096 (by omega) (by omega) hzs)
                        exact ⟨acc, ea, hacc, μ8, s8, zs ++ [y8], m9, by simp; omega, ((e6.stp st7).stp st8).updB (.inr rfl) ea, ((k6.trans st7.kp).trans st8.kp).trans (kp_upd (.inl (.inr rfl))), q8⟩
              · have ej : j = ds1.length := by omega
                subst ej
                rw [List.drop_length] at f5
                exact .inl ⟨w1.stops H5 hG1, μ5, s5, zs, m5, by omega, f5⟩
            · exact q4.elim
    · have ei : i = ds.length := by omega
      subst ei
      rw [List.drop_length] at fq
      have fq : Fin (a := W) T Wx B μ1 s1 H1 σ Q (.ok (.d (.list (ys ++ []))) s') := fq
      rw [List.append_nil] at fq
      exact .inl ⟨w.stops H' hG, m.done r1 hD fq⟩
  · exact q1.elim
theorem de_lc2 (hc : X.calm = true) (hN : X.N.Nodup) (hi : DI X T Wx tg iter fi) (ok : BlkOk X.N X.env.scope scope own) (hv : ∀ i ∈ vs1, i ∈ own.map (·.2)) (hsub : ∀ i ∈ is, i ∈ own.map (·.2)) (hsub1 : ∀ i ∈ is1, i ∈ vs1)
    (hg : ∀ (s : Shared) (H : Hp) (C : Addr) (cl : List (Str × Addr)) (fp : List Addr), DG (X.blk s H scope (compEnvC scope cl C X.env) fp) tg is h) (ht : ∀ (s : Shared) (H : Hp) (C : Addr) (cl : List (Str × Addr)) (fp : List Addr), PTs (X.blk s H scope (compEnvC scope cl C X.env) fp) ifs (tD T Wx0 tt))
    (hi1 : ∀ (s : Shared) (H : Hp) (C : Addr) (cl : List (Str × Addr)) (fp : List Addr), DI (X.blk s H scope (compEnvC scope cl C X.env) fp) T Wx0 tg1 iter1 fi1)
    (hg1 : ∀ (s : Shared) (H : Hp) (C : Addr) (cl : List (Str × Addr)) (fp : List Addr), DG (X.blk s H scope (compEnvC scope cl C X.env) fp) tg1 is1 h1) (ht1 : ∀ (s : Shared) (H : Hp) (C : Addr) (cl : List (Str × Addr)) (fp : List Addr), PTs (X.blk s H scope (compEnvC scope cl C X.env) fp) ifs1 (tD T Wx0 tt1))
    (he : ∀ (s : Shared) (H : Hp) (C : Addr) (cl : List (Str × Addr)) (fp : List Addr), DE (X.blk s H scope (compEnvC scope cl C X.env) fp) T Wx0 elt f) (hs : ∀ x, foldedSetIterable iter X.env x = pure x := by intro _; rfl) (hs1 : ∀ env x, foldedSetIterable iter1 env x = pure x := by intro _ _; rfl) :
    DE X T Wx (.ListComp elt [⟨tg, iter, ifs, 0⟩, ⟨tg1, iter1, ifs1, 0⟩] scope pos) (fLc2 (own.map (·.2)) vs1 fi h tt fi1 h1 tt1 f) :=
  PE_imp (pe_lc2 hc hN hi ok hv hg ht hi1 hg1 ht1 he hs hs1) fun σ H Q => tLc2_use hsub hsub1
theorem ds_setLc2 {i : Nat} {y : Str} {py spos : Pos} (hc : X.calm = true) (hN' : X.N.Nodup) (hy : X.N[i]? = some y) (hyl : X.env.scope.names.lookup y = some .local)
    (hsw : swapsWith (.ListComp elt [⟨tg, iter, ifs, 0⟩, ⟨tg1, iter1, ifs1, 0⟩] scope pos) (some (.Name y py)) spos.line X.env = pure true) (hi : DI X T Wx tg iter fi) (ok : BlkOk X.N X.env.scope scope own) (hv : ∀ i ∈ vs1, i ∈ own.map (·.2)) (hsub : ∀ i ∈ is, i ∈ own.map (·.2)) (hsub1 : ∀ i ∈ is1, i ∈ vs1)
    (hg : ∀ (s : Shared) (H : Hp) (C : Addr) (cl : List (Str × Addr)) (fp : List Addr), DG (X.blk s H scope (compEnvC scope cl C X.env) fp) tg is h) (ht : ∀ (s : Shared) (H : Hp) (C : Addr) (cl : List (Str × Addr)) (fp : List Addr), PTs (X.blk s H scope (compEnvC scope cl C X.env) fp) ifs (tD T Wx0 tt))
    (hi1 : ∀ (s : Shared) (H : Hp) (C : Addr) (cl : List (Str × Addr)) (fp : List Addr), DI (X.blk s H scope (compEnvC scope cl C X.env) fp) T Wx0 tg1 iter1 fi1)
    (hg1 : ∀ (s : Shared) (H : Hp) (C : Addr) (cl : List (Str × Addr)) (fp : List Addr), DG (X.blk s H scope (compEnvC scope cl C X.env) fp) tg1 is1 h1) (ht1 : ∀ (s : Shared) (H : Hp) (C : Addr) (cl : List (Str × Addr)) (fp : List Addr), PTs (X.blk s H scope (compEnvC scope cl C X.env) fp) ifs1 (tD T Wx0 tt1))
    (he : ∀ (s : Shared) (H : Hp) (C : Addr) (cl : List (Str × Addr)) (fp : List Addr), DE (X.blk s H scope (compEnvC scope cl C X.env) fp) T Wx0 elt f) (hs : ∀ x, foldedSetIterable iter X.env x = pure x := by intro _; rfl) (hs1 : ∀ env x, foldedSetIterable iter1 env x = pure x := by intro _ _; rfl) :
    DS X T Wx (.Assign [.Name y py] (.ListComp elt [⟨tg, iter, ifs, 0⟩, ⟨tg1, iter1, ifs1, 0⟩] scope pos) spos) (gAsg (hN i) (fLc2 (own.map (·.2)) vs1 fi h tt fi1 h1 tt1 f)) := PS_imp (ps_setLc2 hc hN' hy hyl hsw hi ok hv hg ht hi1 hg1 ht1 he hs hs1) fun D σ H q => by
  have hx : ∀ (t : TE), (∀ σ H Q, tD T Wx (fLc2 (own.map (·.2)) vs1 fi h tt fi1 h1 tt1 f) σ H Q → t σ H Q) → tAsg t (gName i) D σ H := fun t k => by
    obtain ⟨B, μ, s, ρ, r, e, q⟩ := q
    exact k σ H _ (tD_bindT r e q fun w s1 v μ1 H1 st1 r1 e1 rel1 q1 => q1 _ μ1 H1 Stp.refl r1 (e1.set rel1 i))
  exact hx _ fun σ H Q z => tLc2_use hsub hsub1 z
end
end
end DL
namespace DL
open PySem PySem.Spec PyProof.Rows L2
section
variable [KFrag]

/-! ### cells: lists that are changed -/
section
variable {B : Addr → Prop} {μ : List Addr} {s : CS} {H : Hp} {σ : L2.St} {ρ : En}
theorem get_last {α : Type} {l : List α} {a b : α} {n : Nat} (h : (l ++ [a])[n]? = some b) : l[n]? = some b ∨ (n = l.length ∧ b = a) := by
  by_cases hn : n < l.length
  · rw [List.getElem?_append_left hn] at h
    exact .inl h
  · rw [List.getElem?_append_right (by omega)] at h
    have e : n = l.length := by
      have := (List.getElem?_eq_some_iff.mp h).1
      simp at this
      omega
    subst e
    simp at h
    exact .inr ⟨rfl, h.symm⟩
theorem lv_last {p a : Addr} {c : Cell} (hl : μ.length = s.length) (h : lv (μ ++ [p]) (s ++ [c]) a) : lv μ s a ∨ a = p := by
  obtain ⟨n, d, e1, e2, e3⟩ := h
  rcases get_last e1 with z | ⟨_, z⟩
  · refine .inl ⟨n, d, z, ?_, e3⟩
    rcases get_last e2 with y | ⟨y, _⟩
    · exact y
    · have := (List.getElem?_eq_some_iff.mp z).1
      omega
  · exact .inr z
/-- a new cell at p -/
theorem kp_newC {p : Addr} {o : HO} {c : Cell} (hl : μ.length = s.length) (hp : H p = none) : Kp H (upd H p o) (Av B μ s) (Av B (μ ++ [p]) (s ++ [c])) :=
  ⟨fun a x e _ => same_upd hp a x e, fun a x e n z => z.elim (fun z => n (.inl z)) fun z => (lv_last hl z).elim (fun z => n (.inr z)) fun z => by rw [z, hp] at e; cases e⟩
theorem newC {p : Addr} {xs : List V} {ds : List D} (r : SR B μ s H) (hp : H p = none) (f : Fzs H (Av B μ s) xs ds) :
    SR B (μ ++ [p]) (s ++ [.lst ds]) (upd H p (.lst xs)) ∧ Stp μ s H (μ ++ [p]) (s ++ [.lst ds]) (upd H p (.lst xs)) := by
  have hpm : ∀ (n : Nat), μ[n]? ≠ some p := fun n z => r.th n p z hp
  refine ⟨⟨by simp [r.len], fun n m a e1 e2 => ?_, fun n a e => ?_, fun n a e z => ?_, fun a z => ?_, fun n a c e1 e2 => ?_⟩, ⟨⟨[p], rfl⟩, fun a o e _ => same_upd hp a o e, fun a e => ?_, fun a z => (lv_last r.len z).elim .inl fun z => .inr (by rw [z]; exact hp)⟩⟩
  · rcases get_last e1 with z1 | ⟨z1, y1⟩
    · rcases get_last e2 with z2 | ⟨z2, y2⟩
      · exact r.inj n m a z1 z2
      · exact absurd (by rw [← y2]; exact z1) (hpm n)
    · rcases get_last e2 with z2 | ⟨z2, y2⟩
      · exact absurd (by rw [← y1]; exact z2) (hpm m)
      · rw [z1, z2]
  · rcases get_last e with z | ⟨_, z⟩
    · cases y : H a with
      | none => exact absurd y (r.th n a z)
      | some o => rw [same_upd hp a o y]; simp
    · rw [z, upd_same]; simp
  · rcases get_last e with y | ⟨_, y⟩
    · exact r.nb n a y z
    · exact r.bt a z (by rw [y]; exact hp)
  · cases y : H a with
    | none => exact absurd y (r.bt a z)
    | some o => rw [same_upd hp a o y]; simp
  · rcases get_last e1 with z | ⟨zn, z⟩
    · rcases get_last e2 with y | ⟨y, _⟩
      · have q := r.cell n a c z y
        cases c with
        | dead => trivial
        | lst es =>
          obtain ⟨ys, e, g⟩ := q
          exact ⟨ys, same_upd hp _ _ e, g.kp (kp_newC r.len hp)⟩
      · have := (List.getElem?_eq_some_iff.mp z).1
        have := r.len
        omega
    · rcases get_last e2 with y | ⟨_, y⟩
      · have := (List.getElem?_eq_some_iff.mp y).1
        have := r.len
        omega
      · subst z
        subst y
        exact ⟨xs, upd_same, f.kp (kp_newC r.len hp)⟩
  · cases y : H a with
    | none => exact absurd y e
    | some o => rw [same_upd hp a o y]; simp
/-- a cell's list is changed -/
theorem lv_put {n : Nat} {c : Cell} {a : Addr} (hd : ∃ c0, s[n]? = some c0 ∧ c0 ≠ .dead) (h : lv μ (s.set n c) a) : lv μ s a := by
  obtain ⟨m, d, e1, e2, e3⟩ := h
  by_cases hm : n = m
  · subst hm
    obtain ⟨c0, z1, z2⟩ := hd
    exact ⟨n, c0, e1, z1, z2⟩
  · rw [List.getElem?_set_ne hm] at e2
    exact ⟨m, d, e1, e2, e3⟩
theorem putC {n : Nat} {a : Addr} {xs : List V} {ds es : List D} (r : SR B μ s H) (ha : μ[n]? = some a) (hs : s[n]? = some (.lst es)) (f : Fzs H (Av B μ s) xs ds) :
    SR B μ (s.set n (.lst ds)) (upd H a (.lst xs)) ∧ Stp μ s H μ (s.set n (.lst ds)) (upd H a (.lst xs)) := by
  have hlive : ∃ c0, s[n]? = some c0 ∧ c0 ≠ Cell.dead := ⟨_, hs, by simp⟩
  have la : lv μ s a := ⟨n, _, ha, hs, by simp⟩
  have hk : Kp H (upd H a (.lst xs)) (Av B μ s) (Av B μ (s.set n (.lst ds))) :=
    ⟨fun b o e nb => by rw [upd_ne (fun z => nb (.inr (by rw [z]; exact la)))]; exact e, fun b o e nb z => z.elim (fun z => nb (.inl z)) fun z => nb (.inr (lv_put hlive z))⟩
  have hth : ∀ b, H b ≠ none → upd H a (.lst xs) b ≠ none := fun b e => by
    by_cases hb : b = a
    · rw [hb, upd_same]; simp
    · rw [upd_ne hb]; exact e
  refine ⟨⟨by rw [List.length_set]; exact r.len, r.inj, fun m b e => hth b (r.th m b e), r.nb, fun b z => hth b (r.bt b z), fun m b c e1 e2 => ?_⟩, ⟨⟨[], by simp⟩, fun b o e nb => by rw [upd_ne (fun z => nb (by rw [z]; exact la))]; exact e, hth, fun b z => .inl (lv_put hlive z)⟩⟩
  by_cases hm : n = m
  · subst hm
    rw [ha] at e1
    cases e1
    rw [List.getElem?_set_self (List.getElem?_eq_some_iff.mp hs).1] at e2
    cases e2
    exact ⟨xs, upd_same, f.kp hk⟩
  · rw [List.getElem?_set_ne hm] at e2
    have q := r.cell m b c e1 e2
    cases c with
    | dead => trivial
    | lst gs =>
      obtain ⟨ys, e, g⟩ := q
      refine ⟨ys, ?_, g.kp hk⟩
      rw [upd_ne (fun z => hm (r.inj n m a ha (by rw [← z]; exact e1)))]
      exact e
/-- a cell is given up: its list is data from now on -/
theorem frzC {n : Nat} {a : Addr} {ds : List D} (r : SR B μ s H) (ha : μ[n]? = some a) (hs : s[n]? = some (.lst ds)) :
    SR B μ (s.set n .dead) H ∧ Stp μ s H μ (s.set n .dead) H ∧ Fz H (Av B μ (s.set n .dead)) (.ref a) (.list ds) := by
  have hlive : ∃ c0, s[n]? = some c0 ∧ c0 ≠ Cell.dead := ⟨_, hs, by simp⟩
  have hA : ∀ b, Av B μ (s.set n .dead) b → Av B μ s b := fun b z => z.elim .inl fun z => .inr (lv_put hlive z)
  obtain ⟨xs, e, f⟩ := r.cell n a _ ha hs
  refine ⟨⟨by rw [List.length_set]; exact r.len, r.inj, r.th, r.nb, r.bt, fun m b c e1 e2 => ?_⟩, ⟨⟨[], by simp⟩, fun b o e _ => e, fun b e => e, fun b z => .inl (lv_put hlive z)⟩, .lst ⟨e, fun z => ?_⟩ (f.mono hA)⟩
  · by_cases hm : n = m
    · subst hm
      rw [List.getElem?_set_self (List.getElem?_eq_some_iff.mp hs).1] at e2
      cases e2
      trivial
    · rw [List.getElem?_set_ne hm] at e2
      have q := r.cell m b c e1 e2
      cases c with
      | dead => trivial
      | lst gs =>
        obtain ⟨ys, e, g⟩ := q
        exact ⟨ys, e, g.mono hA⟩
  · rcases z with z | ⟨m, c, e1, e2, e3⟩
    · exact r.nb n a ha z
    · have hm : n = m := r.inj n m a ha e1
      subst hm
      rw [List.getElem?_set_self (List.getElem?_eq_some_iff.mp hs).1] at e2
      cases e2
      exact e3 rfl
end
/-- [..] that will be changed -/
def fNew (fs : En → CS → R (List W)) (ρ : En) (s : CS) : R W := (fs ρ s).bind fun ws s => match allD ws with
  | some ds => if ds.length ≤ line then .ok (.c s.length) (s ++ [.lst ds]) else .bad
  | none => .bad
/-- the name of a cell, read as data: from now on it is not changed -/
def fFrz (i : Nat) (ρ : En) (s : CS) : R W := match ρ[i]? with
  | some (some (.c n)) => match s[n]? with
    | some (.lst ds) => .ok (.d (.list ds)) (s.set n .dead)
    | _ => .bad
  | some (some w) => .ok w s
  | _ => .bad
/-- an item of a cell -/
def ixC (w u : W) (s : CS) : R W := match w, u with
  | .c n, .d (.int i) => match s[n]? with
    | some (.lst ds) => match atI ds i with
      | some z => .ok (.d z) s
      | none => .bad
    | _ => .bad
  | _, _ => .bad
def fIxC (f g : En → CS → R W) (ρ : En) (s : CS) : R W := (f ρ s).bind fun w s => (g ρ s).bind fun u s => ixC w u s
def gPutC (fv f g : En → CS → R W) (ρ : En) (s : CS) : RT := (fv ρ s).toT ρ fun v s => (f ρ s).toT ρ fun w s => (g ρ s).toT ρ fun u s => match v, w, u with
  | .d x, .c n, .d (.int i) => match s[n]? with
    | some (.lst ds) => match ixN ds.length i with
      | some j => .nx ρ (s.set n (.lst (ds.set j x)))
      | none => .bad
    | _ => .bad
  | _, _, _ => .bad
def appC (n : Nat) (u : W) (s : CS) (ρ : En) : RT := match u with
  | .d x => match s[n]? with
    | some (.lst ds) => if ds.length < line then .nx ρ (s.set n (.lst (ds ++ [x]))) else .bad
    | _ => .bad
  | _ => .bad
def extC (n : Nat) (u : W) (s : CS) (ρ : En) : RT := match u with
  | .d (.list es) => match s[n]? with
    | some (.lst ds) => if ds.length + es.length ≤ line then .nx ρ (s.set n (.lst (ds ++ es))) else .bad
    | _ => .bad
  | _ => .bad
def onC (k : Nat → CS → RT) (w : W) (s : CS) : RT := match w with
  | .c n => match s[n]? with
    | some (.lst _) => k n s
    | _ => .bad
  | _ => .bad
def gAppC (f g : En → CS → R W) (ρ : En) (s : CS) : RT := (f ρ s).toT ρ (onC fun n s => (g ρ s).toT ρ fun u s => appC n u s ρ)
def gExtC (f g : En → CS → R W) (ρ : En) (s : CS) : RT := (f ρ s).toT ρ (onC fun n s => (g ρ s).toT ρ fun u s => extC n u s ρ)
section
variable {X : Cx} {T : TX} {Wx : WXc} {es : List Expr} {fs : En → CS → R (List W)} {e e2 e3 : Expr} {f g fv : En → CS → R W} {pos p2 apos : Pos}
theorem de_new (h : DA X T Wx es fs) : DE X T Wx (.List es pos) (fNew fs) := PE_imp (pe_lst h) fun σ H Q ⟨B, μ, s, ρ, r, e, q⟩ =>
  tD_bind r e q fun w s1 v μ1 H1 st1 r1 e1 rel1 q1 => by
    cases z : allD w with
    | none => simp only [z] at q1; exact q1.elim
    | some ds =>
      simp only [z] at q1
      split at q1
      · rename_i hl
        have fz := allD_fz z rel1
        refine ⟨by rw [fz.len, line_eq]; exact hl, fun p hp => ?_⟩
        obtain ⟨a, b⟩ := newC r1 hp fz
        refine q1 _ _ _ b a ⟨p, rfl, ?_⟩
        rw [← r1.len]
        simp
      · exact q1.elim
theorem de_frz {i : Nat} (h : PE X e (tVar i)) : DE X T Wx e (fFrz i) := PE_imp h fun σ H Q ⟨B, μ, s, ρ, r, e, q⟩ => by
  unfold fFrz at q
  cases z : ρ[i]? with
  | none => simp only [z] at q; exact q.elim
  | some o =>
    cases o with
    | none => simp only [z] at q; exact q.elim
    | some w =>
      obtain ⟨v, h1, h2⟩ := e.at_ i w z
      cases w with
      | d x => simp only [z] at q; exact ⟨v, h1, Fin.here q r h2⟩
      | sc ns => simp only [z] at q; exact ⟨v, h1, Fin.here q r h2⟩
      | c n =>
        simp only [z] at q
        obtain ⟨a, ev, ha⟩ := h2
        subst ev
        split at q
        · rename_i ds hs
          obtain ⟨a1, a2, a3⟩ := frzC r ha hs
          exact ⟨_, h1, q _ _ _ a2 a1 a3⟩
        · exact q.elim
theorem ixC_use {B : Addr → Prop} {μ : List Addr} {s : CS} {H : Hp} {σ : L2.St} {Q : VK} {w u : W} {x y : V} (r : SR B μ s H) (hw : RW B μ s H x w) (hu : RW B μ s H y u) (q : Fin T Wx B μ s H σ Q (ixC w u s)) : rIxL X.K x y H Q := by
  unfold ixC at q
  split at q
  · rename_i n i
    split at q
    · rename_i ds hs
      split at q
      · rename_i z hz
        obtain ⟨a, ev, ha⟩ := hw
        subst ev
        have hu : Fz H (Av B μ s) y (.int i) := hu
        cases hu
        obtain ⟨xs, ea, f⟩ := r.cell n a _ ha hs
        obtain ⟨v, h1, h2⟩ := Fzs_atI f hz
        exact ⟨a, xs, i, v, rfl, rfl, .of ea, h1, Fin.here q r h2⟩
      · exact q.elim
    · exact q.elim
  · exact q.elim
theorem de_ixC (ha : DE X T Wx e f) (hb : DE X T Wx e2 g) (hs : PlainIx e2 := by exact fun _ _ => rfl) : DE X T Wx (.Subscript e e2 pos) (fIxC f g) := PE_imp (pe_ix ix_list ha hb hs) fun σ H Q ⟨B, μ, s, ρ, r, e, q⟩ =>
  tD_bind r e q fun w s1 v μ1 H1 st1 r1 e1 rel1 q1 => tD_bind r1 e1 q1 fun u s2 x μ2 H2 st2 r2 e2 rel2 q2 => ixC_use r2 (Rp.stp (a := W) (b := V) st2 rel1) rel2 q2
theorem Fzs.set {H : Hp} {A : Addr → Prop} {v : V} {x : D} (h : Fz H A v x) : ∀ {vs : List V} {ds : List D} (j : Nat), Fzs H A vs ds → Fzs H A (vs.set j v) (ds.set j x)
  | _, _, _, .nil => .nil
  | _, _, 0, .cons _ t => .cons h t
  | _, _, j + 1, .cons a t => .cons a (Fzs.set h j t)
theorem ds_put (hv : DE X T Wx e3 fv) (ha : DE X T Wx e f) (hb : DE X T Wx e2 g) (hs : swapsWithSole [.Subscript e e2 p2] e3 pos.line X.env = pure false := by rfl) (hw : swappedStores [.Subscript e e2 p2] e3 X.env = pure none := by rfl)
    (h1 : (assignEach [.Subscript e e2 p2] X.env).map (·.2) = [assign (.Subscript e e2 p2) X.env] := by rfl)
    (hx : ∀ v, assign (.Subscript e e2 p2) X.env v = (do
      let ov ← holding [v] (eval e X.env)
      let iv ← holding [v, ov] (eval e2 X.env)
      standAt p2
      holding [v, ov, iv] (setItem ov iv v)
      release [v, ov, iv] []) := by intro _; rfl) : DS X T Wx (.Assign [.Subscript e e2 p2] e3 pos) (gPutC fv f g) :=
  PS_imp (ps_asg hv (pg_sub ha hb set_list hx) hs hw h1) fun D σ H ⟨B, μ, s, ρ, r, e, q⟩ =>
  tD_bindT r e q fun v s1 x μ1 H1 st1 r1 e1 rel1 q1 => tD_bindT r1 e1 q1 fun w s2 y μ2 H2 st2 r2 e2 rel2 q2 => tD_bindT r2 e2 q2 fun u s3 z μ3 H3 st3 r3 e3 rel3 q3 => by
    split at q3
    · rename_i x0 n i
      split at q3
      · rename_i ds hs
        split at q3
        · rename_i j hj
          obtain ⟨a, ev, ha⟩ := RW.stp st3 rel2
          subst ev
          have rel3 : Fz H3 (Av B μ3 s3) z (.int i) := rel3
          cases rel3
          obtain ⟨xs, ea, f⟩ := r3.cell n a _ ha hs
          have fx : Fz H3 (Av B μ3 s3) x x0 := RW.stp (st2.trans st3) rel1
          obtain ⟨a1, a2⟩ := putC r3 ha hs (Fzs.set fx j f)
          exact ⟨a, xs, i, j, rfl, rfl, ea, by rw [f.len]; exact hj, q3 σ _ _ a2 a1 (e3.stp a2)⟩
        · exact q3.elim
      · exact q3.elim
    · exact q3.elim
theorem onC_use {B : Addr → Prop} {μ : List Addr} {s : CS} {H : Hp} {D : Ends} {k : Nat → CS → RT} {w : W} {x : V} (r : SR B μ s H) (h : RW B μ s H x w) (q : FinT T Wx B μ s H D (onC k w s)) :
    ∃ n a xs, x = .ref a ∧ μ[n]? = some a ∧ H a = some (.lst xs) ∧ FinT T Wx B μ s H D (k n s) := by
  unfold onC at q
  split at q
  · rename_i n
    split at q
    · rename_i ds hs
      obtain ⟨a, ev, ha⟩ := h
      obtain ⟨xs, ea, f⟩ := r.cell n a _ ha hs
      exact ⟨n, a, xs, ev, ha, ea, q⟩
    · exact q.elim
  · exact q.elim
theorem ds_meth {name : Str} {id : String} {rr : V → List V → Hp → VK → Prop} {kk : Nat → W → CS → En → RT} (slot : Slot "list" name id) (hty : typeOf (.builtin id) = pure (.type "method_descriptor")) (hm : MtR X id rr)
    (hk : ∀ (B : Addr → Prop) (μ : List Addr) (s : CS) (H : Hp) (σ : L2.St) (ρ : En) (D : Ends) (n : Nat) (a : Addr) (w : W) (v : V), SR B μ s H → ER B μ s H σ ρ → μ[n]? = some a → RW B μ s H v w → FinT T Wx B μ s H D (kk n w s ρ) → rr (.ref a) [v] H fun _ H' => D.nx σ H')
    (ha : DE X T Wx e f) (hb : DE X T Wx e2 g) (hbase : attributeBase e name X.env (eval e X.env) = eval e X.env)
    (hfew : ((backTo p2 (starEach [e2] X.env)).all (fun x => !x.1) && (backToKw p2 (keywordEach [] X.env)).all (fun x => x.1.isSome)
      && decide ([e2].length + ([] : List Keyword).length + (if ([] : List Keyword).isEmpty then 0 else 1) < 30)) = true)
    (hline : (apos.endLine == p2.line) = true) (hs : starEach [e2] X.env = (false, eval e2 X.env) :: starEach [] X.env) (hplain : (backTo p2 (starEach [] X.env)).any (·.1) = false)
    (hsw : swapsWith (.Call (.Attribute e name apos) [e2] [] p2) none pos.line X.env = pure false) :
    DS X T Wx (.Expr (.Call (.Attribute e name apos) [e2] [] p2) pos) (fun ρ s => (f ρ s).toT ρ (onC fun n s => (g ρ s).toT ρ fun u s => kk n u s ρ)) :=
  PS_imp (ps_expr (pe_bm PySem.F.plainAttrs_list slot hty hm ha (pa_cons hb pa_nil hs) hbase hfew hline hs hplain) hsw) fun D σ H ⟨B, μ, s, ρ, r, e, q⟩ =>
  tD_bindT r e q fun w s1 x μ1 H1 st1 r1 e1 rel1 q1 => by
    obtain ⟨n, a, xs, ev, ha, ea, q1⟩ := onC_use r1 rel1 q1
    subst ev
    refine ⟨.inl ⟨rfl, xs, .of ea⟩, ?_⟩
    exact tD_bindT r1 e1 q1 fun u s2 y μ2 H2 st2 r2 e2 rel2 q2 => by
      have ha2 : μ2[n]? = some a := by
        obtain ⟨t, rfl⟩ := st2.pre
        rw [List.getElem?_append_left (List.getElem?_eq_some_iff.mp ha).1]
        exact ha
      exact hk B μ2 s2 H2 σ ρ D n a u y r2 e2 ha2 rel2 q2
theorem ds_app (ha : DE X T Wx e f) (hb : DE X T Wx e2 g) (hbase : attributeBase e "append" X.env (eval e X.env) = eval e X.env := by rfl)
    (hfew : ((backTo p2 (starEach [e2] X.env)).all (fun x => !x.1) && (backToKw p2 (keywordEach [] X.env)).all (fun x => x.1.isSome)
      && decide ([e2].length + ([] : List Keyword).length + (if ([] : List Keyword).isEmpty then 0 else 1) < 30)) = true := by rfl)
    (hline : (apos.endLine == p2.line) = true := by rfl) (hs : starEach [e2] X.env = (false, eval e2 X.env) :: starEach [] X.env := by rfl) (hplain : (backTo p2 (starEach [] X.env)).any (·.1) = false := by rfl)
    (hsw : swapsWith (.Call (.Attribute e "append" apos) [e2] [] p2) none pos.line X.env = pure false := by rfl) :
    DS X T Wx (.Expr (.Call (.Attribute e "append" apos) [e2] [] p2) pos) (gAppC f g) :=
  ds_meth (kk := appC) PySem.F.slot_list_append PySem.F.type_list_append mt_append (fun B μ s H σ ρ D n a w v r er ha rel q => by
    unfold appC at q
    split at q
    · rename_i x0
      split at q
      · rename_i ds hs
        split at q
        · rename_i hl
          obtain ⟨xs, ea, f⟩ := r.cell n a _ ha hs
          obtain ⟨a1, a2⟩ := putC r ha hs (f.app (.cons rel .nil))
          exact ⟨a, xs, v, rfl, rfl, ea, by rw [f.len, line_eq]; exact hl, q σ _ _ a2 a1 (er.stp a2)⟩
        · exact q.elim
      · exact q.elim
    · exact q.elim) ha hb hbase hfew hline hs hplain hsw
theorem ds_ext (ha : DE X T Wx e f) (hb : DE X T Wx e2 g) (hbase : attributeBase e "extend" X.env (eval e X.env) = eval e X.env := by rfl)
    (hfew : ((backTo p2 (starEach [e2] X.env)).all (fun x => !x.1) && (backToKw p2 (keywordEach [] X.env)).all (fun x => x.1.isSome)
      && decide ([e2].length + ([] : List Keyword).length + (if ([] : List Keyword).isEmpty then 0 else 1) < 30)) = true := by rfl)
    (hline : (apos.endLine == p2.line) = true := by rfl) (hs : starEach [e2] X.env = (false, eval e2 X.env) :: starEach [] X.env := by rfl) (hplain : (backTo p2 (starEach [] X.env)).any (·.1) = false := by rfl)
    (hsw : swapsWith (.Call (.Attribute e "extend" apos) [e2] [] p2) none pos.line X.env = pure false := by rfl) :
    DS X T Wx (.Expr (.Call (.Attribute e "extend" apos) [e2] [] p2) pos) (gExtC f g) :=
  ds_meth (kk := extC) PySem.F.slot_list_extend PySem.F.type_list_extend mt_extend (fun B μ s H σ ρ D n a w v r er ha rel q => by
    unfold extC at q
    split at q
    · rename_i es
      split at q
      · rename_i ds hs
        split at q
        · rename_i hl
          obtain ⟨xs, ea, f⟩ := r.cell n a _ ha hs
          have rel : Fz H (Av B μ s) v (.list es) := rel
          cases rel with
          | @lst b zs _ h1 f1 =>
            obtain ⟨a1, a2⟩ := putC r ha hs (f.app f1)
            exact ⟨a, b, xs, zs, rfl, rfl, ea, h1.1, by rw [f.len, f1.len, line_eq]; exact hl, q σ _ _ a2 a1 (er.stp a2)⟩
        · exact q.elim
      · exact q.elim
    · exact q.elim) ha hb hbase hfew hline hs hplain hsw
end
end
end DL
namespace DL
open PySem PySem.Spec PyProof.Rows L2
/-! ### tuple * k, k ≤ 1 -/
theorem tuple_mul1 (l : Addr) (items : Array Value) (n : Nat) (dd : Option Addr) (sl : Array (Option Value)) (x : Int) (u : Tok) (c0 : (decide (x < -(2 ^ 63)) || decide (x ≥ 2 ^ 63)) = false) (c1 : (items.isEmpty || x == 1) = true) :
    Meets (Builtin.«tuple.__mul__» ⟨[.ref l, .int x u], []⟩) (fun _ R s => s.heap.get? l = some { cls := .type "tuple", dict := dd, data := .seq items n, slots := sl } ∧ R (.ok (.ret (Value.ref l))) s) :=
  .of_wp fun prog w A R s h => by
    obtain ⟨hp, g, d, tk, os⟩ := s
    obtain ⟨hl, h⟩ := h
    have f1 := AutoSeq1.idx_int
    wp_walk using wpAny_loadPart' hl
    repeat (first
      | (refine wpAny_ite_false (decide_eq_false (by rw [c0]; exact Bool.false_ne_true)) ?_; wp_walk using wpAny_loadPart' hl)
      | (refine wpAny_ite_true (decide_eq_true c1) ?_; wp_walk using wpAny_loadPart' hl))
    exact ⟨_, rfl, h⟩
theorem tuple_mul0 (l : Addr) (items : Array Value) (n : Nat) (dd : Option Addr) (sl : Array (Option Value)) (x : Int) (u : Tok) (c0 : (decide (x < -(2 ^ 63)) || decide (x ≥ 2 ^ 63)) = false) (c1 : (items.isEmpty || x == 1) = false) (c2 : (decide (x ≤ 0) || items.isEmpty) = true) :
    Meets (Builtin.«tuple.__mul__» ⟨[.ref l, .int x u], []⟩) (fun _ R s => s.heap.get? l = some { cls := .type "tuple", dict := dd, data := .seq items n, slots := sl } ∧
      R (.ok (.ret (Value.ref s.heap.objs.size))) { s with heap := s.heap.push { cls := Value.type "tuple", data := Data.seq #[] }, toks := s.toks }) :=
  .of_wp fun prog w A R s h => by
    obtain ⟨hp, g, d, tk, os⟩ := s
    obtain ⟨hl, h⟩ := h
    have f1 := AutoSeq1.idx_int
    wp_walk using wpAny_loadPart' hl
    repeat (first
      | (refine wpAny_ite_false (decide_eq_false (by rw [c0]; exact Bool.false_ne_true)) ?_; wp_walk using wpAny_loadPart' hl)
      | (refine wpAny_ite_false (decide_eq_false (by rw [c1]; exact Bool.false_ne_true)) ?_; wp_walk using wpAny_loadPart' hl)
      | (refine wpAny_ite_true (decide_eq_true c2) ?_; wp_walk using wpAny_loadPart' hl))
    exact ⟨_, rfl, h⟩

section
variable [KFrag] {X : Cx}
def rRep01 (K : PySem.W.Frag) : R2 := fun x y H Q => ∃ l k xs, x = .ref l ∧ y = .int k ∧ SqT K H l xs ∧ -(2 ^ 62) ≤ k ∧ k ≤ 1000 ∧ (xs = [] ∨ k ≤ 1) ∧
  ((xs = [] ∨ k = 1) → Q (.ref l) H) ∧ (xs ≠ [] → k ≤ 0 → ∀ p, H p = none → Q (.ref p) (upd H p (.tup [])))
theorem op_rep01 : OpR X (binaryOp .Mult) (rRep01 X.K) := by
  intro pins s σ H x y v u Q I rx ry h
  obtain ⟨l, k, xs, rfl, rfl, hT, h1, h2, h3, q1, q0⟩ := h
  cases rx
  obtain ⟨t, rfl⟩ := ry
  obtain ⟨its, r, ⟨⟨cls, dd, data, sl⟩, ho, hc, n, hd⟩, hs⟩ := I.tuple hT
  simp only at hc hd
  subst hc hd
  have c0 : (decide (k < -(2 ^ 63)) || decide (k ≥ 2 ^ 63)) = false := by
    rw [decide_eq_false (by omega), decide_eq_false (by omega)] <;> rfl
  have he : its.toArray.isEmpty = true ↔ xs = [] := by
    cases r with
    | nil => simp
    | cons _ _ => simp
  by_cases hq : xs = [] ∨ k = 1
  · have c1 : (its.toArray.isEmpty || k == 1) = true := by
      rw [Bool.or_eq_true, beq_iff_eq]
      exact hq.elim (fun z => .inl (he.mpr z)) .inr
    exact wpAny_binaryOp_repeat_ref (T := "tuple") (U := "int") (by decide) ⟨_, ho, rfl⟩ (fun s' => typeIs_int s' k t) noFill_tuple_mul F.fills_int_mul F.slot_int_rmul repeat_tuple F.slot_int_index.lookup
      (call_meets F.slot_int_rmul (typeIs_int s k t) F.entry_int_rmul (F.args_int_rmul_2 _ _) (int_rmul_tuple k t l its.toArray n dd sl)
        ⟨ho, rfl, ⟨_, ho, rfl⟩, call_meets F.slot_tuple_mul ⟨_, ho, rfl⟩ F.entry_tuple_mul (F.args_tuple_mul_2 _ _) (tuple_mul1 l its.toArray n dd sl k t c0 c1) ⟨ho, ⟨.ref l, H, I, rfl, q1 hq⟩⟩⟩)
  · have hne : xs ≠ [] := fun z => hq (.inl z)
    have hk : k ≤ 0 := by
      rcases h3 with z | z
      · exact absurd z hne
      · have : k ≠ 1 := fun z => hq (.inr z)
        omega
    have hi : its.toArray.isEmpty = false := by
      cases z : its.toArray.isEmpty with
      | true => exact absurd (he.mp z) hne
      | false => rfl
    have c1 : (its.toArray.isEmpty || k == 1) = false := by
      rw [hi, Bool.false_or]
      exact beq_eq_false_iff_ne.mpr (by omega)
    have c2 : (decide (k ≤ 0) || its.toArray.isEmpty) = true := by
      rw [decide_eq_true hk] <;> rfl
    refine wpAny_binaryOp_repeat_ref (T := "tuple") (U := "int") (by decide) ⟨_, ho, rfl⟩ (fun s' => typeIs_int s' k t) noFill_tuple_mul F.fills_int_mul F.slot_int_rmul repeat_tuple F.slot_int_index.lookup
      (call_meets F.slot_int_rmul (typeIs_int s k t) F.entry_int_rmul (F.args_int_rmul_2 _ _) (int_rmul_tuple k t l its.toArray n dd sl)
        ⟨ho, rfl, ⟨_, ho, rfl⟩, call_meets F.slot_tuple_mul ⟨_, ho, rfl⟩ F.entry_tuple_mul (F.args_tuple_mul_2 _ _) (tuple_mul0 l its.toArray n dd sl k t c0 c1 c2) ⟨ho, ?_⟩⟩)
    refine ⟨.ref s.heap.objs.size, _, I.laid (t' := s.toks) (o := .tup []) (fun b ob q => Heap.get?_push_of_some _ q) (Nat.le_refl _) ?_, rfl, q0 hne hk _ (I.hok.fresh (Nat.le_refl _))⟩
    exact ⟨Nat.zero_le _, [], .nil, IsTup.new _ _⟩
def mulD : D → D → Option D
  | .int i, .int j => if (-(2 ^ 64) < i ∧ i < 2 ^ 64) ∨ (-(2 ^ 64) < j ∧ j < 2 ^ 64) then some (.int (i * j)) else none
  | .tuple xs, .int k => if -(2 ^ 62) ≤ k ∧ k ≤ 1000 ∧ xs.length ≤ 1000 then some (.tuple (List.replicate k.toNat xs).flatten) else none
  | .list xs, .int k => if -(2 ^ 62) ≤ k ∧ k < 2 ^ 62 ∧ xs.length * k.toNat ≤ line then some (.list (List.replicate k.toNat xs).flatten) else none
  | _, _ => none
theorem Fzs.rep {H : Hp} {A : Addr → Prop} {xs : List V} {ds : List D} (f : Fzs H A xs ds) : ∀ n, Fzs H A (List.replicate n xs).flatten (List.replicate n ds).flatten
  | 0 => .nil
  | n + 1 => by
    rw [List.replicate_succ, List.replicate_succ, List.flatten_cons, List.flatten_cons]
    exact f.app (Fzs.rep f n)
theorem rep_one {α : Type} (l : List α) : (List.replicate 1 l).flatten = l := by simp
theorem rep_nil {α : Type} (n : Nat) : (List.replicate n ([] : List α)).flatten = [] := by
  induction n with
  | zero => rfl
  | succ n ih => rw [List.replicate_succ, List.flatten_cons, ih] <;> rfl
theorem dop_mul : DOp X (binaryOp .Mult) mulD := by
  intro pins s σ H x y v u Q I rx ry h
  obtain ⟨A, dx, dy, z, bt, fx, fy, e, q⟩ := h
  cases fx with
  | int i =>
    cases fy with
    | int j =>
      simp only [mulD] at e
      split at e
      · rename_i hl
        cases e
        exact op_mul pins s σ H _ _ v u Q I rx ry ⟨i, j, rfl, rfl, hl, q _ _ (Same.refl _) (.int _)⟩
      · cases e
    | _ => cases e
  | @tup a xs ds h1 f1 =>
    cases fy with
    | int k =>
      simp only [mulD] at e
      split at e
      · rename_i hl
        cases e
        by_cases hx : xs = []
        · refine op_rep01 pins s σ H _ _ v u Q I rx ry ⟨a, k, xs, rfl, rfl, h1.sq, hl.1, hl.2.1, .inl hx, fun _ => ?_, fun z => absurd hx z⟩
          subst hx
          cases f1
          refine q _ _ (Same.refl _) ?_
          rw [rep_nil]
          exact .tup h1 .nil
        · by_cases hk : k ≤ 1
          · refine op_rep01 pins s σ H _ _ v u Q I rx ry ⟨a, k, xs, rfl, rfl, h1.sq, hl.1, hl.2.1, .inr hk, fun z => ?_, fun _ z p hp => ?_⟩
            · have hk1 : k = 1 := z.elim (fun z => absurd z hx) id
              subst hk1
              refine q _ _ (Same.refl _) ?_
              rw [show (1 : Int).toNat = 1 from rfl, rep_one]
              exact .tup h1 f1
            · have hz : k.toNat = 0 := by omega
              rw [hz] at q
              exact q _ _ (same_upd hp) (Fz.newT bt hp .nil)
          · have l1 := f1.len
            exact op_repT pins s σ H _ _ v u Q I rx ry ⟨a, k, xs, rfl, rfl, h1.sq, hx, by omega, hl.2.1, by omega, fun p hp => q _ _ (same_upd hp) (Fz.newT bt hp (f1.rep _))⟩
      · cases e
    | _ => cases e
  | @lst a xs ds h1 f1 =>
    cases fy with
    | int k =>
      simp only [mulD] at e
      split at e
      · rename_i hl
        cases e
        exact op_rep pins s σ H _ _ v u Q I rx ry ⟨a, k, xs, rfl, rfl, h1.1, by omega, by omega, by rw [f1.len, line_eq]; exact hl.2.2, fun p hp => q _ _ (same_upd hp) (Fz.newL bt hp (f1.rep _))⟩
      · cases e
    | _ => cases e
  | _ => cases fy <;> cases e
def powD : D → D → Option D
  | .int i, .int j => if 0 ≤ j ∧ j ≤ 64 ∧ i.natAbs < 2 ^ 64 then some (.int (i ^ j.toNat)) else none
  | _, _ => none
theorem dop_pow : DOp X (binaryOp .Pow) powD := by
  intro pins s σ H x y v u Q I rx ry h
  obtain ⟨A, dx, dy, z, bt, fx, fy, e, q⟩ := h
  cases fx with
  | int i =>
    cases fy with
    | int j =>
      simp only [powD] at e
      split at e
      · rename_i hl
        cases e
        exact op_pow pins s σ H _ _ v u Q I rx ry ⟨i, j, rfl, rfl, ⟨hl.1, by omega, hl.2.2⟩, q _ _ (Same.refl _) (.int _)⟩
      · cases e
    | _ => cases e
  | _ => cases fy <;> cases e
end
end DL
namespace DL
open PySem PySem.Spec PyProof.Rows L2
section
variable [KFrag]
/-! ### a, b = x, y -/
def gPar2 (i j : Nat) (fs : En → CS → R (List W)) (ρ : En) (s : CS) : RT := (fs ρ s).toT ρ fun ws s => match ws with
  | [a, b] => .nx ((ρ.set i (some a)).set j (some b)) s
  | _ => .bad
def gPar3 (i j l : Nat) (fs : En → CS → R (List W)) (ρ : En) (s : CS) : RT := (fs ρ s).toT ρ fun ws s => match ws with
  | [a, b, c] => .nx (((ρ.set i (some a)).set j (some b)).set l (some c)) s
  | _ => .bad
section
variable {X : Cx} {T : TX} {Wx : WXc} {a b c : Expr} {fs : En → CS → R (List W)} {i j l : Nat} {x y z : Str} {px py pz pt pos : Pos} {kt k2 pt2}
theorem ds_par2 (hc : X.calm = true) (hN : X.N.Nodup) (hi : X.N[i]? = some x) (hj : X.N[j]? = some y) (hij : i ≠ j)
    (hx : X.env.scope.names.lookup x = some .local) (hy : X.env.scope.names.lookup y = some .local) (ha : DA X T Wx [a, b] fs)
    (hw : swappedStores [.Tuple [.Name x px, .Name y py] kt pt] (.Tuple [a, b] k2 pt2) X.env = pure (some [x, y]))
    (hs : swapsWithSole [.Tuple [.Name x px, .Name y py] kt pt] (.Tuple [a, b] k2 pt2) pos.line X.env = pure false := by rfl) :
    DS X T Wx (.Assign [.Tuple [.Name x px, .Name y py] kt pt] (.Tuple [a, b] k2 pt2) pos) (gPar2 i j fs) := PS_imp (ps_par hc hN hi hj hij hx hy ha hw hs) fun D σ H ⟨B, μ, s, ρ, r, e, q⟩ =>
  tD_bindT r e q fun w s1 v μ1 H1 st1 r1 e1 rel1 q1 => by
    have rel1 : RWs B μ1 s1 H1 v w := rel1
    cases rel1 with
    | nil => exact q1.elim
    | cons h1 t =>
      cases t with
      | nil => exact q1.elim
      | cons h2 t =>
        cases t with
        | cons _ _ => exact q1.elim
        | nil => exact ⟨_, _, rfl, q1 _ μ1 H1 Stp.refl r1 ((e1.set h1 i).set h2 j)⟩
theorem ds_par3 (hc : X.calm = true) (hN : X.N.Nodup) (hi : X.N[i]? = some x) (hj : X.N[j]? = some y) (hl : X.N[l]? = some z) (hij : i ≠ j) (hil : i ≠ l) (hjl : j ≠ l)
    (hx : X.env.scope.names.lookup x = some .local) (hy : X.env.scope.names.lookup y = some .local) (hz : X.env.scope.names.lookup z = some .local) (ha : DA X T Wx [a, b, c] fs)
    (hw : swappedStores [.Tuple [.Name x px, .Name y py, .Name z pz] kt pt] (.Tuple [a, b, c] k2 pt2) X.env = pure (some [x, y, z]))
    (hs : swapsWithSole [.Tuple [.Name x px, .Name y py, .Name z pz] kt pt] (.Tuple [a, b, c] k2 pt2) pos.line X.env = pure false := by rfl) :
    DS X T Wx (.Assign [.Tuple [.Name x px, .Name y py, .Name z pz] kt pt] (.Tuple [a, b, c] k2 pt2) pos) (gPar3 i j l fs) := PS_imp (ps_par3 hc hN hi hj hl hij hil hjl hx hy hz ha hw hs) fun D σ H ⟨B, μ, s, ρ, r, e, q⟩ =>
  tD_bindT r e q fun w s1 v μ1 H1 st1 r1 e1 rel1 q1 => by
    have rel1 : RWs B μ1 s1 H1 v w := rel1
    cases rel1 with
    | nil => exact q1.elim
    | cons h1 t =>
      cases t with
      | nil => exact q1.elim
      | cons h2 t =>
        cases t with
        | nil => exact q1.elim
        | cons h3 t =>
          cases t with
          | cons _ _ => exact q1.elim
          | nil => exact ⟨_, _, _, rfl, q1 _ μ1 H1 Stp.refl r1 (((e1.set h1 i).set h2 j).set h3 l)⟩
end
/-! ### a list or a tuple, walked -/
def iSq (K : PySem.W.Frag) (tl : TE) : TI := fun σ H R => tl σ H fun x H1 => ∃ a, x = .ref a ∧ (((∃ xs, SqL K H1 a xs) ∧ R (Itl K a) H1) ∨ ((∃ xs, SqT K H1 a xs) ∧ R (Itt K a) H1))
theorem pi_sq {X : Cx} {tg l : Expr} {tl : TE} (hl : PE X l tl) : PI X tg l (iSq X.K tl) := by
  refine ⟨fun pins s σ H R I h => ?_⟩
  refine thn (hl.run pins s σ H _ I h) fun v s1 ⟨x, H1, I1, r1, q1⟩ => ?_
  obtain ⟨a, e, q⟩ := q1
  subst e
  cases r1
  rcases q with ⟨⟨xs, hq⟩, q⟩ | ⟨⟨xs, hq⟩, q⟩
  · obtain ⟨its, rv, p, hz⟩ := I1.list hq
    refine wpAny_pyIter_list p.isList ?_
    refine ⟨s1.heap.objs.size, [s1.heap.objs.size], _, _, H1, rfl, I1.kept (t' := s1.toks) fun b o e => Heap.get?_push_of_some _ e, turn_list a _, ⟨_, Heap.get?_push_size _ rfl, rfl, rfl⟩, fun b hb => ?_, q⟩
    have e : b = s1.heap.objs.size := by simpa using hb
    subst e
    exact I1.fpOk (Nat.le_refl _) (I1.hok.fresh (Nat.le_refl _))
  · obtain ⟨its, rv, p, hz⟩ := I1.tuple hq
    refine wpAny_pyIter_tuple (show s1.heap.IsTuple a its.toArray from p) ?_
    refine ⟨s1.heap.objs.size, [s1.heap.objs.size], _, _, H1, rfl, I1.kept (t' := s1.toks) fun b o e => Heap.get?_push_of_some _ e, turn_tuple a _, ⟨_, Heap.get?_push_size _ rfl, rfl, rfl⟩, fun b hb => ?_, q⟩
    have e : b = s1.heap.objs.size := by simpa using hb
    subst e
    exact I1.fpOk (Nat.le_refl _) (I1.hok.fresh (Nat.le_refl _))
def sqW : W → CS → R (List D)
  | .d (.list ds), s => .ok ds s
  | .d (.tuple ds), s => .ok ds s
  | _, _ => .bad
def fIt (f : En → CS → R W) (ρ : En) (s : CS) : R (List D) := (f ρ s).bind sqW
theorem di_seq {X : Cx} {T : TX} {Wx : WXc} {tg e : Expr} {f : En → CS → R W} (h : DE X T Wx e f) : DI X T Wx tg e (fIt f) := PI_imp (pi_sq h) fun σ H Q ⟨B, μ, s, ρ, r, e, q⟩ =>
  tD_bind r e q fun w s1 v μ1 H1 st1 r1 e1 rel1 q1 => by
    unfold sqW at q1
    split at q1
    · rename_i ds
      have rel1 : Fz H1 (Av B μ1 s1) v (.list ds) := rel1
      cases rel1 with
      | @lst a xs _ h1 f1 => exact ⟨a, rfl, .inl ⟨⟨xs, h1.sq⟩, Fin.here (a := List D) q1 r1 (itr_list h1 f1)⟩⟩
    · rename_i ds
      have rel1 : Fz H1 (Av B μ1 s1) v (.tuple ds) := rel1
      cases rel1 with
      | @tup a xs _ h1 f1 => exact ⟨a, rfl, .inr ⟨⟨xs, h1.sq⟩, Fin.here (a := List D) q1 r1 (itr_tup h1 f1)⟩⟩
    · exact q1.elim
/-! ### the law's own end -/
def spLaw (K : PySem.W.Frag) : Sp := fun vs H Q _ => ∃ (a : Addr) (ns : List Int), vs = [.ref a] ∧ Only H ∧ SqL K H a (ns.map V.int) ∧ ns.length ≤ 63 ∧ ∀ H', Q (.bl true) H'
/-- a law's value: True, whatever the script -/
def LawTrue (r : List W → CS → R W) : Prop := ∀ ns : List Int, ns.length ≤ 63 → ∃ s, r [.sc ns] [] = .ok (.d (.bool true)) s
theorem law_sp {T : TX} {K : PySem.W.Frag} {r : List W → CS → R W} (hK : K = KFrag.K) (h : LawTrue r) : ∀ vs H Q E, spLaw K vs H Q E → spD T 1 (noX r) vs H Q E := by
  rintro vs H Q E ⟨a, ns, rfl, hO, hS, hl, q⟩
  obtain ⟨s, e⟩ := h ns hl
  refine ⟨rfl, fun _ => False, [], [], [.sc ns], [], ⟨rfl, fun n m a z => by simp at z, fun n a z => by simp at z, fun n a z => by simp at z, fun a z => z.elim, fun n a c z => by simp at z⟩, .cons ⟨a, rfl, ?_⟩ .nil, ?_⟩
  · rcases hS with (z | ⟨o, z⟩) | z
    · rcases hO a with y | ⟨o, xs, y⟩
      · rw [z] at y; cases y
      · rw [z] at y; cases y
    · exact .inl ⟨o, z, lv_nil⟩
    · exact .inr (by rw [hK] at z; exact z)
  · unfold noX
    rw [e]
    intro v μ' H' st sr rel
    have rel : Fz H' _ v (.bool true) := rel
    cases rel
    exact q H'
end
end DL
namespace DL
open PySem PySem.Spec PyProof.Rows L2
section
variable [KFrag] {X : Cx}
theorem dgsC {e : Expr} {es : List Expr} {is js : List Nat} {h : W → En → Option En} {k : List D → En → Option En} (h1 : DG X e is h) (h2 : DGs X es js k)
    (hs : (assignEach (e :: es) X.env).map (·.2) = assign e X.env :: (assignEach es X.env).map (·.2) := by rfl) : DGs X (e :: es) (is ++ js) (hsC h k) := dgs_cons h1 h2 (pgs_cons h1 h2 hs)
theorem dgT {es : List Expr} {k : Nat} {pos : Pos} {n : Nat} {is : List Nat} {h : List D → En → Option En} (hc : X.calm = true) (h1 : DGs X es is h)
    (hn : (assignEach es X.env).length = n := by rfl) (hst : (assignEach es X.env).findIdx? (·.1) = none := by rfl) : DG X (.Tuple es k pos) is (hT n h) := dg_tup (pg_tup hc h1 hn hst)
end
/-- room for a look into the 65th unit -/
theorem Room_units1 {k : Nat} {A : Around} (r : Room (k + 1) A) : A.units + 64 < cLine := r.units
end DL
namespace DL
open PySem PySem.Spec PyProof.Rows L2

/-! ### the pen: what a draw gives -/
def zpen_g : En → CS → RT := (gRet (fNew (fCons (fN listD (fCons (fSl (fVar 0) fO0 (fO1 (fC (.int 63)))) fNil)) (fCons (fC (.int 0)) (fCons (fC (.int 0)) fNil)))))
abbrev zpen_r : List W → CS → R W := fnR 1 1 zpen_g
def zfresh_g : En → CS → RT := (gSeq (gAsg (hN 1) (fIxC (fVar 0) (fC (.int 1))))
    (gSeq (gPutC (f2 addD (fVar 1) (fC (.int 1))) (fVar 0) (fC (.int 1)))
    (gSeq (gAsg (hN 2) (fC (.int 0)))
    (gSeq (gIf (fB (f2 neD (fIxC (fVar 0) (fC (.int 0))) (fN lstD fNil))) (gAsg (hN 2) (f2 ixD (fIxC (fVar 0) (fC (.int 0))) (f2 modD (fN intD (fCons (fVar 1) fNil)) (fN lenD (fCons (fIxC (fVar 0) (fC (.int 0))) fNil))))) gNx)
    (gSeq (gIf (fAnd (fB (f2 ltD (fVar 1) (fN lenD (fCons (fIxC (fVar 0) (fC (.int 0))) fNil)))) (fB (f2 geD (fVar 2) (f2 powD (fC (.int 10)) (fC (.int 18)))))) (gRet (f2 subD (fVar 2) (f2 powD (fC (.int 10)) (fC (.int 18))))) gNx)
    (gSeq (gAsg (hN 3) (fC (.int 2305843009213693951)))
    (gSeq (gAsg (hN 4) (f2 modD (fN intD (fCons (f2 addD (f2 addD (f2 mulD (fVar 2) (fC (.int 48271))) (f2 mulD (fC (.int 40692)) (fVar 1))) (fC (.int 31))) fNil)) (fVar 3)))
    (gSeq (gAsg (hN 5) (fVar 4))
    (gSeq (gFor (fRng1 (fC (.int 6))) (hN 6) (gSeq (gAsg (hN 4) (f2 modD (fN intD (fCons (f2 addD (f2 addD (f2 mulD (fVar 4) (fVar 4)) (f2 mulD (f2 mulD (fC (.int 69621)) (f2 addD (fVar 6) (fC (.int 1)))) (f2 addD (fVar 1) (fC (.int 1))))) (fVar 2)) fNil)) (fVar 3)))
    (gAsg (hN 5) (f2 addD (f2 mulD (fVar 5) (fVar 3)) (fVar 4)))))
    (gRet (fVar 5)))))))))))
abbrev zfresh_r : List W → CS → R W := fnR 1 7 zfresh_g
def zdraw_g : En → CS → RT := (gSeq (gIf (fB (f2 ltD (fIxC (fVar 0) (fC (.int 2))) (fVar 1))) (gPutC (fCall 1 zfresh_r (fCons (fVar 0) fNil)) (fVar 0) (fC (.int 2))) gNx)
    (gSeq (gAsg (hN 2) (f2 modD (fN intD (fCons (fIxC (fVar 0) (fC (.int 2))) fNil)) (fVar 1)))
    (gSeq (gPutC (f2 fdivD (fN intD (fCons (fIxC (fVar 0) (fC (.int 2))) fNil)) (fVar 1)) (fVar 0) (fC (.int 2)))
    (gRet (fVar 2)))))
abbrev zdraw_r : List W → CS → R W := fnR 2 3 zdraw_g
theorem depth_ints : ∀ ns : List Int, PyData.depthAll (ns.map PyData.int) = 0
  | [] => rfl
  | n :: r => by
    have := depth_ints r
    simp [PyData.depthAll, PyData.depth]
    exact this
theorem lay_ints : ∀ ns : List Int, PyData.canLayAll0 (ns.map PyData.int) = true
  | [] => rfl
  | n :: r => by
    have := lay_ints r
    simp [PyData.canLayAll0, PyData.canLay0]
    exact this
theorem shaped_ints (ns : List Int) : SeqAt.shaped (.list (ns.map PyData.int)) = true := by
  unfold SeqAt.shaped
  rw [Bool.and_eq_true]
  refine ⟨?_, decide_eq_true ?_⟩
  · show PyData.canLay0 (.list _) = true
    simp only [PyData.canLay0]
    exact lay_ints ns
  · show PyData.depth (.list _) ≤ 64
    simp only [PyData.depth]
    rw [depth_ints]
    omega
/-- the pen at n: its cells, what comes next, what is left of a great number -/
def PenAt (n : Nat) (ns : List Int) (at_ rest : Int) (s : CS) : Prop := s[n]? = some (.lst [.list (ns.map .int), .int at_, .int rest])
theorem atI0 {a b c : D} : atI [a, b, c] 0 = some a := rfl
theorem atI1 {a b c : D} : atI [a, b, c] 1 = some b := rfl
theorem atI2 {a b c : D} : atI [a, b, c] 2 = some c := rfl
theorem PenAt.set {n : Nat} {ns : List Int} {a r : Int} {s : CS} (h : PenAt n ns a r s) (a' r' : Int) : PenAt n ns a' r' (s.set n (.lst [.list (ns.map .int), .int a', .int r'])) := by
  unfold PenAt
  rw [List.getElem?_set_self (List.getElem?_eq_some_iff.mp h).1]
/-- the part of fresh that draws a turn -/
def zturn : En → CS → RT := gSeq (gAsg (hN 4) (f2 modD (fN intD (fCons (f2 addD (f2 addD (f2 mulD (fVar 4) (fVar 4)) (f2 mulD (f2 mulD (fC (.int 69621)) (f2 addD (fVar 6) (fC (.int 1)))) (f2 addD (fVar 1) (fC (.int 1))))) (fVar 2)) fNil)) (fVar 3)))
    (gAsg (hN 5) (f2 addD (f2 mulD (fVar 5) (fVar 3)) (fVar 4)))
theorem zturn_is {n : Nat} {a c st f t : Int} {s : CS} (h0 : 0 ≤ st) (h1 : st < 2305843009213693951) (t0 : 0 ≤ t) (t1 : t < 1000) :
    ∃ st' f', 0 ≤ st' ∧ st' < 2305843009213693951 ∧ zturn [some (.c n), some (.d (.int a)), some (.d (.int c)), some (.d (.int 2305843009213693951)), some (.d (.int st)), some (.d (.int f)), some (.d (.int t))] s
      = .nx [some (.c n), some (.d (.int a)), some (.d (.int c)), some (.d (.int 2305843009213693951)), some (.d (.int st')), some (.d (.int f')), some (.d (.int t))] s := by
  have m1 : mulD (.int st) (.int st) = some (.int (st * st)) := by
    simp only [mulD]
    rw [if_pos (Or.inl ⟨by omega, by omega⟩)]
  have m2 : mulD (.int 69621) (.int (t + 1)) = some (.int (69621 * (t + 1))) := by
    simp only [mulD]
    rw [if_pos (Or.inl ⟨by decide, by decide⟩)]
  have m3 : mulD (.int (69621 * (t + 1))) (.int (a + 1)) = some (.int (69621 * (t + 1) * (a + 1))) := by
    simp only [mulD]
    rw [if_pos (Or.inl ⟨by omega, by omega⟩)]
  have m4 : ∀ x : Int, modD (.int x) (.int 2305843009213693951) = some (.int (x % 2305843009213693951)) := fun x => by
    simp only [modD]
    rw [if_pos (by decide)]
  have m5 : mulD (.int f) (.int 2305843009213693951) = some (.int (f * 2305843009213693951)) := by
    simp only [mulD]
    rw [if_pos (Or.inr ⟨by decide, by decide⟩)]
  refine ⟨(st * st + 69621 * (t + 1) * (a + 1) + c) % 2305843009213693951, f * 2305843009213693951 + (st * st + 69621 * (t + 1) * (a + 1) + c) % 2305843009213693951, Int.emod_nonneg _ (by decide), Int.emod_lt_of_pos _ (by decide), ?_⟩
  simp [zturn, gSeq, gAsg, f2, fVar, fC, R.bind, lift2, m1, m2, m3, m4, m5, addD, fN, fCons, fNil, liftN, allD, intD, R.toT, hN]
theorem zloop : ∀ (ts : List Int) {n : Nat} {a c st f : Int} {s : CS} (l : Option W), 0 ≤ st → st < 2305843009213693951 → (∀ t ∈ ts, 0 ≤ t ∧ t < 1000) →
    ∃ st' f' l', 0 ≤ st' ∧ st' < 2305843009213693951 ∧ forL (hN 6) zturn (ts.map .int) [some (.c n), some (.d (.int a)), some (.d (.int c)), some (.d (.int 2305843009213693951)), some (.d (.int st)), some (.d (.int f)), l] s
      = .nx [some (.c n), some (.d (.int a)), some (.d (.int c)), some (.d (.int 2305843009213693951)), some (.d (.int st')), some (.d (.int f')), l'] s
  | [], _, _, _, st, f, _, l, h0, h1, _ => ⟨st, f, l, h0, h1, rfl⟩
  | t :: ts, n, a, c, st, f, s, l, h0, h1, ht => by
    obtain ⟨t0, t1⟩ := ht t List.mem_cons_self
    obtain ⟨st1, f1, g0, g1, e1⟩ := zturn_is (n := n) (a := a) (c := c) (f := f) (s := s) h0 h1 t0 t1
    obtain ⟨st2, f2, l2, k0, k1, e2⟩ := zloop ts (n := n) (a := a) (c := c) (f := f1) (s := s) (some (.d (.int t))) g0 g1 fun x hx => ht x (List.mem_cons_of_mem _ hx)
    refine ⟨st2, f2, l2, k0, k1, ?_⟩
    have e3 : hN 6 (.d (.int t)) [some (.c n), some (.d (.int a)), some (.d (.int c)), some (.d (.int 2305843009213693951)), some (.d (.int st)), some (.d (.int f)), l] = some [some (.c n), some (.d (.int a)), some (.d (.int c)), some (.d (.int 2305843009213693951)), some (.d (.int st)), some (.d (.int f)), some (.d (.int t))] := rfl
    rw [List.map_cons]
    unfold forL
    simp only [e3, e1, e2]
theorem atI_in {ds : List D} {i : Int} (h0 : 0 ≤ i) (h1 : i < ds.length) : ∃ x, atI ds i = some x ∧ x ∈ ds := by
  have hl : i.toNat < ds.length := by omega
  refine ⟨ds[i.toNat], ?_, List.getElem_mem hl⟩
  unfold atI ixN
  rw [if_pos h0, if_pos h1]
  show ds[i.toNat]? = _
  rw [List.getElem?_eq_getElem hl]
theorem zfresh_is {n : Nat} {ns : List Int} {a r : Int} {s : CS} (h : PenAt n ns a r s) : ∃ f : Int, zfresh_r [.c n] s = .ok (.d (.int f)) (s.set n (.lst [.list (ns.map .int), .int (a + 1), .int r])) := by
  have hs := h.set (a + 1) r
  unfold PenAt at h hs
  have hlen : 0 ≤ (ns.length : Int) := by omega
  -- the cell that is read
  obtain ⟨c, hc⟩ : ∃ c : Int, gSeq (gAsg (hN 2) (fC (.int 0)))
      (gIf (fB (f2 neD (fIxC (fVar 0) (fC (.int 0))) (fN lstD fNil))) (gAsg (hN 2) (f2 ixD (fIxC (fVar 0) (fC (.int 0))) (f2 modD (fN intD (fCons (fVar 1) fNil)) (fN lenD (fCons (fIxC (fVar 0) (fC (.int 0))) fNil))))) gNx)
      [some (.c n), some (.d (.int a)), none, none, none, none, none] (s.set n (.lst [.list (ns.map .int), .int (a + 1), .int r])) = .nx [some (.c n), some (.d (.int a)), some (.d (.int c)), none, none, none, none] (s.set n (.lst [.list (ns.map .int), .int (a + 1), .int r])) := by
    cases ns with
    | nil =>
      refine ⟨0, ?_⟩
      have e : neD (.list (([] : List Int).map .int)) (.list []) = some (.bool false) := by
        unfold neD
        rw [if_pos ⟨shaped_ints _, by decide +kernel⟩]
        rfl
      simp only [List.map_nil] at hs e
      simp [gSeq, gAsg, gIf, fC, R.toT, hN, fB, f2, fIxC, fVar, R.bind, ixC, hs, atI0, fN, fNil, liftN, allD, lstD, lift2, e, toB, gNx]
    | cons m ms =>
      have e : neD (.list ((m :: ms).map .int)) (.list []) = some (.bool true) := by
        unfold neD
        rw [if_pos ⟨shaped_ints _, by decide +kernel⟩]
        rfl
      have hp : (0 : Int) < ((ms.length : Int) + 1) := by omega
      have e2 : modD (.int a) (.int ((ms.length : Int) + 1)) = some (.int (a % ((ms.length : Int) + 1))) := by
        simp only [modD]
        rw [if_pos hp]
      obtain ⟨x, hx, hm⟩ := atI_in (ds := (m :: ms).map PyData.int) (i := a % ((ms.length : Int) + 1)) (Int.emod_nonneg _ (by omega)) (by
        have := Int.emod_lt_of_pos a hp
        simp
        exact this)
      obtain ⟨c, _, hcx⟩ := List.mem_map.mp hm
      subst hcx
      refine ⟨c, ?_⟩
      simp only [List.map_cons] at hs e hx
      simp [gSeq, gAsg, gIf, fC, R.toT, hN, fB, f2, fIxC, fVar, R.bind, ixC, hs, atI0, fN, fNil, fCons, liftN, allD, lstD, lift2, e, toB, gNx, intD, lenD, e2, ixD, hx]
  -- the rest
  have hp : powD (.int 10) (.int 18) = some (.int 1000000000000000000) := by
    simp only [powD]
    rw [if_pos ⟨by decide, by decide, by decide⟩]
    rfl
  have m1 : mulD (.int c) (.int 48271) = some (.int (c * 48271)) := by
    simp only [mulD]
    rw [if_pos (Or.inr ⟨by decide, by decide⟩)]
  have m2 : mulD (.int 40692) (.int a) = some (.int (40692 * a)) := by
    simp only [mulD]
    rw [if_pos (Or.inl ⟨by decide, by decide⟩)]
  have m4 : ∀ x : Int, modD (.int x) (.int 2305843009213693951) = some (.int (x % 2305843009213693951)) := fun x => by
    simp only [modD]
    rw [if_pos (by decide)]
  have hrest : ∃ f : Int, (match (gSeq (gIf (fAnd (fB (f2 ltD (fVar 1) (fN lenD (fCons (fIxC (fVar 0) (fC (.int 0))) fNil)))) (fB (f2 geD (fVar 2) (f2 powD (fC (.int 10)) (fC (.int 18)))))) (gRet (f2 subD (fVar 2) (f2 powD (fC (.int 10)) (fC (.int 18))))) gNx)
    (gSeq (gAsg (hN 3) (fC (.int 2305843009213693951)))
    (gSeq (gAsg (hN 4) (f2 modD (fN intD (fCons (f2 addD (f2 addD (f2 mulD (fVar 2) (fC (.int 48271))) (f2 mulD (fC (.int 40692)) (fVar 1))) (fC (.int 31))) fNil)) (fVar 3)))
    (gSeq (gAsg (hN 5) (fVar 4))
    (gSeq (gFor (fRng1 (fC (.int 6))) (hN 6) zturn)
    (gRet (fVar 5))))))) [some (.c n), some (.d (.int a)), some (.d (.int c)), none, none, none, none] (s.set n (.lst [.list (ns.map .int), .int (a + 1), .int r])) with
      | .nx _ s => R.ok (W.d .none) s
      | .rt w s => .ok w s
      | .exc e _ s => .exc e s
      | _ => .bad) = .ok (.d (.int f)) (s.set n (.lst [.list (ns.map .int), .int (a + 1), .int r])) := by
    have later : ∃ f : Int, (gSeq (gAsg (hN 3) (fC (.int 2305843009213693951)))
    (gSeq (gAsg (hN 4) (f2 modD (fN intD (fCons (f2 addD (f2 addD (f2 mulD (fVar 2) (fC (.int 48271))) (f2 mulD (fC (.int 40692)) (fVar 1))) (fC (.int 31))) fNil)) (fVar 3)))
    (gSeq (gAsg (hN 5) (fVar 4))
    (gSeq (gFor (fRng1 (fC (.int 6))) (hN 6) zturn)
    (gRet (fVar 5)))))) [some (.c n), some (.d (.int a)), some (.d (.int c)), none, none, none, none] (s.set n (.lst [.list (ns.map .int), .int (a + 1), .int r])) = .rt (.d (.int f)) (s.set n (.lst [.list (ns.map .int), .int (a + 1), .int r])) := by
      obtain ⟨st, f, l, h0, h1, e⟩ := zloop [0, 1, 2, 3, 4, 5] (n := n) (a := a) (c := c) (st := (c * 48271 + 40692 * a + 31) % 2305843009213693951) (f := (c * 48271 + 40692 * a + 31) % 2305843009213693951) (s := s.set n (.lst [.list (ns.map .int), .int (a + 1), .int r])) none
        (Int.emod_nonneg _ (by decide)) (Int.emod_lt_of_pos _ (by decide)) (by decide)
      refine ⟨f, ?_⟩
      have er : rngD 0 6 = [PyData.int 0, PyData.int 1, PyData.int 2, PyData.int 3, PyData.int 4, PyData.int 5] := rfl
      simp [gSeq, gAsg, gFor, fRng1, fC, R.toT, hN, f2, fVar, R.bind, fN, fNil, fCons, liftN, allD, lift2, intD, m1, m2, m4, addD, er, gRet] at e ⊢
      rw [e]
      rfl
    obtain ⟨f, hf⟩ := later
    by_cases ht : a < (ns.length : Int) ∧ 1000000000000000000 ≤ c
    · refine ⟨c - 1000000000000000000, ?_⟩
      simp [gSeq, gIf, fAnd, fB, f2, fVar, fN, fCons, fNil, fIxC, fC, R.bind, R.toT, ixC, hs, atI0, liftN, allD, lenD, lift2, ltD, geD, cmpD, toB, hp, subD, gRet, ht.1, ht.2]
    · refine ⟨f, ?_⟩
      have e : gIf (fAnd (fB (f2 ltD (fVar 1) (fN lenD (fCons (fIxC (fVar 0) (fC (.int 0))) fNil)))) (fB (f2 geD (fVar 2) (f2 powD (fC (.int 10)) (fC (.int 18)))))) (gRet (f2 subD (fVar 2) (f2 powD (fC (.int 10)) (fC (.int 18))))) gNx
          [some (.c n), some (.d (.int a)), some (.d (.int c)), none, none, none, none] (s.set n (.lst [.list (ns.map .int), .int (a + 1), .int r])) = .nx [some (.c n), some (.d (.int a)), some (.d (.int c)), none, none, none, none] (s.set n (.lst [.list (ns.map .int), .int (a + 1), .int r])) := by
        by_cases h1 : a < (ns.length : Int)
        · have h2 : ¬ 1000000000000000000 ≤ c := fun z => ht ⟨h1, z⟩
          simp [gIf, fAnd, fB, f2, fVar, fN, fCons, fNil, fIxC, fC, R.bind, R.toT, ixC, hs, atI0, liftN, allD, lenD, lift2, ltD, geD, cmpD, toB, hp, gNx, h1, h2]
        · simp [gIf, fAnd, fB, f2, fVar, fN, fCons, fNil, fIxC, fC, R.bind, R.toT, ixC, hs, atI0, liftN, allD, lenD, lift2, ltD, geD, cmpD, toB, hp, gNx, h1]
      rw [gSeq, e]
      show (match (gSeq _ _ _ _) with | .nx _ s => R.ok (W.d .none) s | .rt w s => .ok w s | .exc e _ s => .exc e s | _ => .bad) = _
      rw [hf]
  obtain ⟨f, hf⟩ := hrest
  refine ⟨f, ?_⟩
  show (if [W.c n].length = 1 then _ else _) = _
  rw [if_pos (show [W.c n].length = 1 from rfl)]
  have e0 : startE 7 [W.c n] = [some (.c n), none, none, none, none, none, none] := rfl
  rw [e0]
  have e1 : gAsg (hN 1) (fIxC (fVar 0) (fC (.int 1))) [some (.c n), none, none, none, none, none, none] s = .nx [some (.c n), some (.d (.int a)), none, none, none, none, none] s := by
    simp [gAsg, hN, fIxC, fVar, fC, R.bind, R.toT, ixC, h, atI1]
  have e2 : gPutC (f2 addD (fVar 1) (fC (.int 1))) (fVar 0) (fC (.int 1)) [some (.c n), some (.d (.int a)), none, none, none, none, none] s = .nx [some (.c n), some (.d (.int a)), none, none, none, none, none] (s.set n (.lst [.list (ns.map .int), .int (a + 1), .int r])) := by
    have ei : ixN 3 1 = some 1 := rfl
    simp [gPutC, f2, fVar, fC, R.bind, R.toT, lift2, addD, h, ei]
  unfold zfresh_g
  rw [gSeq, e1]
  show (match (gSeq _ _ _ _) with | .nx _ s => R.ok (W.d .none) s | .rt w s => .ok w s | .exc e _ s => .exc e s | _ => .bad) = _
  rw [gSeq, e2]
  show (match (gSeq _ (gSeq _ _) _ _) with | .nx _ s => R.ok (W.d .none) s | .rt w s => .ok w s | .exc e _ s => .exc e s | _ => .bad) = _
  have assoc : ∀ (x y z : En → CS → RT) (ρ : En) (t : CS), gSeq x (gSeq y z) ρ t = gSeq (gSeq x y) z ρ t := fun x y z ρ t => by
    unfold gSeq
    cases x ρ t <;> rfl
  rw [assoc, gSeq, hc]
  exact hf
theorem zdraw_is {n : Nat} {ns : List Int} {a r : Int} {s : CS} (h : PenAt n ns a r s) {m : Int} (hm : 0 < m) (hm2 : m < 1073741824) :
    ∃ d a' r' : Int, 0 ≤ d ∧ d < m ∧ zdraw_r [.c n, .d (.int m)] s = .ok (.d (.int d)) (s.set n (.lst [.list (ns.map .int), .int a', .int r'])) := by
  -- behind the first statement
  obtain ⟨a1, r1, s1, h1, hs1, e1⟩ : ∃ a1 r1 s1, PenAt n ns a1 r1 s1 ∧ (∀ c, s1.set n c = s.set n c) ∧ gIf (fB (f2 ltD (fIxC (fVar 0) (fC (.int 2))) (fVar 1))) (gPutC (fCall 1 zfresh_r (fCons (fVar 0) fNil)) (fVar 0) (fC (.int 2))) gNx
      [some (.c n), some (.d (.int m)), none] s = .nx [some (.c n), some (.d (.int m)), none] s1 := by
    by_cases hr : r < m
    · obtain ⟨f, hf⟩ := zfresh_is h
      have h2 := h.set (a + 1) r
      have hx : noX zfresh_r [.c n] s = .ok (.d (.int f)) (s.set n (.lst [.list (ns.map .int), .int (a + 1), .int r])) := by
        unfold noX
        rw [hf]
      refine ⟨a + 1, f, (s.set n (.lst [.list (ns.map .int), .int (a + 1), .int r])).set n (.lst [.list (ns.map .int), .int (a + 1), .int f]), h2.set (a + 1) f, fun c => by rw [List.set_set, List.set_set], ?_⟩
      unfold PenAt at h h2
      have ei : ixN 3 2 = some 2 := rfl
      simp [gIf, fB, f2, fIxC, fVar, fC, R.bind, R.toT, ixC, h, atI2, lift2, ltD, cmpD, toB, hr, gPutC, fCall, fCons, fNil, hx, h2, ei]
    · refine ⟨a, r, s, h, fun c => rfl, ?_⟩
      unfold PenAt at h
      simp [gIf, fB, f2, fIxC, fVar, fC, R.bind, R.toT, ixC, h, atI2, lift2, ltD, cmpD, toB, hr, gNx]
  have e2 : modD (.int r1) (.int m) = some (.int (r1 % m)) := by
    simp only [modD]
    rw [if_pos hm]
  have e3 : fdivD (.int r1) (.int m) = some (.int (r1 / m)) := by
    simp only [fdivD]
    rw [if_pos ⟨hm, hm2⟩]
  refine ⟨r1 % m, a1, r1 / m, Int.emod_nonneg _ (by omega), Int.emod_lt_of_pos _ hm, ?_⟩
  show (if [W.c n, W.d (.int m)].length = 2 then _ else _) = _
  rw [if_pos (show [W.c n, W.d (.int m)].length = 2 from rfl)]
  have e0 : startE 3 [W.c n, W.d (.int m)] = [some (.c n), some (.d (.int m)), none] := rfl
  rw [e0]
  unfold zdraw_g
  rw [gSeq, e1]
  have h1' := h1
  unfold PenAt at h1
  have ei : ixN 3 2 = some 2 := rfl
  rw [← hs1]
  simp [gSeq, gAsg, hN, f2, fN, fCons, fNil, fIxC, fVar, fC, R.bind, R.toT, ixC, h1, atI2, liftN, allD, intD, lift2, e2, e3, gPutC, ei, gRet]
theorem zpen_is (ns : List Int) (h : ns.length ≤ 63) : ∃ ms : List Int, zpen_r [.sc ns] [] = .ok (.c 0) [.lst [.list (ms.map .int), .int 0, .int 0]] := by
  refine ⟨ns, ?_⟩
  have e : cutD (ns.map PyData.int) none (some 63) = ns.map PyData.int := by
    unfold cutD
    have h1 : HT.sIx (ns.map PyData.int).length 0 none = 0 := rfl
    have h2 : HT.sIx (ns.map PyData.int).length (ns.map PyData.int).length (some 63) = (ns.map PyData.int).length := by
      rw [List.length_map]
      show min (63 : Int).toNat ns.length = ns.length
      omega
    rw [h1, h2, List.drop_zero, Nat.sub_zero, List.take_length]
  show (if [W.sc ns].length = 1 then _ else _) = _
  rw [if_pos (show [W.sc ns].length = 1 from rfl)]
  have e0 : startE 1 [W.sc ns] = [some (.sc ns)] := rfl
  rw [e0]
  have hl : 3 ≤ line := by decide
  simp [zpen_g, gRet, fNew, fCons, fN, fSl, fVar, fO0, fO1, fC, R.bind, R.toT, toO, liftS, e, fNil, liftN, allD, listD, hl]
end DL
namespace DL
open PySem PySem.Spec PyProof.Rows L2
/-! ### enumerate over a tuple -/
theorem enum_new1 {v : Value} {o : Obj} {H : Heap → Prop} (B : Begins v o H) :
    Meets (Builtin.«enumerate.__new__» ⟨[.type "enumerate", v], []⟩) (fun _ R s => H s.heap ∧
      R (.ok (.ret (.ref (s.heap.push o).objs.size))) { s with heap := (s.heap.push o).push { cls := .type "enumerate", data := .fields #[.none, .bool false, .ref s.heap.objs.size, rawInt 0, .none, .none] } }) :=
  .of_wp fun prog w A R s h => by
    obtain ⟨hp, g, d, tk, os⟩ := s
    obtain ⟨h1, h⟩ := h
    have hsub := sub_enumerate
    have q1 : ∀ {A' : Around} {E : Value → Shared → Prop} {Q : Value → Shared → Prop}, Q (.ref hp.objs.size) ⟨hp.push o, g, d, tk, os⟩ → wpAny (model prog w) A' (pyIter v) Q E ⟨hp, g, d, tk, os⟩ :=
      fun q => B.iter prog w _ _ ⟨hp, g, d, tk, os⟩ _ h1 q
    wp_walk using q1
    refine wpAny_stack_any fun st => wpAny_pure ?_
    split
    · rename_i c _ _ _ _ _
      cases (c == Value.type "enumerate")
      · wp_walk using q1
        exact ⟨_, rfl, h⟩
      · wp_walk using q1
        exact ⟨_, rfl, h⟩
    · wp_walk using q1
      exact ⟨_, rfl, h⟩
theorem call_enum1 {prog : Program} {w : World} {A : Around} {E : Value → Shared → Prop} {s : Shared} {v : Value} {o : Obj} {H : Heap → Prop} {Q : Value → Shared → Prop} (B : Begins v o H) (h1 : H s.heap)
    (h : ∀ h', IsEnum h' (s.heap.objs.size + 1) s.heap.objs.size 0 .none → h'.get? s.heap.objs.size = some o → h'.objs.size = s.heap.objs.size + 2 →
      (∀ b o, s.heap.get? b = some o → h'.get? b = some o) → Q (.ref (s.heap.objs.size + 1)) { s with heap := h' }) :
    wpAny (model prog w) A (call (.type "enumerate") [v]) Q E s := by
  refine callType_new F.called_enumerate (by decide) (F.typeCall_enumerate_1 _) (F.newCall_enumerate_1 _) (fun obj => F.args_object_init_2 obj _) F.entry_enumerate_new
    (enum_new1 B) ⟨h1, ?_⟩
  have hz : (s.heap.push o).objs.size = s.heap.objs.size + 1 := Heap.size_push ..
  show _ ∧ _
  rw [hz]
  have he : IsEnum ((s.heap.push o).push { cls := .type "enumerate", data := .fields #[.none, .bool false, .ref s.heap.objs.size, rawInt 0, .none, .none] }) (s.heap.objs.size + 1) s.heap.objs.size 0 .none := by
    have := Heap.get?_push_size (s.heap.push o) (o := { cls := .type "enumerate", data := .fields #[.none, .bool false, .ref s.heap.objs.size, rawInt 0, .none, .none] }) rfl
    rw [hz] at this
    exact this
  exact ⟨⟨_, he, rfl⟩, h _ he (Heap.get?_push_of_some _ (Heap.get?_push_size _ B.free)) (by rw [Heap.size_push, hz]) fun b o x => Heap.get?_push_of_some _ (Heap.get?_push_of_some _ x)⟩
theorem enumT_end {prog : Program} {w : World} {A : Around} {E : Value → Shared → Prop} {s : Shared} {e it a : Addr} {i : Int} {k : Nat} {items : Array Value} {old : Value} {Q : Option Value → Shared → Prop} (hh : A.handled = none)
    (he : IsEnum s.heap e it i old) (hit : s.heap.IsTupleIter it a k) (ht : s.heap.IsTuple a items) (hx : items[k]? = none) (hQ : ∀ h', Heap.ExtBut it s.heap h' → Q none { s with heap := h' }) : wpAny (model prog w) A (pyNext (.ref e)) Q E s := by
  have hT : s.TypeIs (.ref e) "enumerate" := ⟨_, he, rfl⟩
  unfold pyNext
  refine wpAny_bind (wpAny_attempt (wpAny_callSpecial?_slot (name := Str.ofString "__next__") hT F.slot_enumerate_next
    (wpAny_call_entry F.slot_enumerate_next hT F.entry_enumerate_next ?_ (F.args_enumerate_next_1 _))))
  show wpAny _ _ (field (.ref e) 2 >>= _) _ _ _
  refine wpAny_bind (wpAny_field he rfl (x := .ref it) rfl ?_)
  refine wpAny_bind (wpAny_nextOf_tuple_end (A := A.in1) hh hit ht hx fun h' x he' hx' => ?_)
  obtain ⟨o, ho, hc⟩ := hx'
  refine wpAny_bind (wpAny_isInstance (T := "StopIteration") (b := true) ⟨o, ho, hc⟩ isSubtype_stop ?_)
  exact wpAny_pure (hQ _ he')
/-- the tuple at a as it stands at each turn, each item in a new pair -/
def IteT (K : PySem.W.Frag) (a : Addr) : It :=
  ⟨fun i H => ∃ (xs : List V) (x : V), SqT K H a xs ∧ xs[i]? = some x, fun i H v H' => ∃ T x, v = .ref T ∧ H T = none ∧ H' = upd H T (.tup [.int (i : Nat), x]) ∧ ∀ xs, SqT K H a xs → xs[i]? = some x,
    fun i H => ∃ xs : List V, SqT K H a xs ∧ xs.length ≤ i⟩
theorem turn_enumT {P : Program} {w : World} {K : PySem.W.Frag} {elts : List Expr} {kk : Nat} {tpos : Pos} (a e it : Addr) :
    Turn P w K (.Tuple elts kk tpos) (IteT K a) [e, it] e (fun i h => (∃ old, IsEnum h e it ((i : Nat) : Int) old) ∧ h.IsTupleIter it a i ∧ e ≠ it ∧ a ≠ it ∧ a ≠ e) where
  mem := by simp
  obj := fun i h st b hb => by
    obtain ⟨⟨old, he⟩, ⟨o, ho, hc, hd⟩, _⟩ := st
    have e' : b = e ∨ b = it := by simpa using hb
    rcases e' with z | z
    · rw [z]; exact ⟨_, he, fun v q => nomatch q⟩
    · rw [z]; exact ⟨o, ho, fun v q => by rw [hd] at q; cases q⟩
  keep := fun i h h' st k => let ⟨⟨old, he⟩, hi, hne, h2, h3⟩ := st; ⟨⟨old, k e (by simp) _ he⟩, hi.at fun o q => k it (by simp) o q, hne, h2, h3⟩
  item := by
    intro X hP hw hK hc i pins s σ H E I hf st hg
    subst hP hw hK
    obtain ⟨⟨old, he⟩, hit, hne, hai, hae⟩ := st
    obtain ⟨xs, x, hq, hx⟩ := hg
    obtain ⟨its, rv, p, hz⟩ := I.tuple hq
    have p : s.heap.IsTuple a its.toArray := p
    obtain ⟨u, hu, ru⟩ := rv.get hx
    have hel : e < s.heap.objs.size := Heap.lt_size he
    have hil : it < s.heap.objs.size := by obtain ⟨_, q, _⟩ := hit; exact Heap.lt_size q
    have hlt : i < its.toArray.size := by
      have := (List.getElem?_eq_some_iff.mp hu).1
      simpa using this
    refine wpAny_pyNext_enum_itemD (n := its.toArray.size) (fp := [it, a]) (P := fun i v => its.toArray[i]? = some v) (St := fun i h => h.IsTupleIter it a i ∧ h.IsTuple a its.toArray)
      (Draws.tuple (A := X.A.in1) (show X.A.in1.handled = none from I.ok.hd hc) it a hai its.toArray) he ⟨hit, p⟩ hlt hne (by simp [hne, Ne.symm hae]) fun x' h' tk hP ho hit' hT hsz hk => ?_
    have ex : x' = u := by
      have h2 : its.toArray[i]? = some u := by simpa using hu
      rw [h2] at hP
      exact (Option.some.inj hP).symm
    subst ex
    refine ⟨_, rfl, wpAny_letOwnedTupleGo_enum (s := { s with heap := h', toks := tk + 1 }) ho fun h'' he' sb => ?_⟩
    have hT2 : h''.get? s.heap.objs.size = some { cls := .type "tuple", data := .seq #[.int i tk, x'] } := (sb.2 _ (Nat.ne_of_gt hel)).trans hT
    have new : ObjOk X.prog X.w (upd H s.heap.objs.size (.tup [.int (i : Nat), x])) h'' s.heap.objs.size (.tup [.int (i : Nat), x]) :=
      ⟨by show 2 ≤ sizeLine; decide, [.int i tk, x'], .cons ⟨_, rfl⟩ (.cons ru .nil), ⟨_, hT2, rfl, _, rfl⟩⟩
    have I1 : Inv X pins σ (upd H s.heap.objs.size (.tup [.int (i : Nat), x])) { s with heap := h'', toks := tk + 1 } :=
      I.turnedNew (ch := [e, it]) (fun b ob hb q => (sb.2 b (fun z => hb (by simp [z]))).trans (hk b ob (fun z => hb (by simp [z])) (fun z => hb (by simp [z])) q)) hf (Nat.le_refl _) new
    refine ⟨.ref s.heap.objs.size, _, I1, rfl, ⟨_, x, rfl, I.hok.fresh (Nat.le_refl _), rfl, fun ys hy => by rw [I.tuple_inj hy hq]; exact hx⟩, ⟨⟨x', ?_⟩, hit'.1.at fun o q => (sb.2 it (Ne.symm hne)).trans q, hne, hai, hae⟩, fun b hb => ?_⟩
    · have e1 : ((i + 1 : Nat) : Int) = (i : Int) + 1 := by omega
      rw [e1]
      exact he'
    · have hb' : b < s.heap.objs.size := by
        have e' : b = e ∨ b = it := by simpa using hb
        rcases e' with z | z
        · rw [z]; exact hel
        · rw [z]; exact hil
      rw [upd_ne (Nat.ne_of_lt hb')]
      exact (hf b hb).1
  done := by
    intro X hP hw hK hc i pins s σ H E I hf st hg
    subst hP hw hK
    obtain ⟨⟨old, he⟩, hit, hne, hai, hae⟩ := st
    obtain ⟨xs, hq, hx⟩ := hg
    obtain ⟨its, rv, p, hz⟩ := I.tuple hq
    have p : s.heap.IsTuple a its.toArray := p
    obtain ⟨f0, f1, f2, f3, f4, f5⟩ := hf it (by simp)
    have hl := rv.length
    have hn : its.toArray[i]? = none := by simp; omega
    exact enumT_end (I.ok.hd hc) he hit p hn fun h' eb => ⟨rfl, I.turned (t' := s.toks) (fun b o hb q => eb b o hb q) f0 f1 f3 f4 f5⟩
  self := fun A i s Q E st h => let ⟨⟨_, he⟩, _⟩ := st; wpAny_pyIter_enum he h
section
variable [KFrag]
def iEn (K : PySem.W.Frag) (ta : TA) : TI := fun σ H R => ta σ H fun vs H1 => ∃ a xs, vs = [.ref a] ∧ ((SqL K H1 a xs ∧ R (Ite K a) H1) ∨ (SqT K H1 a xs ∧ R (IteT K a) H1))
theorem pi_en {X : Cx} {e : Expr} {ta : TA} {p pos tpos : Pos} {elts : List Expr} {kk : Nat} (hg : Gl X "enumerate") (hm : X.mg "enumerate" = none) (ha : PA X [e] ta) (hs : starEach [e] X.env = [(false, eval e X.env)] := by rfl) :
    PI X (.Tuple elts kk tpos) (.Call (.Name "enumerate" p) [e] [] pos) (iEn X.K ta) := by
  refine ⟨fun pins s σ H R I h => ?_⟩
  refine Call_ (ld_blt I hg hm boot_enumerate (PyProof.Rows.callWith_type1 (thn (ha.run pos pins s σ H _ I h) fun us s1 ⟨vs, H1, I1, r1, q1⟩ => ?_) hs rfl))
  obtain ⟨a, xs, ex, q⟩ := q1
  subst ex
  cases r1 with
  | cons r rr =>
    cases rr
    cases r
    have fresh : ∀ b ∈ [s1.heap.objs.size + 1, s1.heap.objs.size], FpOk X pins H1 b := fun b hb => by
      have e' : b = s1.heap.objs.size + 1 ∨ b = s1.heap.objs.size := by simpa using hb
      have hle : s1.heap.objs.size ≤ b := by
        rcases e' with z | z
        · rw [z]; exact Nat.le_add_right _ _
        · rw [z]; exact Nat.le_refl _
      exact I1.fpOk hle (I1.hok.fresh hle)
    rcases q with ⟨hq, q⟩ | ⟨hq, q⟩
    · obtain ⟨its, rv, p', hz⟩ := I1.list hq
      refine call_enumerate_list p'.isList fun h' he hit hsz hk => wpAny_pyIter_enum he ?_
      exact ⟨_, _, _, _, H1, rfl, I1.kept (t' := s1.toks) hk, turn_enum a (s1.heap.objs.size + 1) s1.heap.objs.size, ⟨⟨.none, he⟩, hit, Nat.succ_ne_self _⟩, fresh, q⟩
    · obtain ⟨its, rv, p', hz⟩ := I1.tuple hq
      have p' : s1.heap.IsTuple a its.toArray := p'
      have la : a < s1.heap.objs.size := by obtain ⟨o, ho, _⟩ := id p'; exact Heap.lt_size ho
      refine call_enum1 (begins_tuple a its.toArray) p' fun h' he hit hsz hk => wpAny_pyIter_enum he ?_
      exact ⟨_, _, _, _, H1, rfl, I1.kept (t' := s1.toks) hk, turn_enumT a (s1.heap.objs.size + 1) s1.heap.objs.size, ⟨⟨.none, he⟩, ⟨_, hit, rfl, rfl⟩, Nat.succ_ne_self _, Nat.ne_of_lt la, Nat.ne_of_lt (Nat.lt_succ_of_lt la)⟩, fresh, q⟩
theorem walk_enumT {K : PySem.W.Frag} {a : Addr} {xs : List V} : Walk (IteT K a) xs.length (fun H => SqT K H a xs) (YPair (fun i => some (.int (i : Nat))) (fun i => xs[i]?)) := by
  refine ⟨fun i _ hi q => ⟨xs, xs[i], q, by simp [hi]⟩, fun _ q => ⟨xs, q, Nat.le_refl _⟩, fun i H v H' _ q y => ?_⟩
  obtain ⟨T, x, h1, h2, h3, h4⟩ := y
  exact ⟨T, .int (i : Nat), x, h1, h2, h3, rfl, h4 xs q⟩
theorem walk_zipT {K : PySem.W.Frag} {a b : Addr} {xs ys : List V} {n : Nat} (hn : n = min xs.length ys.length) : Walk (RZ.ItzT K a b) n (fun H => SqT K H a xs ∧ SqT K H b ys) (YPair (fun i => xs[i]?) (fun i => ys[i]?)) := by
  subst hn
  refine ⟨fun i _ hi q => ?_, fun _ q => ⟨xs, ys, q.1, q.2, by omega⟩, fun i H v H' _ q y => ?_⟩
  · have h1 : i < xs.length := by omega
    have h2 : i < ys.length := by omega
    exact ⟨xs, ys, xs[i], ys[i], q.1, q.2, by simp [h1], by simp [h2]⟩
  · obtain ⟨T, x, z, h1, h2, h3, h4, h5⟩ := y
    exact ⟨T, x, z, h1, h2, h3, h4 xs q.1, h5 ys q.2⟩
def enuD : Nat → List D → List D
  | _, [] => []
  | n, x :: r => .tuple [.int (n : Nat), x] :: enuD (n + 1) r
theorem enuD_len : ∀ {n : Nat} {ds : List D}, (enuD n ds).length = ds.length
  | _, [] => rfl
  | n, x :: r => by unfold enuD; rw [List.length_cons, List.length_cons, enuD_len]
theorem enuD_at : ∀ {n : Nat} {ds : List D} {i : Nat} {x : D}, ds[i]? = some x → (enuD n ds)[i]? = some (.tuple [.int ((n + i : Nat) : Int), x])
  | _, [], _, _, e => by simp at e
  | n, y :: r, 0, x, e => by simp at e; subst e; simp [enuD]
  | n, y :: r, i + 1, x, e => by
    have := enuD_at (n := n + 1) (ds := r) (i := i) (x := x) (by simpa using e)
    unfold enuD
    rw [List.getElem?_cons_succ, this]
    have : n + 1 + i = n + (i + 1) := by omega
    rw [this]
def zipD : List D → List D → List D
  | x :: r, y :: t => .tuple [x, y] :: zipD r t
  | _, _ => []
theorem zipD_len : ∀ {xs ys : List D}, (zipD xs ys).length = min xs.length ys.length
  | [], _ => by simp [zipD]
  | _ :: _, [] => by simp [zipD]
  | x :: r, y :: t => by
    have := zipD_len (xs := r) (ys := t)
    simp only [zipD, List.length_cons, this]
    omega
theorem zipD_at : ∀ {xs ys : List D} {i : Nat} {x y : D}, xs[i]? = some x → ys[i]? = some y → (zipD xs ys)[i]? = some (.tuple [x, y])
  | [], _, _, _, _, e, _ => by simp at e
  | _ :: _, [], _, _, _, _, e => by simp at e
  | a :: r, b :: t, 0, x, y, e, e2 => by simp at e e2; subst e; subst e2; simp [zipD]
  | a :: r, b :: t, i + 1, x, y, e, e2 => by
    have := zipD_at (xs := r) (ys := t) (i := i) (x := x) (y := y) (by simpa using e) (by simpa using e2)
    simpa [zipD] using this
theorem itr_enuL {K : PySem.W.Frag} {B : Addr → Prop} {μ : List Addr} {s : CS} {H : Hp} {a : Addr} {xs : List V} {ds : List D} (h : FL H (Av B μ s) a xs) (f : Fzs H (Av B μ s) xs ds) : ItR B μ s H (Ite K a) (enuD 0 ds) := by
  refine ⟨fun H => SqL K H a xs, YPair (fun i => some (.int (i : Nat))) (fun i => xs[i]?), ?_, fun H' A' k bt => .of (k.keep _ _ h.1 h.2), fun i H' A' v H'' k bt hi y => ?_⟩
  · rw [enuD_len, ← f.len]
    exact walk_enum
  · obtain ⟨T, x, y, rfl, hT, rfl, e1, e2⟩ := y
    cases e1
    obtain ⟨d, e3, e4⟩ := (f.kp k).getV e2
    refine ⟨same_upd hT, _, enuD_at e3, ?_⟩
    rw [Nat.zero_add]
    exact Fz.newT bt hT (.cons (.int _) (.cons e4 .nil))
theorem itr_enuT {K : PySem.W.Frag} {B : Addr → Prop} {μ : List Addr} {s : CS} {H : Hp} {a : Addr} {xs : List V} {ds : List D} (h : FT H (Av B μ s) a xs) (f : Fzs H (Av B μ s) xs ds) : ItR B μ s H (IteT K a) (enuD 0 ds) := by
  refine ⟨fun H => SqT K H a xs, YPair (fun i => some (.int (i : Nat))) (fun i => xs[i]?), ?_, fun H' A' k bt => .of (k.keep _ _ h.1 h.2), fun i H' A' v H'' k bt hi y => ?_⟩
  · rw [enuD_len, ← f.len]
    exact walk_enumT
  · obtain ⟨T, x, y, rfl, hT, rfl, e1, e2⟩ := y
    cases e1
    obtain ⟨d, e3, e4⟩ := (f.kp k).getV e2
    refine ⟨same_upd hT, _, enuD_at e3, ?_⟩
    rw [Nat.zero_add]
    exact Fz.newT bt hT (.cons (.int _) (.cons e4 .nil))
theorem itr_zipL {K : PySem.W.Frag} {B : Addr → Prop} {μ : List Addr} {s : CS} {H : Hp} {a b : Addr} {xs ys : List V} {ds es : List D} (h : FL H (Av B μ s) a xs) (f : Fzs H (Av B μ s) xs ds) (h2 : FL H (Av B μ s) b ys) (f2 : Fzs H (Av B μ s) ys es) : ItR B μ s H (Itz K a b) (zipD ds es) := by
  refine ⟨fun H => SqL K H a xs ∧ SqL K H b ys, YPair (fun i => xs[i]?) (fun i => ys[i]?), ?_, fun H' A' k bt => ⟨.of (k.keep _ _ h.1 h.2), .of (k.keep _ _ h2.1 h2.2)⟩, fun i H' A' v H'' k bt hi y => ?_⟩
  · exact walk_zip (by rw [zipD_len, f.len, f2.len])
  · obtain ⟨T, x, y, rfl, hT, rfl, e1, e2⟩ := y
    obtain ⟨d, e3, e4⟩ := (f.kp k).getV e1
    obtain ⟨d2, e5, e6⟩ := (f2.kp k).getV e2
    exact ⟨same_upd hT, _, zipD_at e3 e5, Fz.newT bt hT (.cons e4 (.cons e6 .nil))⟩
theorem itr_zipT {K : PySem.W.Frag} {B : Addr → Prop} {μ : List Addr} {s : CS} {H : Hp} {a b : Addr} {xs ys : List V} {ds es : List D} (h : FT H (Av B μ s) a xs) (f : Fzs H (Av B μ s) xs ds) (h2 : FT H (Av B μ s) b ys) (f2 : Fzs H (Av B μ s) ys es) : ItR B μ s H (RZ.ItzT K a b) (zipD ds es) := by
  refine ⟨fun H => SqT K H a xs ∧ SqT K H b ys, YPair (fun i => xs[i]?) (fun i => ys[i]?), ?_, fun H' A' k bt => ⟨.of (k.keep _ _ h.1 h.2), .of (k.keep _ _ h2.1 h2.2)⟩, fun i H' A' v H'' k bt hi y => ?_⟩
  · exact walk_zipT (by rw [zipD_len, f.len, f2.len])
  · obtain ⟨T, x, y, rfl, hT, rfl, e1, e2⟩ := y
    obtain ⟨d, e3, e4⟩ := (f.kp k).getV e1
    obtain ⟨d2, e5, e6⟩ := (f2.kp k).getV e2
    exact ⟨same_upd hT, _, zipD_at e3 e5, Fz.newT bt hT (.cons e4 (.cons e6 .nil))⟩
def enuW : List W → CS → R (List D)
  | [.d (.list ds)], s => .ok (enuD 0 ds) s
  | [.d (.tuple ds)], s => .ok (enuD 0 ds) s
  | _, _ => .bad
def zipW : List W → CS → R (List D)
  | [.d (.list a), .d (.list b)], s => .ok (zipD a b) s
  | [.d (.tuple a), .d (.tuple b)], s => .ok (zipD a b) s
  | _, _ => .bad
def fEnu (fs : En → CS → R (List W)) (ρ : En) (s : CS) : R (List D) := (fs ρ s).bind enuW
def fZip (fs : En → CS → R (List W)) (ρ : En) (s : CS) : R (List D) := (fs ρ s).bind zipW
section
variable {X : Cx} {T : TX} {Wx : WXc} {e e2 : Expr} {fs : En → CS → R (List W)} {p pos tpos : Pos} {elts : List Expr} {kk : Nat}
theorem di_enu (hg : Gl X "enumerate") (hm : X.mg "enumerate" = none) (ha : DA X T Wx [e] fs) (hs : starEach [e] X.env = [(false, eval e X.env)] := by rfl) : DI X T Wx (.Tuple elts kk tpos) (.Call (.Name "enumerate" p) [e] [] pos) (fEnu fs) :=
  PI_imp (pi_en hg hm ha hs) fun σ H Q ⟨B, μ, s, ρ, r, e, q⟩ => tD_bind r e q fun w s1 v μ1 H1 st1 r1 e1 rel1 q1 => by
    have rel1 : RWs B μ1 s1 H1 v w := rel1
    unfold enuW at q1
    split at q1
    · cases rel1 with
      | cons g t =>
        cases t
        have g : Fz H1 (Av B μ1 s1) _ (.list _) := g
        cases g with
        | @lst a xs _ h1 f1 => exact ⟨a, xs, rfl, .inl ⟨h1.sq, Fin.here (a := List D) q1 r1 (itr_enuL h1 f1)⟩⟩
    · cases rel1 with
      | cons g t =>
        cases t
        have g : Fz H1 (Av B μ1 s1) _ (.tuple _) := g
        cases g with
        | @tup a xs _ h1 f1 => exact ⟨a, xs, rfl, .inr ⟨h1.sq, Fin.here (a := List D) q1 r1 (itr_enuT h1 f1)⟩⟩
    · exact q1.elim
theorem di_zip (hg : Gl X "zip") (hm : X.mg "zip" = none) (ha : DA X T Wx [e, e2] fs) (hs : starEach [e, e2] X.env = (false, eval e X.env) :: starEach [e2] X.env := by rfl) (hpl : (backTo pos (starEach [e2] X.env)).any (·.1) = false := by rfl) :
    DI X T Wx (.Tuple elts kk tpos) (.Call (.Name "zip" p) [e, e2] [] pos) (fZip fs) :=
  PI_imp (RZ.pi_zipA hg hm ha hs hpl) fun σ H Q ⟨B, μ, s, ρ, r, e, q⟩ => tD_bind r e q fun w s1 v μ1 H1 st1 r1 e1 rel1 q1 => by
    have rel1 : RWs B μ1 s1 H1 v w := rel1
    unfold zipW at q1
    split at q1
    · cases rel1 with
      | cons g t =>
        cases t with
        | cons g2 t =>
          cases t
          have g : Fz H1 (Av B μ1 s1) _ (.list _) := g
          have g2 : Fz H1 (Av B μ1 s1) _ (.list _) := g2
          cases g with
          | @lst a xs _ h1 f1 =>
            cases g2 with
            | @lst b ys _ h2 f2 => exact ⟨a, b, xs, ys, rfl, .inl ⟨h1.sq, h2.sq, Fin.here (a := List D) q1 r1 (itr_zipL h1 f1 h2 f2)⟩⟩
    · cases rel1 with
      | cons g t =>
        cases t with
        | cons g2 t =>
          cases t
          have g : Fz H1 (Av B μ1 s1) _ (.tuple _) := g
          have g2 : Fz H1 (Av B μ1 s1) _ (.tuple _) := g2
          cases g with
          | @tup a xs _ h1 f1 =>
            cases g2 with
            | @tup b ys _ h2 f2 => exact ⟨a, b, xs, ys, rfl, .inr ⟨h1.sq, h2.sq, Fin.here (a := List D) q1 r1 (itr_zipT h1 f1 h2 f2)⟩⟩
    · exact q1.elim
end
end
end DL
namespace DL
open PySem PySem.Spec PyProof.Rows L2
theorem lt64 {a c : Nat} (h : a + 64 < c) : a < c := by omega
/-! ### t < u, numbers or tuples of numbers -/
def intsD : List D → Option (List Int)
  | [] => some []
  | .int i :: r => match intsD r with
    | some l => some (i :: l)
    | none => none
  | _ :: _ => none
def ltA : D → D → Option D
  | .int i, .int j => some (.bool (decide (i < j)))
  | .tuple a, .tuple b => match intsD a, intsD b with
    | some n, some m => some (.bool (HT.lexLt n m))
    | _, _ => none
  | _, _ => none
theorem ints_fz {H : Hp} {A : Addr → Prop} : ∀ {xs : List V} {ds : List D} {ns : List Int}, Fzs H A xs ds → intsD ds = some ns → xs = ns.map V.int
  | _, _, _, .nil, e => by cases e; rfl
  | _, d :: ds, ns, .cons h t, e => by
    cases h with
    | int i =>
      unfold intsD at e
      cases z : intsD ds with
      | none => rw [z] at e; cases e
      | some l => rw [z] at e; cases e; rw [List.map_cons, ints_fz t z]
    | _ => cases e
section
variable {X : Cx}
theorem dop_ltA (hu : X.A.units < cLine) : DOp X (compareOp .Lt) ltA := by
  intro pins s σ H x y v u Q I rx ry h
  obtain ⟨A, dx, dy, z, bt, fx, fy, e, q⟩ := h
  cases fx with
  | int i =>
    cases fy with
    | int j => cases e; exact op_lt pins s σ H _ _ v u Q I rx ry ⟨i, j, rfl, rfl, q _ _ (Same.refl _) (.bl _)⟩
    | _ => cases e
  | @tup a xs ds h1 f1 =>
    cases fy with
    | @tup b ys es h2 f2 =>
      simp only [ltA] at e
      cases z1 : intsD ds with
      | none => rw [z1] at e; cases e
      | some n =>
        cases z2 : intsD es with
        | none => rw [z1, z2] at e; cases e
        | some m =>
          rw [z1, z2] at e
          cases e
          have e1 := ints_fz f1 z1
          have e2 := ints_fz f2 z2
          subst e1
          subst e2
          exact op_ltT hu pins s σ H _ _ v u Q I rx ry ⟨a, b, n, m, rfl, rfl, h1.sq, h2.sq, q _ _ (Same.refl _) (.bl _)⟩
    | _ => cases e
  | _ => cases fy <;> cases e
end
section
variable [KFrag]
/-! ### a def that may raise, called with data alone -/
def pureX (h : List W → CS → R W) (ws : List W) (s : CS) : R W := match h ws [] with
  | .ok (.d x) _ => .ok (.d x) s
  | .exc e _ => .exc e s
  | _ => .bad
def fCallX (m : Nat) (h : List W → CS → R W) (fs : En → CS → R (List W)) (ρ : En) (s : CS) : R W := (fs ρ s).bind fun ws s => if ws.length = m then (match allD ws with
  | some _ => pureX h ws s
  | none => .bad) else .bad
theorem ExV.mono {T : TX} {A A' : Addr → Prop} {H : Hp} {e : Exn} {c : Value} {d : Option Addr} (k : ∀ a, A' a → A a) (h : ExV T A H e c d) : ExV T A' H e c d :=
  ⟨h.1, let ⟨dd, v, a, b, f⟩ := h.2; ⟨dd, v, a, b, f.mono k⟩⟩
theorem pureX_fin {T : TX} {Wx : WXc} {B : Addr → Prop} {μ : List Addr} {s : CS} {H : Hp} {σ σ' : L2.St} {Q : VK} {h : List W → CS → R W} {ws : List W} (r : SR B μ s H) (q : Fin T Wx B μ s H σ Q (pureX h ws s)) :
    Fin T (fun c d _ H' => Wx c d σ H') (Av B μ s) [] [] H σ' Q (h ws []) := by
  unfold pureX at q
  cases z : h ws [] with
  | bad => simp only [z] at q; exact q.elim
  | exc e s1 =>
    simp only [z] at q
    intro μ' H' c d st sr ex
    have k : Same H H' := fun a o e => st.keep a o e lv_nil
    exact q μ H' c d (Stp.same k) (r.same k) (ex.mono fun a z => .inl z)
  | ok w s1 =>
    cases w with
    | c n => simp only [z] at q; exact q.elim
    | sc n => simp only [z] at q; exact q.elim
    | d y =>
      simp only [z] at q
      intro v μ' H' st sr rel
      have rel : Fz H' (Av (Av B μ s) μ' s1) v y := rel
      exact Fin.use (a := W) (w := .d y) q (fun a o e => st.keep a o e lv_nil) r (Fz.mono (fun a z => .inl z) rel)
section
variable {X : Cx} {T : TX} {Wx : WXc} {f : Addr} {fd : FuncData} {ps : List Str} {k m : Nat} {h : List W → CS → R W} {x : Str} {p pos : Pos} {e : Expr} {es : List Expr} {fs : En → CS → R (List W)}
theorem de_callX (tk : Takes X Wx) (F : FnOk X.prog X.w X.K X.mg X.base (L2.CX X.prog X.w) k f fd ps (spD T m h)) (hr : Room k X.A) (hg : Gl X x) (hm : X.mg x = some (.ref f)) (hk : PySem.W.keepIn X.K (.ref f) = true) (hb : Binds X.K fd ps [])
    (ha : DA X T Wx (e :: es) fs) (hdb : (x == ("__debug__" : Str)) = false := by decide) (he : starEach (e :: es) X.env = (false, eval e X.env) :: starEach es X.env := by rfl) (hpl : (backTo pos (starEach es X.env)).any (·.1) = false := by rfl) :
    DE X T Wx (.Call (.Name x p) (e :: es) [] pos) (fCallX m h fs) := PE_imp (pe_callS F hr hg hm hk hb (fun σ => passAt tk σ) ha hdb he hpl) fun σ H Q ⟨B, μ, s, ρ, r, e, q⟩ =>
  tD_bind r e q fun w s1 v μ1 H1 st1 r1 e1 rel1 q1 => by
    split at q1
    · rename_i hl
      have rel1 : RWs B μ1 s1 H1 v w := rel1
      split at q1
      · rename_i ds hd
        exact ⟨by rw [rel1.len]; exact hl, Av B μ1 s1, [], [], w, σ, r1.pure, allD_rws (fun a z => z.elim id fun z => absurd z lv_nil) hd rel1, pureX_fin r1 q1⟩
      · exact q1.elim
    · exact q1.elim
end
/-! ### raise C(x) -/
def tMk (fld : Str) (C : Addr) (ta : TA) : L2.St → Hp → XK → Prop := fun σ H Q => ta σ H fun vs H1 => ∃ v, vs = [v] ∧ ∀ d, H1 d = none → Q (.ref C) (some d) (upd H1 d (.xd [(fld, v)]))
def gRaise (c : Nat) (fs : En → CS → R (List W)) (ρ : En) (s : CS) : RT := (fs ρ s).toT ρ fun ws s => match ws with
  | [.d x] => .exc ⟨c, x⟩ ρ s
  | _ => .bad
theorem ds_raise {X : Cx} {T : TX} {Wx : WXc} {st : Stmt} {fs : En → CS → R (List W)} (c : Nat) {C : Addr} {fld : Str} (hT : T c = (C, fld)) (h : PS X st (fun _ σ H => tMk fld C (tD T Wx fs) σ H fun cls d H' => Wx cls d σ H')) : DS X T Wx st (gRaise c fs) :=
  PS_imp h fun D σ H ⟨B, μ, s, ρ, r, e, q⟩ => tD_bindT r e q fun w s1 v μ1 H1 st1 r1 e1 rel1 q1 => by
    have rel1 : RWs B μ1 s1 H1 v w := rel1
    split at q1
    · cases rel1 with
      | cons g t =>
        cases t
        have g : Fz H1 (Av B μ1 s1) _ _ := g
        refine ⟨_, rfl, fun d hd => q1 σ μ1 _ _ _ (Stp.same (same_upd hd)) (r1.same (same_upd hd)) (e1.stp (Stp.same (same_upd hd))) ⟨by rw [hT], d, _, rfl, ?_, g.same (same_upd hd)⟩⟩
        rw [hT]
        exact upd_same
    · exact q1.elim
/-! ### except C as e -/
def rst (i : Nat) : RT → RT
  | .nx ρ s => .nx (ρ.set i none) s
  | .bk ρ s => .bk (ρ.set i none) s
  | .ct ρ s => .ct (ρ.set i none) s
  | .rt w s => .rt w s
  | _ => .bad
def gTry (i cs : Nat) (g : En → CS → RT) (h : D → En → CS → RT) (ρ : En) (s : CS) : RT := match g ρ s with
  | .exc e ρ1 s1 => if e.cls = cs ∧ i < ρ1.length then rst i (h e.arg (ρ1.set i none) s1) else .bad
  | r => r
theorem ER.unset {B : Addr → Prop} {μ : List Addr} {s : CS} {H : Hp} {σ : L2.St} {ρ : En} (h : ER B μ s H σ ρ) (i : Nat) (o : Option V) : ER B μ s H (σ.set i o) (ρ.set i none) := by
  refine ⟨by rw [List.length_set, List.length_set]; exact h.len, fun j u e => ?_⟩
  by_cases hij : i = j
  · subst hij
    rw [List.getElem?_set] at e
    simp only [if_true] at e
    split at e <;> cases e
  · rw [List.getElem?_set_ne hij] at e
    rw [List.getElem?_set_ne hij]
    exact h.at_ j u e
/-- the suite's wishes: the exception x in slot i, at a -/
def tSu (T : TX) (cs i : Nat) (a : Addr) (cls : Value) (d : Option Addr) (h : D → En → CS → RT) : TS := fun D σ H => ∃ B μ s ρ x, SR B μ s H ∧ ER B μ s H σ ρ ∧ σ[i]? = some (some (.ref a)) ∧ ExV T (Av B μ s) H ⟨cs, x⟩ cls d ∧ FinT T Wx0 B μ s H D (h x ρ s)
def tXs {a b : Type} [Rp a b] (T : TX) (cs i : Nat) (ad : Addr) (cls : Value) (d : Option Addr) (f : D → En → CS → R a) : L2.St → Hp → (b → Hp → Prop) → Prop := fun σ H Q =>
  ∃ B μ s ρ x, SR B μ s H ∧ ER B μ s H σ ρ ∧ σ[i]? = some (some (.ref ad)) ∧ ExV T (Av B μ s) H ⟨cs, x⟩ cls d ∧ Fin T Wx0 B μ s H σ Q (f x ρ s)
theorem FinT.rst {T : TX} {Wx : WXc} {B : Addr → Prop} {μ : List Addr} {s : CS} {H : Hp} {D : Ends} {i : Nat} {r : RT} (q : FinT T Wx B μ s H D (rst i r)) :
    FinT T Wx0 B μ s H { nx := fun σ' H' => D.nx (σ'.set i none) H', rt := D.rt, bk := fun σ' H' => D.bk (σ'.set i none) H', ct := fun σ' H' => D.ct (σ'.set i none) H' } r := by
  cases r with
  | nx ρ t => exact fun σ' m h1 b c d => q _ m h1 b c (d.unset i none)
  | rt w t => exact q
  | bk ρ t => exact fun σ' m h1 b c d => q _ m h1 b c (d.unset i none)
  | ct ρ t => exact fun σ' m h1 b c d => q _ m h1 b c (d.unset i none)
  | exc e ρ t => exact q.elim
  | bad => exact q
theorem ds_try {X : Cx} {T : TX} {Wx : WXc} {x n : Str} {i cs : Nat} {C : Addr} {fld : Str} {body suite : List Stmt} {b₀ : Stmt} {np pos pos' : Pos} {g : En → CS → RT} {h : D → En → CS → RT}
    (hT : T cs = (C, fld)) (hx : PySem.W.exmOne X.K (.ref C) (.ref C) = some true)
    (hs : X.stack = X.env :: X.outer) (hf : X.env.frame = some X.env.locals) (hN : X.N.Nodup) (hi : X.N[i]? = some n) (hln : X.env.kindOf n = some .local) (hc : Names X x (.ref C)) (tk : Takes X Wx)
    (hb : ∀ (W : WXc) (pn : List (Addr × Obj)) (xe : Value → Shared → Prop), Takes (X.tr pn xe) W → PassesOwn (model X.prog X.w) X.A X.env xe → DSs (X.tr pn xe) T W body g)
    (hsu : ∀ (a : Addr) (oe : Obj) (cls : Value) (d : Option Addr) (pn : List (Addr × Obj)), Zc cls d oe → (∃ vs, oe.data = .fields vs) → PSs (X.suite a ((a, oe) :: pn)) (b₀ :: suite) (tSu T cs i a cls d h)) :
    DS X T Wx (.Try body [.ExceptHandler (some (.Name x np)) (some n) (b₀ :: suite) pos'] [] [] pos) (gTry i cs g h) :=
  PS_imp (ps_try_as (tb := fun W => tT T W g) (ts := fun a cls d => tSu T cs i a cls d h) (Wout := Wx) hs hf hN hi hln hc tk hb hsu) fun D σ H ⟨B, μ, s, ρ, r, e, q⟩ => by
    refine ⟨B, μ, s, ρ, r, e, ?_⟩
    unfold gTry at q
    cases z : g ρ s with
    | exc x ρ1 s1 =>
      simp only [z] at q
      split at q
      · rename_i hcl
        intro σ1 μ1 H1 c d st r1 e1 ex
        refine ⟨true, ?_, fun _ a ha => ⟨B, μ1, s1, ρ1.set i none, x.arg, r1, e1.unset i _, ?_, hcl.1 ▸ ex, (FinT.stp st q).rst⟩, fun z => Bool.noConfusion z⟩
        · rw [ex.1, hcl.1, hT]
          exact hx
        · exact List.getElem?_set_self (by rw [e1.len]; exact hcl.2)
      · exact q.elim
    | nx ρ1 s1 => simp only [z] at q; exact q
    | rt w s1 => simp only [z] at q; exact q
    | bk w s1 => simp only [z] at q; exact q
    | ct w s1 => simp only [z] at q; exact q
    | bad => simp only [z] at q; exact q
/-! the suite -/
theorem ExV.stp {T : TX} {B : Addr → Prop} {μ μ' : List Addr} {s s' : CS} {H H' : Hp} {e : Exn} {c : Value} {d : Option Addr} (r : SR B μ s H) (st : Stp μ s H μ' s' H') (h : ExV T (Av B μ s) H e c d) : ExV T (Av B μ' s') H' e c d := by
  obtain ⟨h1, dd, v, hd, hx, f⟩ := h
  refine ⟨h1, dd, v, hd, st.keep dd _ hx fun ⟨n, cl, e1, e2, ne⟩ => ?_, f.kp st.kp⟩
  have q := r.cell n dd cl e1 e2
  cases cl with
  | dead => exact ne rfl
  | lst ds =>
    obtain ⟨xs, e, _⟩ := q
    rw [hx] at e
    cases e
section
variable {a b c d : Type} [Rp a b] [Rp c d] {T : TX} {B : Addr → Prop} {μ μ' : List Addr} {s s' : CS} {H H' : Hp} {σ : L2.St} {ρ : En} {Qc : d → Hp → Prop} {cs i : Nat} {ad : Addr} {cls : Value} {dx : Option Addr}
theorem tX_bind {x : D} {f : D → En → CS → R a} {g : a → CS → R c} {k : b → Hp → Prop} (r : SR B μ s H) (e : ER B μ s H σ ρ) (hσ : σ[i]? = some (some (.ref ad))) (hx : ExV T (Av B μ s) H ⟨cs, x⟩ cls dx) (q : Fin T Wx0 B μ s H σ Qc ((f x ρ s).bind g))
    (h : ∀ w s1 v μ1 H1, Stp μ s H μ1 s1 H1 → SR B μ1 s1 H1 → ER B μ1 s1 H1 σ ρ → ExV T (Av B μ1 s1) H1 ⟨cs, x⟩ cls dx → Rp.rel B μ1 s1 H1 v w → Fin T Wx0 B μ1 s1 H1 σ Qc (g w s1) → k v H1) : tXs T cs i ad cls dx f σ H k := by
  refine ⟨B, μ, s, ρ, x, r, e, hσ, hx, ?_⟩
  cases z : f x ρ s with
  | ok w s1 =>
    rw [z] at q
    intro v μ1 H1 st1 r1 rel
    exact h w s1 v μ1 H1 st1 r1 (e.stp st1) (hx.stp r st1) rel (Fin.stp st1 q)
  | exc y s1 => rw [z] at q; exact q
  | bad => rw [z] at q; exact q
theorem tX_bindT {x : D} {f : D → En → CS → R a} {g : a → CS → RT} {k : b → Hp → Prop} {D : Ends} (r : SR B μ s H) (e : ER B μ s H σ ρ) (hσ : σ[i]? = some (some (.ref ad))) (hx : ExV T (Av B μ s) H ⟨cs, x⟩ cls dx) (q : FinT T Wx0 B μ s H D ((f x ρ s).toT ρ g))
    (h : ∀ w s1 v μ1 H1, Stp μ s H μ1 s1 H1 → SR B μ1 s1 H1 → ER B μ1 s1 H1 σ ρ → ExV T (Av B μ1 s1) H1 ⟨cs, x⟩ cls dx → Rp.rel B μ1 s1 H1 v w → FinT T Wx0 B μ1 s1 H1 D (g w s1) → k v H1) : tXs T cs i ad cls dx f σ H k := by
  refine ⟨B, μ, s, ρ, x, r, e, hσ, hx, ?_⟩
  cases z : f x ρ s with
  | ok w s1 =>
    rw [z] at q
    intro v μ1 H1 st1 r1 rel
    exact h w s1 v μ1 H1 st1 r1 (e.stp st1) (hx.stp r st1) rel (FinT.stp st1 q)
  | exc y s1 => rw [z] at q; exact fun μ1 H1 c d st r1 ex => q σ μ1 H1 c d st r1 (e.stp st) ex
  | bad => rw [z] at q; exact q
end
section
variable {X : Cx} {T : TX} {cs i : Nat} {ad : Addr} {cls : Value} {dx : Option Addr} {e : Expr} {es : List Expr} {f : D → En → CS → R W} {fs : D → En → CS → R (List W)} {pos : Pos}
abbrev XE1 (X : Cx) (T : TX) (cs i : Nat) (ad : Addr) (cls : Value) (dx : Option Addr) (e : Expr) (f : D → En → CS → R W) : Prop := PE X e (tXs T cs i ad cls dx f)
abbrev XA1 (X : Cx) (T : TX) (cs i : Nat) (ad : Addr) (cls : Value) (dx : Option Addr) (e : List Expr) (f : D → En → CS → R (List W)) : Prop := PA X e (tXs T cs i ad cls dx f)
theorem xe_of {g : En → CS → R W} (h : DE X T Wx0 e g) : XE1 X T cs i ad cls dx e (fun _ => g) := PE_imp h fun σ H Q ⟨B, μ, s, ρ, x, r, e, _, _, q⟩ => ⟨B, μ, s, ρ, r, e, q⟩
/-- e.f, e the slot i -/
def tBy (fld : Str) (C : Addr) (a : Addr) (cls : Value) (d : Option Addr) (te : TE) : TE := fun σ H Q => te σ H fun x H1 => x = .ref a ∧ cls = .ref C ∧ ∃ (dd : Addr) (v : V), d = some dd ∧ H1 dd = some (.xd [(fld, v)]) ∧ Q v H1
def fX (x : D) (_ : En) (s : CS) : R W := .ok (.d x) s
theorem xe_by {C : Addr} {fld : Str} (hT : T cs = (C, fld)) (h : PE X e (tBy fld C ad cls dx (tVar i))) : XE1 X T cs i ad cls dx e fX := PE_imp h fun σ H Q ⟨B, μ, s, ρ, x, r, e, hσ, hx, q⟩ => by
  obtain ⟨h1, dd, v, hd, hy, f⟩ := hx
  simp only [hT] at h1 hy
  exact ⟨.ref ad, hσ, rfl, h1, dd, v, hd, hy, q v μ H Stp.refl r f⟩
theorem xa_nil : XA1 X T cs i ad cls dx [] (fun _ => fNil) := PA_imp pa_nil fun σ H Q ⟨B, μ, s, ρ, x, r, e, _, _, q⟩ => Fin.here (a := List W) (w := []) q r RWs.nil
theorem xa_cons (h1 : XE1 X T cs i ad cls dx e f) (h2 : XA1 X T cs i ad cls dx es fs) (he : starEach (e :: es) X.env = (false, eval e X.env) :: starEach es X.env := by rfl) : XA1 X T cs i ad cls dx (e :: es) (fun x => fCons (f x) (fs x)) :=
  PA_imp (pa_cons h1 h2 he) fun σ H Q ⟨B, μ, s, ρ, x, r, e, hσ, hx, q⟩ => tX_bind r e hσ hx q fun w s1 v μ1 H1 _ r1 e1 x1 rel1 q1 => tX_bind r1 e1 hσ x1 q1 fun w2 s2 v2 μ2 H2 st2 r2 _ _ rel2 q2 =>
    Fin.here (a := List W) q2 r2 (RWs.cons (Rp.stp (a := W) (b := V) st2 rel1) rel2)
theorem xe_lst (h : XA1 X T cs i ad cls dx es fs) : XE1 X T cs i ad cls dx (.List es pos) (fun x => fN lstD (fs x)) := PE_imp (pe_lst h) fun σ H Q ⟨B, μ, s, ρ, x, r, e, hσ, hx, q⟩ =>
  tX_bind r e hσ hx q fun w s1 v μ1 H1 _ r1 e1 x1 rel1 q1 => by
    obtain ⟨A, ds, z, bt, fz, e, q⟩ := liftN_use r1 rel1 q1
    unfold lstD at e
    split at e
    · rename_i hl
      cases e
      exact ⟨by rw [fz.len, line_eq]; exact hl, fun p hp => q _ _ (same_upd hp) (Fz.newL bt hp fz)⟩
    · cases e
theorem xs_ret (h : XE1 X T cs i ad cls dx e f) : PSs X [.Return (some e) pos] (tSu T cs i ad cls dx (fun x => gRet (f x))) := PSs_imp (pss_one (ps_ret h)) fun D σ H ⟨B, μ, s, ρ, x, r, e, hσ, hx, q⟩ =>
  tX_bindT r e hσ hx q fun w s1 v μ1 H1 _ r1 e1 x1 rel1 q1 => q1 v μ1 H1 Stp.refl r1 rel1
end
end
end DL
namespace PySem
namespace Er_InvalidRules
open PySem.W PySem.Calls PyProof.Rows PySem.HandSPX
/-! ### the text of __init__ -/
def iA (p1 p2 : Pos) : Arguments := { posonlyargs := [], args := [{ arg := "self", annotation := none, pos := p1 }, { arg := "index", annotation := none, pos := p2 }], vararg := none, kwonlyargs := [], kw_defaults := [], kwarg := none, defaults := [] }
def iB (q1 q2 q3 q4 : Pos) : List Stmt := [.Assign [.Attribute (.Name "self" q1) "index" q2] (.Name "index" q3) q4]
def iS : Scope := { kind := .function, names := [(PySem.Str.ofString "self", .local), (PySem.Str.ofString "index", .local)], isGenerator := false, isCoroutine := false, more := [] }
/-- what the written part says of Low, at C, and of its __init__, at fI -/
structure LowTxt (K : Frag) (mg : Str → Option Value) (C fI : Addr) : Prop where
  gC : mg "InvalidRules" = some (.ref C)
  cls : ∃ nm q N bs bm sn sub ab col dd k0 k1 k2 k3 k5, K.lookup C = some (excClassObj nm q C N bs bm true sn sub ab col dd k0 k1 k2 k3 k5 "ValueError.__new__") ∧ refsVE bm = true
  sa : findIn K (.ref C) "__setattr__" = some (some (.builtin "object.__setattr__"))
  ga : findIn K (.ref C) "__getattribute__" = some (some (.builtin "BaseException.__getattribute__"))
  gg : findIn K (.ref C) "__getattr__" = some none
  noN : findIn K (.ref C) "index" = some none
  iC : findIn K (.ref C) "__init__" = some (some (.ref fI))
  tC : typeIn K (.ref fI) = some (.type "function")
  kC : keepIn K (.ref C) = true
  exC : subIn K (.ref C) (.type "BaseException") = some true
  tyC : typeIn K (.ref C) = some (.type "type")
  hdC : hasDictIn K C = true
  te : exmOne K (.ref C) (.ref C) = some true
  fn : ∃ (oc : Value) (od : Option Addr) (doc pm : Value) (an : Option Addr) (cdv ct : Value) (osl : Array (Option Value)) (p1 p2 q1 q2 q3 q4 : Pos),
    K.lookup fI = some ⟨oc, od, .func (fnOf "__init__" "InvalidRules.__init__" (iA p1 p2) (iB q1 q2 q3 q4) iS .none .none doc pm an cdv ct), osl⟩ ∧ codeIn K cdv "InvalidRules.__init__" = true
theorem one_size (v : Value) : [v].length ≤ sizeLine := by
  rw [sizeLine_eq]
  exact (by decide : 1 ≤ 16777216)
theorem kept_but {K : Frag} {h h' : Heap} {x : Addr} (X : K.In h) (hx : K.lookup x = none) (k : ∀ b o, b ≠ x → h.get? b = some o → h'.get? b = some o) : K.In h' := fun a o e =>
  k a o (fun z => by rw [z, hx] at e; cases e) (X a o e)
theorem ldC {M : Model} {s : Shared} {name : Str} {scope : Scope} {L a : Addr} {cd : Value} {m : Str → Option Value} {x : Str} {pos : Pos} {v : Value} {Q : Value → Shared → Prop} {A : Around} {E : Value → Shared → Prop} (hn : s.heap.Ns L m) (hv : m x = some v) (h : Q v s)
    (hk : scope.kind = .function := by rfl) (hl : (envOfC name scope L a cd).kindOf x = some .local := by rfl) (hd : (x == ("__debug__" : Str)) = false := by decide) :
    wpAny M A (eval (.Name x pos) (envOfC name scope L a cd)) Q E s := wpAny_Name (wpAny_loadName_local hk hl hn hv h) hd
/-- what __init__ leaves of a fresh exception at x -/
structure InitEnd (h h' : Heap) (x C dx t1 : Addr) (v : Value) : Prop where
  keep : ∀ b o, b ≠ x → h.get? b = some o → h'.get? b = some o
  obj : h'.get? x = some { cls := .ref C, dict := some dx, data := .fields #[.ref t1, .none, .none, .none, .bool false, .none] }
  dbig : h.objs.size ≤ dx
  dne : dx ≠ x
  ns : h'.Ns1 dx (fun y => if y = "index" then some v else none)
/-- a made Low -/
structure OwnMade (h h' : Heap) (e C d : Addr) (v : Value) : Prop where
  keep : ∀ b o, h.get? b = some o → h'.get? b = some o
  new : h.objs.size ≤ e
  obj : ∃ oe vs, h'.get? e = some oe ∧ oe.cls = .ref C ∧ oe.dict = some d ∧ oe.data = .fields vs ∧ vs[1]? = some .none
  dbig : h.objs.size ≤ d
  dne : d ≠ e
  ns : h'.Ns1 d (fun y => if y = "index" then some v else none)
section
variable {prog : Program} {w : World} {A : Around} {E : Value → Shared → Prop} {R : Result → Shared → Prop} {s : Shared} {K : Frag} {mg : Str → Option Value} {C fI : Addr}
theorem low_init (T : LowTxt K mg C fI) {x t0 : Addr} {v : Value} (X : K.In s.heap) (hlim : s.heap.NoLimit) (hx : s.heap.get? x = some (excO C t0)) (hnx : K.lookup x = none) (hroom : A.depth < recursionLimit)
    (hq : ∀ h' tk dx, InitEnd s.heap h' x C dx t0 v → R (.ok (.ret .none)) { s with heap := h', toks := tk }) :
    codeAny (model prog w) A (.call (.ref fI) ⟨[.ref x, v], []⟩) R s := by
  obtain ⟨oc, od, doc, pm, an, cdv, ct, osl, p1, p2, q1, q2, q3, q4, ho, hcd⟩ := T.fn
  obtain ⟨nm, q, N, bs, bm, sn, sub, ab, col, dd, k0, k1, k2, k3, k5, hC, hbm⟩ := T.cls
  have hcl : clsIn K C = some { name := nm, bases := bs, mro := .ref C :: bm, ns := N, qualname := q, hasDict := true, slotNames := sn, subclasses := sub, abstract := ab, collection := col, hasDel := false } := by unfold clsIn; rw [hC] <;> rfl
  refine Att.call_fn (binds := [("self", .ref x), ("index", v)]) X hlim ho hcd hroom (BindsTo.of_eq (by first | rfl | with_unfolding_all rfl)) (by first | rfl | decide | with_unfolding_all rfl) (fun s₁ IC => ?_) rfl rfl rfl
  obtain ⟨h₁, tk₁, rfl⟩ := IC.toInCall.same
  have k : ∀ b o, s.heap.get? b = some o → h₁.get? b = some o := IC.toInCall.keep
  have hn := IC.toInCall.ns
  have hxL : s.heap.objs.size ≠ x := Nat.ne_of_gt (Heap.lt_size hx)
  have X₁ : K.In h₁ := X.keeps k
  have hx₁ := k _ _ hx
  -- self.by = by
  show wpAny _ _ (execs _ _) _ _ _
  refine wpAny_execs_cons (plainObj_wpAny_Assign_Attribute ?_)
  refine ldC (v := v) hn (by first | rfl | with_unfolding_all rfl | kernel_rfl) (ldC (v := .ref x) hn (by first | rfl | with_unfolding_all rfl | kernel_rfl) ?_)
  refine set_plain X₁ (ox := excO C t0) (od := none) ⟨hx₁, rfl, rfl, trivial⟩ T.sa ?_
  refine exc_osa X₁ hx₁ hcl (show refsVE (.ref C :: bm) = true from hbm) rfl T.noN (fun h₃ tk₃ dx k₃ dn dne hx₃ hn₃ => ?_)
  show wpAny _ _ (execs _ _) _ _ _
  have z : s.heap.objs.size < h₁.objs.size := hn.lt
  exact wpAny_execs_nil (hq h₃ tk₃ dx ⟨fun b o hb e => k₃ b o hb (k b o e), hx₃, Nat.le_of_lt (Nat.lt_of_lt_of_le z dn), dne, hn₃⟩)
theorem low_made (T : LowTxt K mg C fI) {v : Value} (X : K.In s.heap) (hlim : s.heap.NoLimit) (hroom : A.depth + 1 < recursionLimit)
    (hq : ∀ h' tk e d, OwnMade s.heap h' e C d v → R (.ok (.ret (.ref e))) { s with heap := h', toks := tk }) :
    codeAny (model prog w) A (.call (.ref C) ⟨[v], []⟩) R s := by
  obtain ⟨nm, q, N, bs, bm, sn, sub, ab, col, dd, k0, k1, k2, k3, k5, hC, hbm⟩ := T.cls
  obtain ⟨hp, g, dr, tk, os⟩ := s
  have k : ∀ b o, hp.get? b = some o → ((hp.push (kdv_tup [v])).push (excO C hp.objs.size)).get? b = some o := fun b o e => Heap.get?_push_of_some _ (Heap.get?_push_of_some _ e)
  have hget : ((hp.push (kdv_tup [v])).push (excO C hp.objs.size)).get? (hp.objs.size + 1) = some (excO C hp.objs.size) := by heap_get
  have hnx : K.lookup (hp.objs.size + 1) = none := by
    cases e : K.lookup (hp.objs.size + 1) with
    | none => rfl
    | some o =>
      have z : hp.get? (hp.objs.size + 1) = some o := X _ _ e
      exact absurd (Nat.lt_of_succ_lt (Heap.lt_size z)) (Nat.lt_irrefl _)
  refine call_own F.excBase_ValueError (fun X => refsVE_contains X bm hbm) (X _ _ hC) (looks_findIn X T.iC) (fun self => bind_fn X self T.tC) (one_size v) ?_
  refine low_init (s := ⟨(hp.push (kdv_tup [v])).push (excO C hp.objs.size), g, dr, tk, os⟩) T (X.keeps k) (hlim.keeps k) hget hnx ?_ fun h' tk' dx ⟨k', hx, dn, dne, hns⟩ => ?_
  · show A.depth + 1 < recursionLimit
    exact hroom
  · have old : ∀ b o, hp.get? b = some o → h'.get? b = some o := fun b o e => k' b o (Nat.ne_of_lt (Nat.lt_succ_of_lt (Heap.lt_size e))) (k b o e)
    have z : hp.objs.size + 1 + 1 ≤ dx := by
      first
        | (simpa only [Heap.size_push] using dn)
        | exact dn
        | (have q := dn; rw [Heap.size_push, Heap.size_push] at q; exact q)
    exact ⟨rfl, hq h' tk' (hp.objs.size + 1) dx ⟨old, Nat.le_succ _, ⟨_, _, hx, rfl, rfl, rfl, rfl⟩, Nat.le_trans (Nat.le_trans (Nat.le_succ _) (Nat.le_succ _)) z, dne, hns⟩⟩
end
end Er_InvalidRules
end PySem
namespace L2
namespace Er_InvalidRules
open PySem PySem.Spec PyProof.Rows
theorem relO_low {v : V} {v' : Value} (r : RelV v v') (f : Str) : RelO (List.lookup f [(("index" : Str), v)]) (if f = "index" then some v' else none) := by
  by_cases hw : f = "index"
  · subst hw
    rw [if_pos rfl]
    have q : List.lookup ("index" : Str) [(("index" : Str), v)] = some v := by simp [List.lookup]
    rw [q]
    exact r
  · rw [if_neg hw]
    have qw : (f == ("index" : Str)) = false := by simpa using hw
    have q2 : List.lookup f [(("index" : Str), v)] = none := by simp [List.lookup, qw]
    rw [q2]
    trivial
section
variable {X : Cx} {C fI : Addr}
theorem pmk_low {a : Expr} {ta : TA} {p pos : Pos} {k : Nat} (T : PySem.Er_InvalidRules.LowTxt X.K X.mg C fI) (hr : Room k X.A) (ha : PA X [a] ta) (hg : Gl X "InvalidRules" := by rfl)
    (he : starEach (a :: []) X.env = (false, eval a X.env) :: starEach [] X.env := by rfl) (hpl : (backTo pos (starEach [] X.env)).any (·.1) = false := by rfl) :
    PMk X (.Call (.Name "InvalidRules" p) [a] [] pos) (DL.tMk "index" C ta) := by
  intro pins s σ H Q I h
  refine wpAny_Call_Name_kw (ld_glob I hg T.gC ?_)
  refine PySem.W.callWith_K (h₀ := X.base) I.ok.mod.kin T.kC (thn (ha.run pos pins s σ H _ I h) fun us s1 hh => ?_) he hpl
  obtain ⟨vs, H1, I1, r1, v, ev, q1⟩ := hh
  subst ev
  refine ⟨I1.kIn, ?_⟩
  cases r1 with
  | cons rv rn =>
    rename_i v' us'
    cases rn
    show wpAny _ _ (call (.ref C) [v']) _ _ _
    have hlim := I1.nolimit
    obtain ⟨hp, g, dr, tk, os⟩ := s1
    refine wpAny_call (PySem.Er_InvalidRules.low_made T I1.kIn hlim (by have := hr.dp; omega) fun h' tk' e d M => ?_)
    show MkP X pins σ Q (.ref e) ⟨h', g, dr, tk', os⟩
    obtain ⟨oe, fv, hoe, hc, hd, hdat, h1⟩ := M.obj
    have hns := M.ns
    obtain ⟨G', g1, g2⟩ := restrict h' fun b => decide (b ≠ e)
    have gk : ∀ b, b ≠ e → G'.get? b = h'.get? b := fun b hb => g1 b (decide_eq_true hb)
    have ge : G'.get? e = none := g2 e (by simp)
    have old : ∀ b o, hp.get? b = some o → G'.get? b = some o := fun b o q => (gk b (Nat.ne_of_lt (Nat.lt_of_lt_of_le (Heap.lt_size q) M.new))).trans (M.keep b o q)
    have ob : ObjOk X.prog X.w (upd H1 d (.xd [(("index" : Str), v)])) G' d (.xd [(("index" : Str), v)]) :=
      ⟨_, hns.at (fun o q => (gk d M.dne).trans q), fun f => relO_low rv f⟩
    have J : Inv X pins σ (upd H1 d (.xd [(("index" : Str), v)])) ⟨G', g, dr, tk', os⟩ := I1.laid (t' := tk') old M.dbig ob
    refine ⟨e, oe, fv, ⟨G', g, dr, tk', os⟩, _, .ref C, some d, rfl, J, fun b o q => ?_, ge, hoe, ⟨hc, hd⟩, hdat, h1, ?_, rfl, I1.bare, raises_own T.exC T.tyC, q1 d (I1.hok.fresh M.dbig)⟩
    · by_cases hb : b = e
      · have q' : G'.get? b = some o := q
        rw [hb, ge] at q'; cases q'
      · exact (gk b hb).symm.trans q
    · rw [upd_ne (Ne.symm M.dne)]
      exact I1.hok.fresh M.new
theorem pe_byLow {a : Addr} {oe : Obj} {cls : Value} {d : Option Addr} {pn : List (Addr × Obj)} {e : Expr} {te : TE} {pos : Pos} (T : PySem.Er_InvalidRules.LowTxt X.K X.mg C fI) (hz : Zc cls d oe) (hf : ∃ vs, oe.data = .fields vs) (he : PE (X.suite a ((a, oe) :: pn)) e te)
    (hb : attributeBase e "index" X.env (eval e X.env) = eval e X.env := by rfl) :
    PE (X.suite a ((a, oe) :: pn)) (.Attribute e "index" pos) (DL.tBy "index" C a cls d te) := by
  refine ⟨fun pins s σ H Q I h => ?_⟩
  refine attr_of hb (thn (he.run pins s σ H _ I h) fun u s1 hh => ?_)
  obtain ⟨x, H1, I1, rx, ex, ec, dd, v, ed, ea, q⟩ := hh
  subst ex
  obtain rfl : u = Value.ref a := rx
  subst ec
  subst ed
  obtain ⟨ha, _⟩ := I1.pin (a, oe) (List.mem_append_left _ List.mem_cons_self)
  obtain ⟨vs, hd⟩ := hf
  have hx : ObjOk X.prog X.w H1 s1.heap dd (.xd [(("index" : Str), v)]) := I1.hok dd _ ea
  obtain ⟨mA, hns, hr⟩ := hx
  obtain ⟨od, ho, hl⟩ := lookIn_ns hns
  have l : List.lookup ("index" : Str) [(("index" : Str), v)] = some v := by simp [List.lookup]
  obtain ⟨u, hu, ru⟩ := RelO.some_of (v := v) (o := mA "index") (by rw [← l]; exact hr "index")
  have J : PySem.W.InstAt s1.heap a oe C (some od) := ⟨ha, hz.1, by unfold PySem.W.notCls; rw [hd] <;> rfl, by rw [hz.2]; exact ho⟩
  exact HandSPX.exc_get I1.kIn J T.ga T.gg T.exC (PySem.W.findObj_own T.hdC T.noN rfl (by rw [hl, hu])) (handed_of ru) ⟨v, H1, I1.tok _, ru, q⟩
end
/-- an error of the class at S is what «except S» names -/
theorem exm_self {K : PySem.W.Frag} {S : Addr} (h1 : PySem.W.subIn K (.ref S) (.type "BaseException") = some true) (h2 : PySem.W.isClsIn K S = true) (h3 : PySem.W.typeIn K (.ref S) = some (.type "type")) (h4 : PySem.W.subIn K (.ref S) (.ref S) = some true) :
    PySem.W.exmOne K (.ref S) (.ref S) = some true := by
  have e1 : (PySem.W.subIn K (.ref S) (.type "BaseException") == some true) = true := by rw [h1] <;> rfl
  have e2 : ((PySem.W.clsIn K S).isSome && PySem.W.typeIn K (.ref S) == some (.type "type")) = true := by
    have h2' : (PySem.W.clsIn K S).isSome = true := h2
    rw [h2', h3] <;> rfl
  show (if (PySem.W.subIn K (.ref S) (.type "BaseException") == some true) = true then (if ((PySem.W.clsIn K S).isSome && PySem.W.typeIn K (.ref S) == some (.type "type")) = true then PySem.W.subIn K (.ref S) (.ref S) else none) else none) = some true
  rw [if_pos e1, if_pos e2]
  exact h4
end Er_InvalidRules
end L2
namespace K49
open PySem PySem.Spec PyProof.Rows L2 DL
/-! the text -/
def topS (i : Nat) : Stmt := PySem.Challenge.pw_movedfolders_k49_rules_by_hand_refused.main.body.getD i (.Pass ⟨0, 0, 0, 0⟩)
abbrev xis_integer_s : Stmt := topS 3
abbrev xis_integer_N : List Str := ["value"]
theorem xis_integer_sc : FnScope xis_integer_N ["value"] (defScope xis_integer_s) := ⟨rfl, rfl, rfl, by decide +kernel, rfl, by decide +kernel, by decide +kernel⟩
abbrev xis_index_s : Stmt := topS 4
abbrev xis_index_N : List Str := ["value", "many"]
theorem xis_index_sc : FnScope xis_index_N ["value", "many"] (defScope xis_index_s) := ⟨rfl, rfl, rfl, by decide +kernel, rfl, by decide +kernel, by decide +kernel⟩
abbrev xis_content_s : Stmt := topS 6
abbrev xis_content_N : List Str := ["sizes", "value", "part", "size"]
theorem xis_content_sc : FnScope xis_content_N ["sizes", "value"] (defScope xis_content_s) := ⟨rfl, rfl, rfl, by decide +kernel, rfl, by decide +kernel, by decide +kernel⟩
abbrev xare_contents_s : Stmt := topS 7
abbrev xare_contents_N : List Str := ["sizes", "value", "part", "low", "high"]
theorem xare_contents_sc : FnScope xare_contents_N ["sizes", "value"] (defScope xare_contents_s) := ⟨rfl, rfl, rfl, by decide +kernel, rfl, by decide +kernel, by decide +kernel⟩
abbrev xrequire_rules_s : Stmt := topS 10
abbrev xrequire_rules_N : List Str := ["house", "value", "index", "rule"]
theorem xrequire_rules_sc : FnScope xrequire_rules_N ["house", "value"] (defScope xrequire_rules_s) := ⟨rfl, rfl, rfl, by decide +kernel, rfl, by decide +kernel, by decide +kernel⟩
abbrev xis_item_s : Stmt := topS 11
abbrev xis_item_N : List Str := ["house", "value"]
theorem xis_item_sc : FnScope xis_item_N ["house", "value"] (defScope xis_item_s) := ⟨rfl, rfl, rfl, by decide +kernel, rfl, by decide +kernel, by decide +kernel⟩
abbrev y_is_rule_s : Stmt := topS 12
abbrev y_is_rule_N : List Str := ["house", "value", "item", "start", "end"]
theorem y_is_rule_sc : FnScope y_is_rule_N ["house", "value"] (defScope y_is_rule_s) := ⟨rfl, rfl, rfl, by decide +kernel, rfl, by decide +kernel, by decide +kernel⟩
abbrev y_law_outcome_s : Stmt := topS 14
abbrev y_law_outcome_N : List Str := ["_law_house", "_law_thing", "e"]
theorem y_law_outcome_sc : FnScope y_law_outcome_N ["_law_house", "_law_thing"] (defScope y_law_outcome_s) := ⟨rfl, rfl, rfl, by decide +kernel, rfl, by decide +kernel, by decide +kernel⟩
abbrev y_law_wrong_s : Stmt := topS 15
abbrev y_law_wrong_N : List Str := ["_law_house", "_law_zero", "_law_last", "_law_long", "_law_leaf", "_law_found", "_law_side", "_law_truth", "_law_over", "_law_size"]
theorem y_law_wrong_sc : FnScope y_law_wrong_N ["_law_house"] (defScope y_law_wrong_s) := ⟨rfl, rfl, rfl, by decide +kernel, rfl, by decide +kernel, by decide +kernel⟩
abbrev xlaw_s : Stmt := topS 16
abbrev xlaw_N : List Str := ["_law_script", "_law_cells", "_law_size", "_law_sizes", "_law_begin", "_law_house", "_law_zero", "_law_last", "_law_good", "_law_wrong_here", "_law_some", "_law_told", "_law_cell", "_law_one", "_law_many", "_law_rules"]
theorem xlaw_sc : FnScope xlaw_N ["_law_script"] (defScope xlaw_s) := ⟨rfl, rfl, rfl, by decide +kernel, rfl, by decide +kernel, by decide +kernel⟩
/-! the mirrors -/
def xis_integer_g : En → CS → RT := (gRet (fAndV (f1 (isiD isInt) (fVar 0)) (fNotV (f1 (isiD isBool) (fVar 0)))))
abbrev xis_integer_r : List W → CS → R W := fnR 1 1 xis_integer_g
def xis_index_g : En → CS → RT := (gRet (fAndV (fCallP 1 (noX xis_integer_r) (fCons (fVar 0) fNil)) (fChain leD ltD (fC (.int 0)) (fVar 0) (fVar 1))))
abbrev xis_index_r : List W → CS → R W := fnR 2 2 xis_index_g
def xis_content_g : En → CS → RT := (gSeq (gIf (fOr (fNot (fB (f1 (isiD isTuple) (fVar 1)))) (fB (f2 neD (fN lenD (fCons (fVar 1) fNil)) (fN lenD (fCons (fVar 0) fNil))))) (gRet (fC (.bool false))) gNx)
    (gRet (fN allBD (fCons (fLc [2, 3] (fZip (fCons (fVar 1) (fCons (fVar 0) fNil))) (hT 2 (hsC (hN 2) (hsC (hN 3) hsN))) fYes (fCallP 2 (noX xis_index_r) (fCons (fVar 2) (fCons (fVar 3) fNil)))) fNil))))
abbrev xis_content_r : List W → CS → R W := fnR 2 4 xis_content_g
def xare_contents_g : En → CS → RT := (gSeq (gIf (fOr (fNot (fB (f1 (isiD isTuple) (fVar 1)))) (fB (f2 eqD (fN lenD (fCons (fVar 1) fNil)) (fC (.int 0))))) (gRet (fC (.bool false))) gNx)
    (gSeq (gIf (fNot (fB (fN allBD (fCons (fLc [2] (fIt (fVar 1)) (hN 2) fYes (fCallP 2 (noX xis_content_r) (fCons (fVar 0) (fCons (fVar 2) fNil)))) fNil)))) (gRet (fC (.bool false))) gNx)
    (gRet (fN allBD (fCons (fLc [3, 4] (fZip (fCons (fVar 1) (fCons (fSl (fVar 1) (fO1 (fC (.int 1))) fO0) fNil))) (hT 2 (hsC (hN 3) (hsC (hN 4) hsN))) fYes (f2 ltA (fVar 3) (fVar 4))) fNil)))))
abbrev xare_contents_r : List W → CS → R W := fnR 2 5 xare_contents_g
def xis_item_g : En → CS → RT := (gRet (fCallP 2 (noX xis_index_r) (fCons (fVar 1) (fCons (f2 addD (fN lenD (fCons (f2 ixD (fVar 0) (fC (.int 2))) fNil)) (fC (.int 1))) fNil))))
abbrev xis_item_r : List W → CS → R W := fnR 2 2 xis_item_g
def y_is_rule_g : En → CS → RT := (gSeq (gIf (fOr (fNot (fB (f1 (isiD isTuple) (fVar 1)))) (fB (f2 neD (fN lenD (fCons (fVar 1) fNil)) (fC (.int 3))))) (gRet (fC (.bool false))) gNx)
    (gSeq (gAsg (hT 3 (hsC (hN 2) (hsC (hN 3) (hsC (hN 4) hsN)))) (fVar 1))
    (gSeq (gIf (fNot (fB (fCallP 2 (noX xis_item_r) (fCons (fVar 0) (fCons (fVar 2) fNil))))) (gRet (fC (.bool false))) gNx)
    (gRet (fAndV (fCallP 2 (noX xare_contents_r) (fCons (f2 ixD (fVar 0) (fC (.int 0))) (fCons (fVar 3) fNil))) (fCallP 2 (noX xare_contents_r) (fCons (f2 ixD (fVar 0) (fC (.int 0))) (fCons (fVar 4) fNil))))))))
abbrev y_is_rule_r : List W → CS → R W := fnR 2 5 y_is_rule_g
def xrequire_rules_g : En → CS → RT := (gSeq (gIf (fOr (fNot (fB (f1 (isiD isTuple) (fVar 1)))) (fB (f2 gtD (fN lenD (fCons (fVar 1) fNil)) (fC (.int 6))))) (gRaise 0 (fCons (fC .none) fNil)) gNx)
    (gSeq (gFor (fEnu (fCons (fVar 1) fNil)) (hT 2 (hsC (hN 2) (hsC (hN 3) hsN))) (gIf (fNot (fB (fCallP 2 (noX y_is_rule_r) (fCons (fVar 0) (fCons (fVar 3) fNil))))) (gRaise 0 (fCons (fVar 2) fNil)) gNx))
    (gRet (fVar 1))))
abbrev xrequire_rules_r : List W → CS → R W := fnR 2 4 xrequire_rules_g
def y_law_outcome_g : En → CS → RT := (gTry 2 0 (gRet (f2 eqD (fCallX 2 xrequire_rules_r (fCons (fVar 0) (fCons (fVar 1) fNil))) (fVar 1))) (fun q => gRet (fN lstD (fCons (fX q) fNil))))
abbrev y_law_outcome_r : List W → CS → R W := fnR 2 3 y_law_outcome_g
def y_law_wrong_g : En → CS → RT := (gSeq (gPar2 1 2 (fCons (f2 mulD (fN tupD (fCons (fC (.int 0)) fNil)) (fN lenD (fCons (f2 ixD (fVar 0) (fC (.int 0))) fNil))) (fCons (fN tupleD (fCons (fLc [9] (fIt (f2 ixD (fVar 0) (fC (.int 0)))) (hN 9) fYes (f2 subD (fVar 9) (fC (.int 1)))) fNil)) fNil)))
    (gSeq (gPar2 3 4 (fCons (f2 addD (fVar 1) (fN tupD (fCons (fC (.int 0)) fNil))) (fCons (fN lenD (fCons (f2 ixD (fVar 0) (fC (.int 2))) fNil)) fNil)))
    (gSeq (gAsg (hN 5) (fN lstD (fCons (fN tupD (fCons (f2 addD (fVar 4) (fC (.int 1))) (fCons (fN tupD (fCons (fVar 1) fNil)) (fCons (fN tupD (fCons (fVar 1) fNil)) fNil)))) (fCons (fN tupD (fCons (f1 negD (fC (.int 1))) (fCons (fN tupD (fCons (fVar 1) fNil)) (fCons (fN tupD (fCons (fVar 1) fNil)) fNil)))) (fCons (fN tupD (fCons (fC (.bool true)) (fCons (fN tupD (fCons (fVar 1) fNil)) (fCons (fN tupD (fCons (fVar 1) fNil)) fNil)))) (fCons (fN tupD (fCons (fC (.str "0")) (fCons (fN tupD (fCons (fVar 1) fNil)) (fCons (fN tupD (fCons (fVar 1) fNil)) fNil)))) fNil))))))
    (gSeq (gFor (fIt (fN tupD (fCons (fN tupD fNil) (fCons (fN tupD (fCons (fVar 1) (fCons (fVar 1) fNil))) (fCons (fN tupD (fCons (fVar 2) (fCons (fVar 1) fNil))) (fCons (fN tupD (fCons (fVar 3) fNil)) (fCons (fN tupD (fCons (fSl (fVar 1) (fO1 (fC (.int 1))) fO0) fNil)) (fCons (fVar 1) (fCons (fN lstD (fCons (fVar 1) fNil)) (fCons (fN tupD (fCons (fVar 1) (fCons (fC .none) fNil))) (fCons (fN tupD (fCons (f2 mulD (fN lstD (fCons (fC (.int 0)) fNil)) (fN lenD (fCons (fVar 1) fNil))) fNil)) fNil))))))))))) (hN 6) (gAsg (hN 5) (f2 addD (fVar 5) (fN lstD (fCons (fN tupD (fCons (fVar 4) (fCons (fVar 6) (fCons (fN tupD (fCons (fVar 1) fNil)) fNil)))) (fCons (fN tupD (fCons (fVar 4) (fCons (fN tupD (fCons (fVar 1) fNil)) (fCons (fVar 6) fNil)))) fNil))))))
    (gSeq (gPar2 7 8 (fCons (fN tupleD (fCons (f2 addD (fN lstD (fCons (fC (.bool true)) fNil)) (f2 mulD (fN lstD (fCons (fC (.int 0)) fNil)) (f2 subD (fN lenD (fCons (fVar 1) fNil)) (fC (.int 1))))) fNil)) (fCons (f2 ixD (fVar 0) (fC (.int 0))) fNil)))
    (gSeq (gAsg (hN 5) (f2 addD (fVar 5) (fN lstD (fCons (fN tupD (fCons (fVar 4) (fCons (fN tupD (fCons (fVar 7) fNil)) (fCons (fN tupD (fCons (fVar 1) fNil)) fNil)))) (fCons (fN tupD (fCons (fVar 4) (fCons (fN tupD (fCons (fVar 1) fNil)) fNil))) (fCons (fN tupD (fCons (fVar 4) (fCons (fN tupD (fCons (fVar 1) fNil)) (fCons (fN tupD (fCons (fVar 1) fNil)) (fCons (fN tupD fNil) fNil))))) (fCons (fN lstD (fCons (fVar 4) (fCons (fN tupD (fCons (fVar 1) fNil)) (fCons (fN tupD (fCons (fVar 1) fNil)) fNil)))) fNil)))))))
    (gRet (f2 addD (fVar 5) (fN lstD (fCons (fN tupD (fCons (fVar 4) (fCons (fN tupD (fCons (fVar 8) fNil)) (fCons (fN tupD (fCons (fVar 1) fNil)) fNil)))) (fCons (fN tupD (fCons (fVar 4) (fCons (fN tupD (fCons (fVar 1) fNil)) (fCons (fN tupD (fCons (f2 addD (fN tupD (fCons (f1 negD (fC (.int 1))) fNil)) (fSl (fVar 1) (fO1 (fC (.int 1))) fO0)) fNil)) fNil)))) (fCons (fC .none) (fCons (fN tupD fNil) fNil)))))))))))))
abbrev y_law_wrong_r : List W → CS → R W := fnR 1 10 y_law_wrong_g
def xlaw_t3 : En → CS → RT := (gRet (fC (.bool true)))
def xlaw_t2 : En → CS → RT := (gSeq (gFor (fIt (fN tupD (fCons (fN tupD (fCons (fVar 2) fNil)) (fCons (fN tupD (fCons (fC (.int 2)) (fCons (fC (.int 4)) fNil))) (fCons (fN tupD (fCons (fC (.int 2)) (fCons (fC (.int 2)) (fCons (fC (.int 2)) fNil)))) fNil))))) (hN 3) (gSeq (gAsg (hN 4) (f2 mulD (fN tupD (fCons (fC (.int 0)) fNil)) (fN lenD (fCons (fVar 3) fNil))))
    (gSeq (gAsg (hN 5) (fN tupD (fCons (fVar 3) (fCons (fVar 4) (fCons (fN tupD (fCons (fN tupD fNil) (fCons (fN tupD (fCons (fN tupD (fCons (fC (.str "set")) (fCons (fC (.int 0)) (fCons (fC (.int 1)) fNil)))) fNil)) fNil))) fNil)))))
    (gSeq (gPar2 6 7 (fCons (fVar 4) (fCons (fN tupleD (fCons (fLc [13] (fIt (fVar 3)) (hN 13) fYes (f2 subD (fVar 13) (fC (.int 1)))) fNil)) fNil)))
    (gSeq (gAsg (hN 8) (fN tupD (fCons (fC (.int 2)) (fCons (fN tupD (fCons (fVar 6) (fCons (fVar 7) fNil))) (fCons (fN tupD (fCons (fVar 7) fNil)) fNil)))))
    (gSeq (gIf (fB (f2 neD (fLc [14] (fIt (fN tupD (fCons (fC (.int 0)) (fCons (fC (.int 1)) (fCons (fC (.int 6)) (fCons (fC (.int 7)) fNil)))))) (hN 14) fYes (fCallP 2 (noX y_law_outcome_r) (fCons (fVar 5) (fCons (f2 mulD (fN tupD (fCons (fVar 8) fNil)) (fVar 14)) fNil)))) (fN lstD (fCons (fC (.bool true)) (fCons (fC (.bool true)) (fCons (fC (.bool true)) (fCons (fN lstD (fCons (fC .none) fNil)) fNil))))))) (gRet (fC (.bool false))) gNx)
    (gSeq (gIf (fNot (fB (fCallP 2 (noX y_law_outcome_r) (fCons (fVar 5) (fCons (fN tupD (fCons (fN tupD (fCons (fC (.int 0)) (fCons (fN tupD (fCons (fVar 7) fNil)) (fCons (fN tupD (fCons (fVar 6) fNil)) fNil)))) (fCons (fN tupD (fCons (fC (.int 1)) (fCons (fN tupD (fCons (fVar 6) fNil)) (fCons (fN tupD (fCons (fVar 6) fNil)) fNil)))) (fCons (fN tupD (fCons (fC (.int 1)) (fCons (fN tupD (fCons (fVar 6) fNil)) (fCons (fN tupD (fCons (fVar 6) fNil)) fNil)))) fNil)))) fNil))))) (gRet (fC (.bool false))) gNx)
    (gFor (fIt (fCallP 1 (noX y_law_wrong_r) (fCons (fVar 5) fNil))) (hN 9) (gSeq (gAsg (hN 10) (fN lstD (fCons (fN tupD (fCons (fVar 9) fNil)) (fCons (fN tupD (fCons (fVar 8) (fCons (fVar 9) fNil))) (fCons (fN tupD (fCons (fVar 9) (fCons (fVar 8) (fCons (fVar 9) fNil)))) (fCons (f2 addD (f2 mulD (fN tupD (fCons (fVar 8) fNil)) (fC (.int 5))) (fN tupD (fCons (fVar 9) fNil))) fNil))))))
    (gSeq (gAsg (hN 11) (fLc [15] (fIt (fVar 10)) (hN 15) fYes (fCallP 2 (noX y_law_outcome_r) (fCons (fVar 5) (fCons (fVar 15) fNil)))))
    (gIf (fOr (fB (f2 neD (fVar 11) (fN lstD (fCons (fN lstD (fCons (fC (.int 0)) fNil)) (fCons (fN lstD (fCons (fC (.int 1)) fNil)) (fCons (fN lstD (fCons (fC (.int 0)) fNil)) (fCons (fN lstD (fCons (fC (.int 5)) fNil)) fNil))))))) (fB (f2 neD (fCallP 2 (noX y_law_outcome_r) (fCons (fVar 5) (fCons (f2 addD (f2 mulD (fN tupD (fCons (fVar 8) fNil)) (fC (.int 6))) (fN tupD (fCons (fVar 9) fNil))) fNil))) (fN lstD (fCons (fC .none) fNil))))) (gRet (fC (.bool false))) gNx))))))))))) xlaw_t3)
def xlaw_t1 : En → CS → RT := (gSeq (gAsg (hN 2) (f2 addD (fC (.int 2)) (f2 modD (fN intD (fCons (f2 ixD (fVar 1) (fC (.int 0))) fNil)) (fC (.int 7))))) xlaw_t2)
def xlaw_g : En → CS → RT := (gSeq (gAsg (hN 1) (f2 addD (fLc [12] (fIt (fSl (fVar 0) fO0 (fO1 (fC (.int 1))))) (hN 12) fYes (fN absD (fCons (fN intD (fCons (fVar 12) fNil)) fNil))) (fN lstD (fCons (fC (.int 5)) fNil)))) xlaw_t1)
abbrev xlaw_r : List W → CS → R W := fnR 1 16 xlaw_g
/-! what the top has written -/
structure Txt (K : PySem.W.Frag) (mg : Str → Option Value) (a : Nat → Addr) (d : Nat → FuncData) (T : TX) (c ci : Nat → Addr) : Prop where
  K0 : PySem.Er_InvalidRules.LowTxt K mg (c 0) (ci 0)
  T0 : T 0 = (c 0, ("index" : Str))
  F0 : Fun K "is_integer" "is_integer" xis_integer_s (a 0) (d 0)
  M0 : mg "is_integer" = some (.ref (a 0))
  B0 : Binds K (d 0) ["value"] []
  F1 : Fun K "is_index" "is_index" xis_index_s (a 1) (d 1)
  M1 : mg "is_index" = some (.ref (a 1))
  B1 : Binds K (d 1) ["value", "many"] []
  F2 : Fun K "is_content" "is_content" xis_content_s (a 2) (d 2)
  M2 : mg "is_content" = some (.ref (a 2))
  B2 : Binds K (d 2) ["sizes", "value"] []
  F3 : Fun K "are_contents" "are_contents" xare_contents_s (a 3) (d 3)
  M3 : mg "are_contents" = some (.ref (a 3))
  B3 : Binds K (d 3) ["sizes", "value"] []
  F4 : Fun K "require_rules" "require_rules" xrequire_rules_s (a 4) (d 4)
  M4 : mg "require_rules" = some (.ref (a 4))
  B4 : Binds K (d 4) ["house", "value"] []
  F5 : Fun K "is_item" "is_item" xis_item_s (a 5) (d 5)
  M5 : mg "is_item" = some (.ref (a 5))
  B5 : Binds K (d 5) ["house", "value"] []
  F6 : Fun K "_is_rule" "_is_rule" y_is_rule_s (a 6) (d 6)
  M6 : mg "_is_rule" = some (.ref (a 6))
  B6 : Binds K (d 6) ["house", "value"] []
  F7 : Fun K "_law_outcome" "_law_outcome" y_law_outcome_s (a 7) (d 7)
  M7 : mg "_law_outcome" = some (.ref (a 7))
  B7 : Binds K (d 7) ["_law_house", "_law_thing"] []
  F8 : Fun K "_law_wrong" "_law_wrong" y_law_wrong_s (a 8) (d 8)
  M8 : mg "_law_wrong" = some (.ref (a 8))
  B8 : Binds K (d 8) ["_law_house"] []
  F9 : Fun K "law" "law" xlaw_s (a 9) (d 9)
  M9 : mg "law" = some (.ref (a 9))
  B9 : Binds K (d 9) ["_law_script"] []
  z_abs : mg "abs" = none
  z_all : mg "all" = none
  z_bool : mg "bool" = none
  z_enumerate : mg "enumerate" = none
  z_int : mg "int" = none
  z_isinstance : mg "isinstance" = none
  z_len : mg "len" = none
  z_tuple : mg "tuple" = none
  z_zip : mg "zip" = none
  g_MOST_RULES : ∃ t, mg "MOST_RULES" = some (.int 6 t)
end K49
namespace K49
open PySem PySem.Spec PyProof.Rows L2 DL
section
variable [KFrag] {P : Program} {w : World} {K : PySem.W.Frag} {mg : Str → Option Value} {base : Heap} {a : Nat → Addr} {d : Nat → FuncData} {T : TX} {c ci : Nat → Addr}
theorem xis_integer_ok (hKF : K = KFrag.K) (Tx : Txt K mg a d T c ci) : FnOk P w K mg base CX0 1 (a 0) (d 0) ["value"] (spD T 1 (noX xis_integer_r)) :=
  fn_ok (g := xis_integer_g) Tx.F0 xis_integer_sc rfl rfl fun cdv A outer s H E hr => (by
  have nd := xis_integer_sc.nd
  refine dss_one ?_
  · refine ds_ret ?_
    · refine de_and ?_ ?_
      · refine de_isi isi_int rfl Tx.z_isinstance rfl Tx.z_int PyProof.Rows.boot_int ?_
        · exact de_var (pv 0)
      · refine de_one ?_
        · refine de_not ?_
          · refine de_isi isi_bool rfl Tx.z_isinstance rfl Tx.z_bool PyProof.Rows.boot_bool ?_
            · exact de_var (pv 0))
end
end K49
namespace K49
open PySem PySem.Spec PyProof.Rows L2 DL
section
variable [KFrag] {P : Program} {w : World} {K : PySem.W.Frag} {mg : Str → Option Value} {base : Heap} {a : Nat → Addr} {d : Nat → FuncData} {T : TX} {c ci : Nat → Addr}
theorem xis_index_ok (hKF : K = KFrag.K) (Tx : Txt K mg a d T c ci) : FnOk P w K mg base CX0 2 (a 1) (d 1) ["value", "many"] (spD T 2 (noX xis_index_r)) :=
  fn_ok (g := xis_index_g) Tx.F1 xis_index_sc rfl rfl fun cdv A outer s H E hr => (by
  have nd := xis_index_sc.nd
  refine dss_one ?_
  · refine ds_ret ?_
    · refine de_and ?_ ?_
      · refine de_callP (xis_integer_ok hKF Tx) (hr.mono (by decide)) rfl Tx.M0 Tx.F0.kp Tx.B0 ?_
        · refine da_cons ?_ ?_
          · exact de_var (pv 0)
          · exact da_nil
      · refine de_one ?_
        · refine de_chain dop_le dop_lt ?_ ?_ ?_
          · exact de_int
          · exact de_var (pv 0)
          · exact de_var (pv 1))
end
end K49
namespace K49
open PySem PySem.Spec PyProof.Rows L2 DL
section
variable [KFrag] {P : Program} {w : World} {K : PySem.W.Frag} {mg : Str → Option Value} {base : Heap} {a : Nat → Addr} {d : Nat → FuncData} {T : TX} {c ci : Nat → Addr}
theorem xis_content_ok (hKF : K = KFrag.K) (Tx : Txt K mg a d T c ci) : FnOk P w K mg base CX0 3 (a 2) (d 2) ["sizes", "value"] (spD T 2 (noX xis_content_r)) :=
  fn_ok (g := xis_content_g) Tx.F2 xis_content_sc rfl rfl fun cdv A outer s H E hr => (by
  have nd := xis_content_sc.nd
  refine dss_cons ?_ ?_
  · refine ds_if ?_ ?_ ?_
    · refine dt_w ?_
      · refine dw_or ?_ ?_
        · refine dt_not ?_
          · refine dt_val ?_
            · refine de_isi isi_tuple rfl Tx.z_isinstance rfl Tx.z_tuple PyProof.Rows.boot_tuple ?_
              · exact de_var (pv 1)
        · refine dw_or1 ?_
          · refine dt_cmp (dop_ne hr.units) ?_ ?_
            · refine de_callB dc_len rfl Tx.z_len PySem.boot_len ?_
              · refine da_cons ?_ ?_
                · exact de_var (pv 1)
                · exact da_nil
            · refine de_callB dc_len rfl Tx.z_len PySem.boot_len ?_
              · refine da_cons ?_ ?_
                · exact de_var (pv 0)
                · exact da_nil
    · refine dss_one ?_
      · refine ds_ret ?_
        · exact de_bool
    · exact dss_nil
  · refine dss_one ?_
    · refine ds_ret ?_
      · refine de_callB (dc_all rfl) rfl Tx.z_all PyProof.Rows.boot_all ?_
        · refine da_cons ?_ ?_
          · refine de_lc (is := [2, 3]) (own := [("part", 2), ("size", 3)]) rfl nd ?_ (blkOk_by (N := xis_content_N) (sc := defScope xis_content_s) (own := [("part", 2), ("size", 3)]) (by decide +kernel)) (by decide) ?_ ?_ ?_
            · refine di_zip rfl Tx.z_zip ?_
              · refine da_cons ?_ ?_
                · exact de_var (pv 1)
                · refine da_cons ?_ ?_
                  · exact de_var (pv 0)
                  · exact da_nil
            · refine fun _ _ _ _ _ => ?_
              · refine dgT rfl ?_
                · refine dgsC (is := [2]) (js := [3]) ?_ ?_
                  · exact dg_name (pg_name (i := 2) nd rfl (by first | exact Or.inl rfl | exact Or.inr rfl))
                  · refine dgsC (is := [3]) (js := []) ?_ ?_
                    · exact dg_name (pg_name (i := 3) nd rfl (by first | exact Or.inl rfl | exact Or.inr rfl))
                    · exact dgs_nil
            · refine fun _ _ _ _ _ => ?_
              · exact dts_nil
            · refine fun _ _ _ _ _ => ?_
              · refine de_callP (xis_index_ok hKF Tx) (hr.mono (by decide)) rfl Tx.M1 Tx.F1.kp Tx.B1 ?_
                · refine da_cons ?_ ?_
                  · exact de_var (pv 2)
                  · refine da_cons ?_ ?_
                    · exact de_var (pv 3)
                    · exact da_nil
          · exact da_nil)
end
end K49
namespace K49
open PySem PySem.Spec PyProof.Rows L2 DL
section
variable [KFrag] {P : Program} {w : World} {K : PySem.W.Frag} {mg : Str → Option Value} {base : Heap} {a : Nat → Addr} {d : Nat → FuncData} {T : TX} {c ci : Nat → Addr}
theorem xare_contents_ok (hKF : K = KFrag.K) (Tx : Txt K mg a d T c ci) : FnOk P w K mg base CX0 4 (a 3) (d 3) ["sizes", "value"] (spD T 2 (noX xare_contents_r)) :=
  fn_ok (g := xare_contents_g) Tx.F3 xare_contents_sc rfl rfl fun cdv A outer s H E hr => (by
  have nd := xare_contents_sc.nd
  refine dss_cons ?_ ?_
  · refine ds_if ?_ ?_ ?_
    · refine dt_w ?_
      · refine dw_or ?_ ?_
        · refine dt_not ?_
          · refine dt_val ?_
            · refine de_isi isi_tuple rfl Tx.z_isinstance rfl Tx.z_tuple PyProof.Rows.boot_tuple ?_
              · exact de_var (pv 1)
        · refine dw_or1 ?_
          · refine dt_cmp (dop_eq hr.units) ?_ ?_
            · refine de_callB dc_len rfl Tx.z_len PySem.boot_len ?_
              · refine da_cons ?_ ?_
                · exact de_var (pv 1)
                · exact da_nil
            · exact de_int
    · refine dss_one ?_
      · refine ds_ret ?_
        · exact de_bool
    · exact dss_nil
  · refine dss_cons ?_ ?_
    · refine ds_if ?_ ?_ ?_
      · refine dt_not ?_
        · refine dt_val ?_
          · refine de_callB (dc_all rfl) rfl Tx.z_all PyProof.Rows.boot_all ?_
            · refine da_cons ?_ ?_
              · refine de_lc (is := [2]) (own := [("part", 2)]) rfl nd ?_ (blkOk_by (N := xare_contents_N) (sc := defScope xare_contents_s) (own := [("part", 2)]) (by decide +kernel)) (by decide) ?_ ?_ ?_
                · refine di_seq ?_
                  · exact de_var (pv 1)
                · refine fun _ _ _ _ _ => ?_
                  · exact dg_name (pg_name (i := 2) nd rfl (by first | exact Or.inl rfl | exact Or.inr rfl))
                · refine fun _ _ _ _ _ => ?_
                  · exact dts_nil
                · refine fun _ _ _ _ _ => ?_
                  · refine de_callP (xis_content_ok hKF Tx) (hr.mono (by decide)) rfl Tx.M2 Tx.F2.kp Tx.B2 ?_
                    · refine da_cons ?_ ?_
                      · exact de_var (pv 0)
                      · refine da_cons ?_ ?_
                        · exact de_var (pv 2)
                        · exact da_nil
              · exact da_nil
      · refine dss_one ?_
        · refine ds_ret ?_
          · exact de_bool
      · exact dss_nil
    · refine dss_one ?_
      · refine ds_ret ?_
        · refine de_callB (dc_all rfl) rfl Tx.z_all PyProof.Rows.boot_all ?_
          · refine da_cons ?_ ?_
            · refine de_lc (is := [3, 4]) (own := [("low", 3), ("high", 4)]) rfl nd ?_ (blkOk_by (N := xare_contents_N) (sc := defScope xare_contents_s) (own := [("low", 3), ("high", 4)]) (by decide +kernel)) (by decide) ?_ ?_ ?_
              · refine di_zip rfl Tx.z_zip ?_
                · refine da_cons ?_ ?_
                  · exact de_var (pv 1)
                  · refine da_cons ?_ ?_
                    · refine de_slice hKF ?_ ?_ ?_
                      · exact de_var (pv 1)
                      · refine do_some ?_
                        · exact de_int
                      · exact do_none
                    · exact da_nil
              · refine fun _ _ _ _ _ => ?_
                · refine dgT rfl ?_
                  · refine dgsC (is := [3]) (js := [4]) ?_ ?_
                    · exact dg_name (pg_name (i := 3) nd rfl (by first | exact Or.inl rfl | exact Or.inr rfl))
                    · refine dgsC (is := [4]) (js := []) ?_ ?_
                      · exact dg_name (pg_name (i := 4) nd rfl (by first | exact Or.inl rfl | exact Or.inr rfl))
                      · exact dgs_nil
              · refine fun _ _ _ _ _ => ?_
                · exact dts_nil
              · refine fun _ _ _ _ _ => ?_
                · refine de_cmp (dop_ltA (lt64 hr.units)) ?_ ?_
                  · exact de_var (pv 3)
                  · exact de_var (pv 4)
            · exact da_nil)
end
end K49
namespace K49
open PySem PySem.Spec PyProof.Rows L2 DL
section
variable [KFrag] {P : Program} {w : World} {K : PySem.W.Frag} {mg : Str → Option Value} {base : Heap} {a : Nat → Addr} {d : Nat → FuncData} {T : TX} {c ci : Nat → Addr}
theorem xis_item_ok (hKF : K = KFrag.K) (Tx : Txt K mg a d T c ci) : FnOk P w K mg base CX0 3 (a 5) (d 5) ["house", "value"] (spD T 2 (noX xis_item_r)) :=
  fn_ok (g := xis_item_g) Tx.F5 xis_item_sc rfl rfl fun cdv A outer s H E hr => (by
  have nd := xis_item_sc.nd
  refine dss_one ?_
  · refine ds_ret ?_
    · refine de_callP (xis_index_ok hKF Tx) (hr.mono (by decide)) rfl Tx.M1 Tx.F1.kp Tx.B1 ?_
      · refine da_cons ?_ ?_
        · exact de_var (pv 1)
        · refine da_cons ?_ ?_
          · refine de_op dop_add ?_ ?_
            · refine de_callB dc_len rfl Tx.z_len PySem.boot_len ?_
              · refine da_cons ?_ ?_
                · refine de_ix dix ?_ ?_
                  · exact de_var (pv 0)
                  · exact de_int
                · exact da_nil
            · exact de_int
          · exact da_nil)
end
end K49
namespace K49
open PySem PySem.Spec PyProof.Rows L2 DL
section
variable [KFrag] {P : Program} {w : World} {K : PySem.W.Frag} {mg : Str → Option Value} {base : Heap} {a : Nat → Addr} {d : Nat → FuncData} {T : TX} {c ci : Nat → Addr}
theorem y_is_rule_ok (hKF : K = KFrag.K) (Tx : Txt K mg a d T c ci) : FnOk P w K mg base CX0 5 (a 6) (d 6) ["house", "value"] (spD T 2 (noX y_is_rule_r)) :=
  fn_ok (g := y_is_rule_g) Tx.F6 y_is_rule_sc rfl rfl fun cdv A outer s H E hr => (by
  have nd := y_is_rule_sc.nd
  refine dss_cons ?_ ?_
  · refine ds_if ?_ ?_ ?_
    · refine dt_w ?_
      · refine dw_or ?_ ?_
        · refine dt_not ?_
          · refine dt_val ?_
            · refine de_isi isi_tuple rfl Tx.z_isinstance rfl Tx.z_tuple PyProof.Rows.boot_tuple ?_
              · exact de_var (pv 1)
        · refine dw_or1 ?_
          · refine dt_cmp (dop_ne hr.units) ?_ ?_
            · refine de_callB dc_len rfl Tx.z_len PySem.boot_len ?_
              · refine da_cons ?_ ?_
                · exact de_var (pv 1)
                · exact da_nil
            · exact de_int
    · refine dss_one ?_
      · refine ds_ret ?_
        · exact de_bool
    · exact dss_nil
  · refine dss_cons ?_ ?_
    · refine ds_asg (is := [2, 3, 4]) ?_ ?_
      · exact de_var (pv 1)
      · refine dgT rfl ?_
        · refine dgsC (is := [2]) (js := [3, 4]) ?_ ?_
          · exact dg_name (pg_name (i := 2) nd rfl (by first | exact Or.inl rfl | exact Or.inr rfl))
          · refine dgsC (is := [3]) (js := [4]) ?_ ?_
            · exact dg_name (pg_name (i := 3) nd rfl (by first | exact Or.inl rfl | exact Or.inr rfl))
            · refine dgsC (is := [4]) (js := []) ?_ ?_
              · exact dg_name (pg_name (i := 4) nd rfl (by first | exact Or.inl rfl | exact Or.inr rfl))
              · exact dgs_nil
    · refine dss_cons ?_ ?_
      · refine ds_if ?_ ?_ ?_
        · refine dt_not ?_
          · refine dt_val ?_
            · refine de_callP (xis_item_ok hKF Tx) (hr.mono (by decide)) rfl Tx.M5 Tx.F5.kp Tx.B5 ?_
              · refine da_cons ?_ ?_
                · exact de_var (pv 0)
                · refine da_cons ?_ ?_
                  · exact de_var (pv 2)
                  · exact da_nil
        · refine dss_one ?_
          · refine ds_ret ?_
            · exact de_bool
        · exact dss_nil
      · refine dss_one ?_
        · refine ds_ret ?_
          · refine de_and ?_ ?_
            · refine de_callP (xare_contents_ok hKF Tx) (hr.mono (by decide)) rfl Tx.M3 Tx.F3.kp Tx.B3 ?_
              · refine da_cons ?_ ?_
                · refine de_ix dix ?_ ?_
                  · exact de_var (pv 0)
                  · exact de_int
                · refine da_cons ?_ ?_
                  · exact de_var (pv 3)
                  · exact da_nil
            · refine de_one ?_
              · refine de_callP (xare_contents_ok hKF Tx) (hr.mono (by decide)) rfl Tx.M3 Tx.F3.kp Tx.B3 ?_
                · refine da_cons ?_ ?_
                  · refine de_ix dix ?_ ?_
                    · exact de_var (pv 0)
                    · exact de_int
                  · refine da_cons ?_ ?_
                    · exact de_var (pv 4)
                    · exact da_nil)
end
end K49
namespace K49
open PySem PySem.Spec PyProof.Rows L2 DL
section
variable [KFrag] {P : Program} {w : World} {K : PySem.W.Frag} {mg : Str → Option Value} {base : Heap} {a : Nat → Addr} {d : Nat → FuncData} {T : TX} {c ci : Nat → Addr}
theorem xrequire_rules_ok (hKF : K = KFrag.K) (Tx : Txt K mg a d T c ci) : FnOk P w K mg base (L2.CX P w) 6 (a 4) (d 4) ["house", "value"] (spD T 2 xrequire_rules_r) :=
  fn_okX (g := xrequire_rules_g) Tx.F4 xrequire_rules_sc rfl rfl fun cdv A outer s H E hr => (by
  have nd := xrequire_rules_sc.nd
  refine dss_cons ?_ ?_
  · refine ds_if ?_ ?_ ?_
    · refine dt_w ?_
      · refine dw_or ?_ ?_
        · refine dt_not ?_
          · refine dt_val ?_
            · refine de_isi isi_tuple rfl Tx.z_isinstance rfl Tx.z_tuple PyProof.Rows.boot_tuple ?_
              · exact de_var (pv 1)
        · refine dw_or1 ?_
          · refine dt_cmp dop_gt ?_ ?_
            · refine de_callB dc_len rfl Tx.z_len PySem.boot_len ?_
              · refine da_cons ?_ ?_
                · exact de_var (pv 1)
                · exact da_nil
            · exact de_gint rfl Tx.g_MOST_RULES.choose_spec
    · refine dss_one ?_
      · refine ds_raise 0 Tx.T0 (ps_raise rfl (takes_of rfl rfl rfl rfl) (L2.Er_InvalidRules.pmk_low Tx.K0 hr ?_))
        · refine da_cons ?_ ?_
          · exact de_none
          · exact da_nil
    · exact dss_nil
  · refine dss_cons ?_ ?_
    · refine ds_for (is := [2, 3]) (passes_of rfl) rfl ?_ ?_ ?_
      · refine di_enu rfl Tx.z_enumerate ?_
        · refine da_cons ?_ ?_
          · exact de_var (pv 1)
          · exact da_nil
      · refine dgT rfl ?_
        · refine dgsC (is := [2]) (js := [3]) ?_ ?_
          · exact dg_name (pg_name (i := 2) nd rfl (by first | exact Or.inl rfl | exact Or.inr rfl))
          · refine dgsC (is := [3]) (js := []) ?_ ?_
            · exact dg_name (pg_name (i := 3) nd rfl (by first | exact Or.inl rfl | exact Or.inr rfl))
            · exact dgs_nil
      · refine dss_one ?_
        · refine ds_if ?_ ?_ ?_
          · refine dt_not ?_
            · refine dt_val ?_
              · refine de_callP (y_is_rule_ok hKF Tx) (hr.mono (by decide)) rfl Tx.M6 Tx.F6.kp Tx.B6 ?_
                · refine da_cons ?_ ?_
                  · exact de_var (pv 0)
                  · refine da_cons ?_ ?_
                    · exact de_var (pv 3)
                    · exact da_nil
          · refine dss_one ?_
            · refine ds_raise 0 Tx.T0 (ps_raise rfl (takes_of rfl rfl rfl rfl) (L2.Er_InvalidRules.pmk_low Tx.K0 hr ?_))
              · refine da_cons ?_ ?_
                · exact de_var (pv 2)
                · exact da_nil
          · exact dss_nil
    · refine dss_one ?_
      · refine ds_ret ?_
        · exact de_var (pv 1))
end
end K49
namespace K49
open PySem PySem.Spec PyProof.Rows L2 DL
section
variable [KFrag] {P : Program} {w : World} {K : PySem.W.Frag} {mg : Str → Option Value} {base : Heap} {a : Nat → Addr} {d : Nat → FuncData} {T : TX} {c ci : Nat → Addr}
theorem y_law_outcome_ok (hKF : K = KFrag.K) (Tx : Txt K mg a d T c ci) : FnOk P w K mg base CX0 7 (a 7) (d 7) ["_law_house", "_law_thing"] (spD T 2 (noX y_law_outcome_r)) :=
  fn_ok (g := y_law_outcome_g) Tx.F7 y_law_outcome_sc rfl rfl fun cdv A outer s H E hr => (by
  have nd := y_law_outcome_sc.nd
  refine dss_one ?_
  · refine ds_try (cs := 0) (i := 2) Tx.T0 ?_ rfl rfl nd rfl rfl ?_ takes0 (fun Wt pnt xet tk po => ?_) (fun ad oe cls dx pnt hz hf => ?_)
    · exact Tx.K0.te
    · exact ⟨rfl, by decide, Or.inl Tx.K0.gC⟩
    · refine dss_one ?_
      · refine ds_ret ?_
        · refine de_cmp (dop_eq hr.units) ?_ ?_
          · refine de_callX tk (xrequire_rules_ok hKF Tx) (hr.mono (by decide)) rfl Tx.M4 Tx.F4.kp Tx.B4 ?_
            · refine da_cons ?_ ?_
              · exact de_var (pv 0)
              · refine da_cons ?_ ?_
                · exact de_var (pv 1)
                · exact da_nil
          · exact de_var (pv 1)
    · refine xs_ret ?_
      · refine xe_lst ?_
        · refine xa_cons ?_ ?_
          · exact xe_by Tx.T0 (L2.Er_InvalidRules.pe_byLow Tx.K0 hz hf (pv 2))
          · exact xa_nil)
end
end K49
namespace K49
open PySem PySem.Spec PyProof.Rows L2 DL
section
variable [KFrag] {P : Program} {w : World} {K : PySem.W.Frag} {mg : Str → Option Value} {base : Heap} {a : Nat → Addr} {d : Nat → FuncData} {T : TX} {c ci : Nat → Addr}
theorem y_law_wrong_ok (hKF : K = KFrag.K) (Tx : Txt K mg a d T c ci) : FnOk P w K mg base CX0 1 (a 8) (d 8) ["_law_house"] (spD T 1 (noX y_law_wrong_r)) :=
  fn_ok (g := y_law_wrong_g) Tx.F8 y_law_wrong_sc rfl rfl fun cdv A outer s H E hr => (by
  have nd := y_law_wrong_sc.nd
  refine dss_cons ?_ ?_
  · refine ds_par2 (i := 1) (j := 2) rfl nd rfl rfl (by decide) rfl rfl ?_ rfl
    · refine da_cons ?_ ?_
      · refine de_op dop_mul ?_ ?_
        · refine de_tup ?_
          · refine da_cons ?_ ?_
            · exact de_int
            · exact da_nil
        · refine de_callB dc_len rfl Tx.z_len PySem.boot_len ?_
          · refine da_cons ?_ ?_
            · refine de_ix dix ?_ ?_
              · exact de_var (pv 0)
              · exact de_int
            · exact da_nil
      · refine da_cons ?_ ?_
        · refine de_callTy dc_tuple rfl Tx.z_tuple PyProof.Rows.boot_tuple ?_
          · refine da_cons ?_ ?_
            · refine de_lc (is := [9]) (own := [("_law_size", 9)]) rfl nd ?_ (blkOk_by (N := y_law_wrong_N) (sc := defScope y_law_wrong_s) (own := [("_law_size", 9)]) (by decide +kernel)) (by decide) ?_ ?_ ?_
              · refine di_seq ?_
                · refine de_ix dix ?_ ?_
                  · exact de_var (pv 0)
                  · exact de_int
              · refine fun _ _ _ _ _ => ?_
                · exact dg_name (pg_name (i := 9) nd rfl (by first | exact Or.inl rfl | exact Or.inr rfl))
              · refine fun _ _ _ _ _ => ?_
                · exact dts_nil
              · refine fun _ _ _ _ _ => ?_
                · refine de_op dop_sub ?_ ?_
                  · exact de_var (pv 9)
                  · exact de_int
            · exact da_nil
        · exact da_nil
  · refine dss_cons ?_ ?_
    · refine ds_par2 (i := 3) (j := 4) rfl nd rfl rfl (by decide) rfl rfl ?_ rfl
      · refine da_cons ?_ ?_
        · refine de_op dop_add ?_ ?_
          · exact de_var (pv 1)
          · refine de_tup ?_
            · refine da_cons ?_ ?_
              · exact de_int
              · exact da_nil
        · refine da_cons ?_ ?_
          · refine de_callB dc_len rfl Tx.z_len PySem.boot_len ?_
            · refine da_cons ?_ ?_
              · refine de_ix dix ?_ ?_
                · exact de_var (pv 0)
                · exact de_int
              · exact da_nil
          · exact da_nil
    · refine dss_cons ?_ ?_
      · refine ds_set (i := 5) nd rfl (by first | exact Or.inl rfl | exact Or.inr rfl) ?_
        · refine de_lst ?_
          · refine da_cons ?_ ?_
            · refine de_tup ?_
              · refine da_cons ?_ ?_
                · refine de_op dop_add ?_ ?_
                  · exact de_var (pv 4)
                  · exact de_int
                · refine da_cons ?_ ?_
                  · refine de_tup ?_
                    · refine da_cons ?_ ?_
                      · exact de_var (pv 1)
                      · exact da_nil
                  · refine da_cons ?_ ?_
                    · refine de_tup ?_
                      · refine da_cons ?_ ?_
                        · exact de_var (pv 1)
                        · exact da_nil
                    · exact da_nil
            · refine da_cons ?_ ?_
              · refine de_tup ?_
                · refine da_cons ?_ ?_
                  · refine de_neg ?_
                    · exact de_int
                  · refine da_cons ?_ ?_
                    · refine de_tup ?_
                      · refine da_cons ?_ ?_
                        · exact de_var (pv 1)
                        · exact da_nil
                    · refine da_cons ?_ ?_
                      · refine de_tup ?_
                        · refine da_cons ?_ ?_
                          · exact de_var (pv 1)
                          · exact da_nil
                      · exact da_nil
              · refine da_cons ?_ ?_
                · refine de_tup ?_
                  · refine da_cons ?_ ?_
                    · exact de_bool
                    · refine da_cons ?_ ?_
                      · refine de_tup ?_
                        · refine da_cons ?_ ?_
                          · exact de_var (pv 1)
                          · exact da_nil
                      · refine da_cons ?_ ?_
                        · refine de_tup ?_
                          · refine da_cons ?_ ?_
                            · exact de_var (pv 1)
                            · exact da_nil
                        · exact da_nil
                · refine da_cons ?_ ?_
                  · refine de_tup ?_
                    · refine da_cons ?_ ?_
                      · exact de_str
                      · refine da_cons ?_ ?_
                        · refine de_tup ?_
                          · refine da_cons ?_ ?_
                            · exact de_var (pv 1)
                            · exact da_nil
                        · refine da_cons ?_ ?_
                          · refine de_tup ?_
                            · refine da_cons ?_ ?_
                              · exact de_var (pv 1)
                              · exact da_nil
                          · exact da_nil
                  · exact da_nil
      · refine dss_cons ?_ ?_
        · refine ds_for (is := [6]) PassesOwn.never rfl ?_ ?_ ?_
          · refine di_seq ?_
            · refine de_tup ?_
              · refine da_cons ?_ ?_
                · refine de_tup ?_
                  · exact da_nil
                · refine da_cons ?_ ?_
                  · refine de_tup ?_
                    · refine da_cons ?_ ?_
                      · exact de_var (pv 1)
                      · refine da_cons ?_ ?_
                        · exact de_var (pv 1)
                        · exact da_nil
                  · refine da_cons ?_ ?_
                    · refine de_tup ?_
                      · refine da_cons ?_ ?_
                        · exact de_var (pv 2)
                        · refine da_cons ?_ ?_
                          · exact de_var (pv 1)
                          · exact da_nil
                    · refine da_cons ?_ ?_
                      · refine de_tup ?_
                        · refine da_cons ?_ ?_
                          · exact de_var (pv 3)
                          · exact da_nil
                      · refine da_cons ?_ ?_
                        · refine de_tup ?_
                          · refine da_cons ?_ ?_
                            · refine de_slice hKF ?_ ?_ ?_
                              · exact de_var (pv 1)
                              · refine do_some ?_
                                · exact de_int
                              · exact do_none
                            · exact da_nil
                        · refine da_cons ?_ ?_
                          · exact de_var (pv 1)
                          · refine da_cons ?_ ?_
                            · refine de_lst ?_
                              · refine da_cons ?_ ?_
                                · exact de_var (pv 1)
                                · exact da_nil
                            · refine da_cons ?_ ?_
                              · refine de_tup ?_
                                · refine da_cons ?_ ?_
                                  · exact de_var (pv 1)
                                  · refine da_cons ?_ ?_
                                    · exact de_none
                                    · exact da_nil
                              · refine da_cons ?_ ?_
                                · refine de_tup ?_
                                  · refine da_cons ?_ ?_
                                    · refine de_op dop_mul ?_ ?_
                                      · refine de_lst ?_
                                        · refine da_cons ?_ ?_
                                          · exact de_int
                                          · exact da_nil
                                      · refine de_callB dc_len rfl Tx.z_len PySem.boot_len ?_
                                        · refine da_cons ?_ ?_
                                          · exact de_var (pv 1)
                                          · exact da_nil
                                    · exact da_nil
                                · exact da_nil
          · exact dg_name (pg_name (i := 6) nd rfl (by first | exact Or.inl rfl | exact Or.inr rfl))
          · refine dss_one ?_
            · refine ds_set (i := 5) nd rfl (by first | exact Or.inl rfl | exact Or.inr rfl) ?_
              · refine de_op dop_add ?_ ?_
                · exact de_var (pv 5)
                · refine de_lst ?_
                  · refine da_cons ?_ ?_
                    · refine de_tup ?_
                      · refine da_cons ?_ ?_
                        · exact de_var (pv 4)
                        · refine da_cons ?_ ?_
                          · exact de_var (pv 6)
                          · refine da_cons ?_ ?_
                            · refine de_tup ?_
                              · refine da_cons ?_ ?_
                                · exact de_var (pv 1)
                                · exact da_nil
                            · exact da_nil
                    · refine da_cons ?_ ?_
                      · refine de_tup ?_
                        · refine da_cons ?_ ?_
                          · exact de_var (pv 4)
                          · refine da_cons ?_ ?_
                            · refine de_tup ?_
                              · refine da_cons ?_ ?_
                                · exact de_var (pv 1)
                                · exact da_nil
                            · refine da_cons ?_ ?_
                              · exact de_var (pv 6)
                              · exact da_nil
                      · exact da_nil
        · refine dss_cons ?_ ?_
          · refine ds_par2 (i := 7) (j := 8) rfl nd rfl rfl (by decide) rfl rfl ?_ rfl
            · refine da_cons ?_ ?_
              · refine de_callTy dc_tuple rfl Tx.z_tuple PyProof.Rows.boot_tuple ?_
                · refine da_cons ?_ ?_
                  · refine de_op dop_add ?_ ?_
                    · refine de_lst ?_
                      · refine da_cons ?_ ?_
                        · exact de_bool
                        · exact da_nil
                    · refine de_op dop_mul ?_ ?_
                      · refine de_lst ?_
                        · refine da_cons ?_ ?_
                          · exact de_int
                          · exact da_nil
                      · refine de_op dop_sub ?_ ?_
                        · refine de_callB dc_len rfl Tx.z_len PySem.boot_len ?_
                          · refine da_cons ?_ ?_
                            · exact de_var (pv 1)
                            · exact da_nil
                        · exact de_int
                  · exact da_nil
              · refine da_cons ?_ ?_
                · refine de_ix dix ?_ ?_
                  · exact de_var (pv 0)
                  · exact de_int
                · exact da_nil
          · refine dss_cons ?_ ?_
            · refine ds_set (i := 5) nd rfl (by first | exact Or.inl rfl | exact Or.inr rfl) ?_
              · refine de_op dop_add ?_ ?_
                · exact de_var (pv 5)
                · refine de_lst ?_
                  · refine da_cons ?_ ?_
                    · refine de_tup ?_
                      · refine da_cons ?_ ?_
                        · exact de_var (pv 4)
                        · refine da_cons ?_ ?_
                          · refine de_tup ?_
                            · refine da_cons ?_ ?_
                              · exact de_var (pv 7)
                              · exact da_nil
                          · refine da_cons ?_ ?_
                            · refine de_tup ?_
                              · refine da_cons ?_ ?_
                                · exact de_var (pv 1)
                                · exact da_nil
                            · exact da_nil
                    · refine da_cons ?_ ?_
                      · refine de_tup ?_
                        · refine da_cons ?_ ?_
                          · exact de_var (pv 4)
                          · refine da_cons ?_ ?_
                            · refine de_tup ?_
                              · refine da_cons ?_ ?_
                                · exact de_var (pv 1)
                                · exact da_nil
                            · exact da_nil
                      · refine da_cons ?_ ?_
                        · refine de_tup ?_
                          · refine da_cons ?_ ?_
                            · exact de_var (pv 4)
                            · refine da_cons ?_ ?_
                              · refine de_tup ?_
                                · refine da_cons ?_ ?_
                                  · exact de_var (pv 1)
                                  · exact da_nil
                              · refine da_cons ?_ ?_
                                · refine de_tup ?_
                                  · refine da_cons ?_ ?_
                                    · exact de_var (pv 1)
                                    · exact da_nil
                                · refine da_cons ?_ ?_
                                  · refine de_tup ?_
                                    · exact da_nil
                                  · exact da_nil
                        · refine da_cons ?_ ?_
                          · refine de_lst ?_
                            · refine da_cons ?_ ?_
                              · exact de_var (pv 4)
                              · refine da_cons ?_ ?_
                                · refine de_tup ?_
                                  · refine da_cons ?_ ?_
                                    · exact de_var (pv 1)
                                    · exact da_nil
                                · refine da_cons ?_ ?_
                                  · refine de_tup ?_
                                    · refine da_cons ?_ ?_
                                      · exact de_var (pv 1)
                                      · exact da_nil
                                  · exact da_nil
                          · exact da_nil
            · refine dss_one ?_
              · refine ds_ret ?_
                · refine de_op dop_add ?_ ?_
                  · exact de_var (pv 5)
                  · refine de_lst ?_
                    · refine da_cons ?_ ?_
                      · refine de_tup ?_
                        · refine da_cons ?_ ?_
                          · exact de_var (pv 4)
                          · refine da_cons ?_ ?_
                            · refine de_tup ?_
                              · refine da_cons ?_ ?_
                                · exact de_var (pv 8)
                                · exact da_nil
                            · refine da_cons ?_ ?_
                              · refine de_tup ?_
                                · refine da_cons ?_ ?_
                                  · exact de_var (pv 1)
                                  · exact da_nil
                              · exact da_nil
                      · refine da_cons ?_ ?_
                        · refine de_tup ?_
                          · refine da_cons ?_ ?_
                            · exact de_var (pv 4)
                            · refine da_cons ?_ ?_
                              · refine de_tup ?_
                                · refine da_cons ?_ ?_
                                  · exact de_var (pv 1)
                                  · exact da_nil
                              · refine da_cons ?_ ?_
                                · refine de_tup ?_
                                  · refine da_cons ?_ ?_
                                    · refine de_op dop_add ?_ ?_
                                      · refine de_tup ?_
                                        · refine da_cons ?_ ?_
                                          · refine de_neg ?_
                                            · exact de_int
                                          · exact da_nil
                                      · refine de_slice hKF ?_ ?_ ?_
                                        · exact de_var (pv 1)
                                        · refine do_some ?_
                                          · exact de_int
                                        · exact do_none
                                    · exact da_nil
                                · exact da_nil
                        · refine da_cons ?_ ?_
                          · exact de_none
                          · refine da_cons ?_ ?_
                            · refine de_tup ?_
                              · exact da_nil
                            · exact da_nil)
end
end K49
namespace K49
open PySem PySem.Spec PyProof.Rows L2 DL
section
variable [KFrag] {P : Program} {w : World} {K : PySem.W.Frag} {mg : Str → Option Value} {base : Heap} {a : Nat → Addr} {d : Nat → FuncData} {T : TX} {c ci : Nat → Addr}
theorem xlaw_ok (hKF : K = KFrag.K) (Tx : Txt K mg a d T c ci) : FnOk P w K mg base CX0 8 (a 9) (d 9) ["_law_script"] (spD T 1 (noX xlaw_r)) :=
  fn_ok (g := xlaw_g) Tx.F9 xlaw_sc rfl rfl fun cdv A outer s H E hr => (by
  have nd := xlaw_sc.nd
  refine dss_cons ?_ ?_
  · refine ds_set (i := 1) nd rfl (by first | exact Or.inl rfl | exact Or.inr rfl) ?_
    · refine de_op dop_add ?_ ?_
      · refine de_lc (is := [12]) (own := [("_law_cell", 12)]) rfl nd ?_ (blkOk_by (N := xlaw_N) (sc := defScope xlaw_s) (own := [("_law_cell", 12)]) (by decide +kernel)) (by decide) ?_ ?_ ?_
        · refine di_seq ?_
          · refine de_slice hKF ?_ ?_ ?_
            · exact de_var (pv 0)
            · exact do_none
            · refine do_some ?_
              · exact de_int
        · refine fun _ _ _ _ _ => ?_
          · exact dg_name (pg_name (i := 12) nd rfl (by first | exact Or.inl rfl | exact Or.inr rfl))
        · refine fun _ _ _ _ _ => ?_
          · exact dts_nil
        · refine fun _ _ _ _ _ => ?_
          · refine de_callB dc_abs rfl Tx.z_abs PyProof.Rows.boot_abs ?_
            · refine da_cons ?_ ?_
              · refine de_callTy dc_int rfl Tx.z_int PyProof.Rows.boot_int ?_
                · refine da_cons ?_ ?_
                  · exact de_var (pv 12)
                  · exact da_nil
              · exact da_nil
      · refine de_lst ?_
        · refine da_cons ?_ ?_
          · exact de_int
          · exact da_nil
  · refine dss_cons ?_ ?_
    · refine ds_set (i := 2) nd rfl (by first | exact Or.inl rfl | exact Or.inr rfl) ?_
      · refine de_op dop_add ?_ ?_
        · exact de_int
        · refine de_op dop_mod ?_ ?_
          · refine de_callTy dc_int rfl Tx.z_int PyProof.Rows.boot_int ?_
            · refine da_cons ?_ ?_
              · refine de_ix dix ?_ ?_
                · exact de_var (pv 1)
                · exact de_int
              · exact da_nil
          · exact de_int
    · refine dss_cons ?_ ?_
      · refine ds_for (is := [3]) PassesOwn.never rfl ?_ ?_ ?_
        · refine di_seq ?_
          · refine de_tup ?_
            · refine da_cons ?_ ?_
              · refine de_tup ?_
                · refine da_cons ?_ ?_
                  · exact de_var (pv 2)
                  · exact da_nil
              · refine da_cons ?_ ?_
                · refine de_tup ?_
                  · refine da_cons ?_ ?_
                    · exact de_int
                    · refine da_cons ?_ ?_
                      · exact de_int
                      · exact da_nil
                · refine da_cons ?_ ?_
                  · refine de_tup ?_
                    · refine da_cons ?_ ?_
                      · exact de_int
                      · refine da_cons ?_ ?_
                        · exact de_int
                        · refine da_cons ?_ ?_
                          · exact de_int
                          · exact da_nil
                  · exact da_nil
        · exact dg_name (pg_name (i := 3) nd rfl (by first | exact Or.inl rfl | exact Or.inr rfl))
        · refine dss_cons ?_ ?_
          · refine ds_set (i := 4) nd rfl (by first | exact Or.inl rfl | exact Or.inr rfl) ?_
            · refine de_op dop_mul ?_ ?_
              · refine de_tup ?_
                · refine da_cons ?_ ?_
                  · exact de_int
                  · exact da_nil
              · refine de_callB dc_len rfl Tx.z_len PySem.boot_len ?_
                · refine da_cons ?_ ?_
                  · exact de_var (pv 3)
                  · exact da_nil
          · refine dss_cons ?_ ?_
            · refine ds_set (i := 5) nd rfl (by first | exact Or.inl rfl | exact Or.inr rfl) ?_
              · refine de_tup ?_
                · refine da_cons ?_ ?_
                  · exact de_var (pv 3)
                  · refine da_cons ?_ ?_
                    · exact de_var (pv 4)
                    · refine da_cons ?_ ?_
                      · refine de_tup ?_
                        · refine da_cons ?_ ?_
                          · refine de_tup ?_
                            · exact da_nil
                          · refine da_cons ?_ ?_
                            · refine de_tup ?_
                              · refine da_cons ?_ ?_
                                · refine de_tup ?_
                                  · refine da_cons ?_ ?_
                                    · exact de_str
                                    · refine da_cons ?_ ?_
                                      · exact de_int
                                      · refine da_cons ?_ ?_
                                        · exact de_int
                                        · exact da_nil
                                · exact da_nil
                            · exact da_nil
                      · exact da_nil
            · refine dss_cons ?_ ?_
              · refine ds_par2 (i := 6) (j := 7) rfl nd rfl rfl (by decide) rfl rfl ?_ rfl
                · refine da_cons ?_ ?_
                  · exact de_var (pv 4)
                  · refine da_cons ?_ ?_
                    · refine de_callTy dc_tuple rfl Tx.z_tuple PyProof.Rows.boot_tuple ?_
                      · refine da_cons ?_ ?_
                        · refine de_lc (is := [13]) (own := [("_law_one", 13)]) rfl nd ?_ (blkOk_by (N := xlaw_N) (sc := defScope xlaw_s) (own := [("_law_one", 13)]) (by decide +kernel)) (by decide) ?_ ?_ ?_
                          · refine di_seq ?_
                            · exact de_var (pv 3)
                          · refine fun _ _ _ _ _ => ?_
                            · exact dg_name (pg_name (i := 13) nd rfl (by first | exact Or.inl rfl | exact Or.inr rfl))
                          · refine fun _ _ _ _ _ => ?_
                            · exact dts_nil
                          · refine fun _ _ _ _ _ => ?_
                            · refine de_op dop_sub ?_ ?_
                              · exact de_var (pv 13)
                              · exact de_int
                        · exact da_nil
                    · exact da_nil
              · refine dss_cons ?_ ?_
                · refine ds_set (i := 8) nd rfl (by first | exact Or.inl rfl | exact Or.inr rfl) ?_
                  · refine de_tup ?_
                    · refine da_cons ?_ ?_
                      · exact de_int
                      · refine da_cons ?_ ?_
                        · refine de_tup ?_
                          · refine da_cons ?_ ?_
                            · exact de_var (pv 6)
                            · refine da_cons ?_ ?_
                              · exact de_var (pv 7)
                              · exact da_nil
                        · refine da_cons ?_ ?_
                          · refine de_tup ?_
                            · refine da_cons ?_ ?_
                              · exact de_var (pv 7)
                              · exact da_nil
                          · exact da_nil
                · refine dss_cons ?_ ?_
                  · refine ds_if ?_ ?_ ?_
                    · refine dt_cmp (dop_ne hr.units) ?_ ?_
                      · refine de_lc (is := [14]) (own := [("_law_many", 14)]) rfl nd ?_ (blkOk_by (N := xlaw_N) (sc := defScope xlaw_s) (own := [("_law_many", 14)]) (by decide +kernel)) (by decide) ?_ ?_ ?_
                        · refine di_seq ?_
                          · refine de_tup ?_
                            · refine da_cons ?_ ?_
                              · exact de_int
                              · refine da_cons ?_ ?_
                                · exact de_int
                                · refine da_cons ?_ ?_
                                  · exact de_int
                                  · refine da_cons ?_ ?_
                                    · exact de_int
                                    · exact da_nil
                        · refine fun _ _ _ _ _ => ?_
                          · exact dg_name (pg_name (i := 14) nd rfl (by first | exact Or.inl rfl | exact Or.inr rfl))
                        · refine fun _ _ _ _ _ => ?_
                          · exact dts_nil
                        · refine fun _ _ _ _ _ => ?_
                          · refine de_callP (y_law_outcome_ok hKF Tx) (hr.mono (by decide)) rfl Tx.M7 Tx.F7.kp Tx.B7 ?_
                            · refine da_cons ?_ ?_
                              · exact de_var (pv 5)
                              · refine da_cons ?_ ?_
                                · refine de_op dop_mul ?_ ?_
                                  · refine de_tup ?_
                                    · refine da_cons ?_ ?_
                                      · exact de_var (pv 8)
                                      · exact da_nil
                                  · exact de_var (pv 14)
                                · exact da_nil
                      · refine de_lst ?_
                        · refine da_cons ?_ ?_
                          · exact de_bool
                          · refine da_cons ?_ ?_
                            · exact de_bool
                            · refine da_cons ?_ ?_
                              · exact de_bool
                              · refine da_cons ?_ ?_
                                · refine de_lst ?_
                                  · refine da_cons ?_ ?_
                                    · exact de_none
                                    · exact da_nil
                                · exact da_nil
                    · refine dss_one ?_
                      · refine ds_ret ?_
                        · exact de_bool
                    · exact dss_nil
                  · refine dss_cons ?_ ?_
                    · refine ds_if ?_ ?_ ?_
                      · refine dt_not ?_
                        · refine dt_val ?_
                          · refine de_callP (y_law_outcome_ok hKF Tx) (hr.mono (by decide)) rfl Tx.M7 Tx.F7.kp Tx.B7 ?_
                            · refine da_cons ?_ ?_
                              · exact de_var (pv 5)
                              · refine da_cons ?_ ?_
                                · refine de_tup ?_
                                  · refine da_cons ?_ ?_
                                    · refine de_tup ?_
                                      · refine da_cons ?_ ?_
                                        · exact de_int
                                        · refine da_cons ?_ ?_
                                          · refine de_tup ?_
                                            · refine da_cons ?_ ?_
                                              · exact de_var (pv 7)
                                              · exact da_nil
                                          · refine da_cons ?_ ?_
                                            · refine de_tup ?_
                                              · refine da_cons ?_ ?_
                                                · exact de_var (pv 6)
                                                · exact da_nil
                                            · exact da_nil
                                    · refine da_cons ?_ ?_
                                      · refine de_tup ?_
                                        · refine da_cons ?_ ?_
                                          · exact de_int
                                          · refine da_cons ?_ ?_
                                            · refine de_tup ?_
                                              · refine da_cons ?_ ?_
                                                · exact de_var (pv 6)
                                                · exact da_nil
                                            · refine da_cons ?_ ?_
                                              · refine de_tup ?_
                                                · refine da_cons ?_ ?_
                                                  · exact de_var (pv 6)
                                                  · exact da_nil
                                              · exact da_nil
                                      · refine da_cons ?_ ?_
                                        · refine de_tup ?_
                                          · refine da_cons ?_ ?_
                                            · exact de_int
                                            · refine da_cons ?_ ?_
                                              · refine de_tup ?_
                                                · refine da_cons ?_ ?_
                                                  · exact de_var (pv 6)
                                                  · exact da_nil
                                              · refine da_cons ?_ ?_
                                                · refine de_tup ?_
                                                  · refine da_cons ?_ ?_
                                                    · exact de_var (pv 6)
                                                    · exact da_nil
                                                · exact da_nil
                                        · exact da_nil
                                · exact da_nil
                      · refine dss_one ?_
                        · refine ds_ret ?_
                          · exact de_bool
                      · exact dss_nil
                    · refine dss_one ?_
                      · refine ds_for (is := [9]) PassesOwn.never rfl ?_ ?_ ?_
                        · refine di_seq ?_
                          · refine de_callP (y_law_wrong_ok hKF Tx) (hr.mono (by decide)) rfl Tx.M8 Tx.F8.kp Tx.B8 ?_
                            · refine da_cons ?_ ?_
                              · exact de_var (pv 5)
                              · exact da_nil
                        · exact dg_name (pg_name (i := 9) nd rfl (by first | exact Or.inl rfl | exact Or.inr rfl))
                        · refine dss_cons ?_ ?_
                          · refine ds_set (i := 10) nd rfl (by first | exact Or.inl rfl | exact Or.inr rfl) ?_
                            · refine de_lst ?_
                              · refine da_cons ?_ ?_
                                · refine de_tup ?_
                                  · refine da_cons ?_ ?_
                                    · exact de_var (pv 9)
                                    · exact da_nil
                                · refine da_cons ?_ ?_
                                  · refine de_tup ?_
                                    · refine da_cons ?_ ?_
                                      · exact de_var (pv 8)
                                      · refine da_cons ?_ ?_
                                        · exact de_var (pv 9)
                                        · exact da_nil
                                  · refine da_cons ?_ ?_
                                    · refine de_tup ?_
                                      · refine da_cons ?_ ?_
                                        · exact de_var (pv 9)
                                        · refine da_cons ?_ ?_
                                          · exact de_var (pv 8)
                                          · refine da_cons ?_ ?_
                                            · exact de_var (pv 9)
                                            · exact da_nil
                                    · refine da_cons ?_ ?_
                                      · refine de_op dop_add ?_ ?_
                                        · refine de_op dop_mul ?_ ?_
                                          · refine de_tup ?_
                                            · refine da_cons ?_ ?_
                                              · exact de_var (pv 8)
                                              · exact da_nil
                                          · exact de_int
                                        · refine de_tup ?_
                                          · refine da_cons ?_ ?_
                                            · exact de_var (pv 9)
                                            · exact da_nil
                                      · exact da_nil
                          · refine dss_cons ?_ ?_
                            · refine ds_setLc (i := 11) (is := [15]) (own := [("_law_rules", 15)]) rfl nd rfl rfl (sw_true rfl rfl rfl (by decide +kernel)) ?_ (blkOk_by (N := xlaw_N) (sc := defScope xlaw_s) (own := [("_law_rules", 15)]) (by decide +kernel)) (by decide) ?_ ?_ ?_
                              · refine di_seq ?_
                                · exact de_var (pv 10)
                              · refine fun _ _ _ _ _ => ?_
                                · exact dg_name (pg_name (i := 15) nd rfl (by first | exact Or.inl rfl | exact Or.inr rfl))
                              · refine fun _ _ _ _ _ => ?_
                                · exact dts_nil
                              · refine fun _ _ _ _ _ => ?_
                                · refine de_callP (y_law_outcome_ok hKF Tx) (hr.mono (by decide)) rfl Tx.M7 Tx.F7.kp Tx.B7 ?_
                                  · refine da_cons ?_ ?_
                                    · exact de_var (pv 5)
                                    · refine da_cons ?_ ?_
                                      · exact de_var (pv 15)
                                      · exact da_nil
                            · refine dss_one ?_
                              · refine ds_if ?_ ?_ ?_
                                · refine dt_w ?_
                                  · refine dw_or ?_ ?_
                                    · refine dt_cmp (dop_ne hr.units) ?_ ?_
                                      · exact de_var (pv 11)
                                      · refine de_lst ?_
                                        · refine da_cons ?_ ?_
                                          · refine de_lst ?_
                                            · refine da_cons ?_ ?_
                                              · exact de_int
                                              · exact da_nil
                                          · refine da_cons ?_ ?_
                                            · refine de_lst ?_
                                              · refine da_cons ?_ ?_
                                                · exact de_int
                                                · exact da_nil
                                            · refine da_cons ?_ ?_
                                              · refine de_lst ?_
                                                · refine da_cons ?_ ?_
                                                  · exact de_int
                                                  · exact da_nil
                                              · refine da_cons ?_ ?_
                                                · refine de_lst ?_
                                                  · refine da_cons ?_ ?_
                                                    · exact de_int
                                                    · exact da_nil
                                                · exact da_nil
                                    · refine dw_or1 ?_
                                      · refine dt_cmp (dop_ne hr.units) ?_ ?_
                                        · refine de_callP (y_law_outcome_ok hKF Tx) (hr.mono (by decide)) rfl Tx.M7 Tx.F7.kp Tx.B7 ?_
                                          · refine da_cons ?_ ?_
                                            · exact de_var (pv 5)
                                            · refine da_cons ?_ ?_
                                              · refine de_op dop_add ?_ ?_
                                                · refine de_op dop_mul ?_ ?_
                                                  · refine de_tup ?_
                                                    · refine da_cons ?_ ?_
                                                      · exact de_var (pv 8)
                                                      · exact da_nil
                                                  · exact de_int
                                                · refine de_tup ?_
                                                  · refine da_cons ?_ ?_
                                                    · exact de_var (pv 9)
                                                    · exact da_nil
                                              · exact da_nil
                                        · refine de_lst ?_
                                          · refine da_cons ?_ ?_
                                            · exact de_none
                                            · exact da_nil
                                · refine dss_one ?_
                                  · refine ds_ret ?_
                                    · exact de_bool
                                · exact dss_nil
      · refine dss_one ?_
        · refine ds_ret ?_
          · exact de_bool)
end
end K49
namespace K49
open PySem PySem.Spec PyProof.Rows L2 DL
def env3 (w0 w1 : W) (v : Int) : En := [some w0, some w1, some (.d (.int v)), none, none, none, none, none, none, none, none, none, none, none, none, none]
theorem cases7 (w0 w1 : W) (v : Int) (h : v = 2 ∨ v = 3 ∨ v = 4 ∨ v = 5 ∨ v = 6 ∨ v = 7 ∨ v = 8) : xlaw_t2 (env3 w0 w1 v) [] = .rt (.d (.bool true)) [] := by
  rcases h with rfl | rfl | rfl | rfl | rfl | rfl | rfl
  · kernel_rfl
  · kernel_rfl
  · kernel_rfl
  · kernel_rfl
  · kernel_rfl
  · kernel_rfl
  · kernel_rfl
theorem start0 (ns : List Int) : ∃ w1 v, (v = 2 ∨ v = 3 ∨ v = 4 ∨ v = 5 ∨ v = 6 ∨ v = 7 ∨ v = 8) ∧ xlaw_g (startE 16 [.sc ns]) [] = xlaw_t2 (env3 (.sc ns) w1 v) [] := by
  cases ns with
  | nil => exact ⟨.d (.list [.int 5]), 7, by omega, by kernel_rfl⟩
  | cons n r =>
    refine ⟨.d (.list [.int (if n < 0 then -n else n), .int 5]), 2 + (if n < 0 then -n else n) % 7, by omega, ?_⟩
    have e1 : xlaw_g (startE 16 [.sc (n :: r)]) [] = xlaw_t1 [some (.sc (n :: r)), some (.d (.list [.int (if n < 0 then -n else n), .int 5])), none, none, none, none, none, none, none, none, none, none, none, none, none, none] [] := by kernel_rfl
    rw [e1]
    kernel_rfl
theorem HLAW : LawTrue xlaw_r := by
  intro ns _
  obtain ⟨w1, v, hv, e⟩ := start0 ns
  refine ⟨[], ?_⟩
  show (if [W.sc ns].length = 1 then _ else _) = _
  rw [if_pos (show [W.sc ns].length = 1 from rfl), e, cases7 _ _ _ hv]
/-! what the top has written; the law -/
theorem all_mk {l : PySem.W.OpenLaw} {w : World} {K : PySem.W.Frag} {h : Heap} {mg : Str → Option Value} {fa f0 f1 f2 f3 f4 f5 f6 f7 f8 f9 : Addr} (X : K.In h) (G : h.Ns mainGlobals mg) (hfa : mg "law" = some (.ref fa)) (HL : LawTrue xlaw_r)
    {od0 an0 od1 an1 od2 an2 od3 an3 od4 an4 od5 an5 od6 an6 od7 an7 od8 an8 od9 an9 : Option Addr} {sl0 sl1 sl2 sl3 sl4 sl5 sl6 sl7 sl8 sl9 : Array (Option Value)} {oc0 kV0 dc0 pm0 cd0 ct0 oc1 kV1 dc1 pm1 cd1 ct1 oc2 kV2 dc2 pm2 cd2 ct2 oc3 kV3 dc3 pm3 cd3 ct3 oc4 kV4 dc4 pm4 cd4 ct4 oc5 kV5 dc5 pm5 cd5 ct5 oc6 kV6 dc6 pm6 cd6 ct6 oc7 kV7 dc7 pm7 cd7 ct7 oc8 kV8 dc8 pm8 cd8 ct8 oc9 kV9 dc9 pm9 cd9 ct9 : Value}
    (a0 : PySem.W.nsIn K mainGlobals "is_integer" = some (some (.ref f0))) (l0 : K.lookup f0 = some ⟨oc0, od0, .func (PySem.W.fnOf "is_integer" "is_integer" (defArgs xis_integer_s) (defBody xis_integer_s) (defScope xis_integer_s) .none kV0 dc0 pm0 an0 cd0 ct0), sl0⟩) (c0 : PySem.W.codeIn K cd0 "is_integer" = true) (k0 : PySem.W.keepIn K (.ref f0) = true)
    (a1 : PySem.W.nsIn K mainGlobals "is_index" = some (some (.ref f1))) (l1 : K.lookup f1 = some ⟨oc1, od1, .func (PySem.W.fnOf "is_index" "is_index" (defArgs xis_index_s) (defBody xis_index_s) (defScope xis_index_s) .none kV1 dc1 pm1 an1 cd1 ct1), sl1⟩) (c1 : PySem.W.codeIn K cd1 "is_index" = true) (k1 : PySem.W.keepIn K (.ref f1) = true)
    (a2 : PySem.W.nsIn K mainGlobals "is_content" = some (some (.ref f2))) (l2 : K.lookup f2 = some ⟨oc2, od2, .func (PySem.W.fnOf "is_content" "is_content" (defArgs xis_content_s) (defBody xis_content_s) (defScope xis_content_s) .none kV2 dc2 pm2 an2 cd2 ct2), sl2⟩) (c2 : PySem.W.codeIn K cd2 "is_content" = true) (k2 : PySem.W.keepIn K (.ref f2) = true)
    (a3 : PySem.W.nsIn K mainGlobals "are_contents" = some (some (.ref f3))) (l3 : K.lookup f3 = some ⟨oc3, od3, .func (PySem.W.fnOf "are_contents" "are_contents" (defArgs xare_contents_s) (defBody xare_contents_s) (defScope xare_contents_s) .none kV3 dc3 pm3 an3 cd3 ct3), sl3⟩) (c3 : PySem.W.codeIn K cd3 "are_contents" = true) (k3 : PySem.W.keepIn K (.ref f3) = true)
    (a4 : PySem.W.nsIn K mainGlobals "require_rules" = some (some (.ref f4))) (l4 : K.lookup f4 = some ⟨oc4, od4, .func (PySem.W.fnOf "require_rules" "require_rules" (defArgs xrequire_rules_s) (defBody xrequire_rules_s) (defScope xrequire_rules_s) .none kV4 dc4 pm4 an4 cd4 ct4), sl4⟩) (c4 : PySem.W.codeIn K cd4 "require_rules" = true) (k4 : PySem.W.keepIn K (.ref f4) = true)
    (a5 : PySem.W.nsIn K mainGlobals "is_item" = some (some (.ref f5))) (l5 : K.lookup f5 = some ⟨oc5, od5, .func (PySem.W.fnOf "is_item" "is_item" (defArgs xis_item_s) (defBody xis_item_s) (defScope xis_item_s) .none kV5 dc5 pm5 an5 cd5 ct5), sl5⟩) (c5 : PySem.W.codeIn K cd5 "is_item" = true) (k5 : PySem.W.keepIn K (.ref f5) = true)
    (a6 : PySem.W.nsIn K mainGlobals "_is_rule" = some (some (.ref f6))) (l6 : K.lookup f6 = some ⟨oc6, od6, .func (PySem.W.fnOf "_is_rule" "_is_rule" (defArgs y_is_rule_s) (defBody y_is_rule_s) (defScope y_is_rule_s) .none kV6 dc6 pm6 an6 cd6 ct6), sl6⟩) (c6 : PySem.W.codeIn K cd6 "_is_rule" = true) (k6 : PySem.W.keepIn K (.ref f6) = true)
    (a7 : PySem.W.nsIn K mainGlobals "_law_outcome" = some (some (.ref f7))) (l7 : K.lookup f7 = some ⟨oc7, od7, .func (PySem.W.fnOf "_law_outcome" "_law_outcome" (defArgs y_law_outcome_s) (defBody y_law_outcome_s) (defScope y_law_outcome_s) .none kV7 dc7 pm7 an7 cd7 ct7), sl7⟩) (c7 : PySem.W.codeIn K cd7 "_law_outcome" = true) (k7 : PySem.W.keepIn K (.ref f7) = true)
    (a8 : PySem.W.nsIn K mainGlobals "_law_wrong" = some (some (.ref f8))) (l8 : K.lookup f8 = some ⟨oc8, od8, .func (PySem.W.fnOf "_law_wrong" "_law_wrong" (defArgs y_law_wrong_s) (defBody y_law_wrong_s) (defScope y_law_wrong_s) .none kV8 dc8 pm8 an8 cd8 ct8), sl8⟩) (c8 : PySem.W.codeIn K cd8 "_law_wrong" = true) (k8 : PySem.W.keepIn K (.ref f8) = true)
    (a9 : PySem.W.nsIn K mainGlobals "law" = some (some (.ref f9))) (l9 : K.lookup f9 = some ⟨oc9, od9, .func (PySem.W.fnOf "law" "law" (defArgs xlaw_s) (defBody xlaw_s) (defScope xlaw_s) .none kV9 dc9 pm9 an9 cd9 ct9), sl9⟩) (c9 : PySem.W.codeIn K cd9 "law" = true) (k9 : PySem.W.keepIn K (.ref f9) = true)
    {C0 fi0 : Addr} {nm0 q0 : Str} {N0 : Addr} {bs0 : List Value} {sn0 : List Str} {sub0 : List Value} {ab0 : Bool} {col0 : Option Bool} {dd0 : Option Addr} {u0a u0b u0c u0d u0e : Option Value} {ic0 idc0 ipm0 icd0 ict0 : Value} {iod0 ian0 : Option Addr} {isl0 : Array (Option Value)} {p0a p0b p0c p0d p0e p0f : Pos}
    (aC0 : PySem.W.nsIn K mainGlobals "InvalidRules" = some (some (.ref C0))) (xL0 : K.lookup C0 = some (excClassObj nm0 q0 C0 N0 bs0 [.type "ValueError", .type "Exception", .type "BaseException", .type "object"] true sn0 sub0 ab0 col0 dd0 u0a u0b u0c u0d u0e "ValueError.__new__"))
    (sa0 : PySem.W.findIn K (.ref C0) "__setattr__" = some (some (.builtin "object.__setattr__"))) (ga0 : PySem.W.findIn K (.ref C0) "__getattribute__" = some (some (.builtin "BaseException.__getattribute__"))) (gg0 : PySem.W.findIn K (.ref C0) "__getattr__" = some none) (nb0 : PySem.W.findIn K (.ref C0) "index" = some none)
    (ia0 : PySem.W.findIn K (.ref C0) "__init__" = some (some (.ref fi0))) (it0 : PySem.W.typeIn K (.ref fi0) = some (.type "function"))
    (il0 : K.lookup fi0 = some ⟨ic0, iod0, .func (PySem.W.fnOf "__init__" "InvalidRules.__init__" (PySem.Er_InvalidRules.iA p0a p0b) (PySem.Er_InvalidRules.iB p0c p0d p0e p0f) PySem.Er_InvalidRules.iS .none .none idc0 ipm0 ian0 icd0 ict0), isl0⟩) (icc0 : PySem.W.codeIn K icd0 "InvalidRules.__init__" = true)
    (kC0 : PySem.W.keepIn K (.ref C0) = true) (eC0 : PySem.W.subIn K (.ref C0) (.type "BaseException") = some true) (tC0 : PySem.W.typeIn K (.ref C0) = some (.type "type")) (hC0 : PySem.W.hasDictIn K C0 = true) (iC0 : PySem.W.isClsIn K C0 = true) (sC0 : PySem.W.subIn K (.ref C0) (.ref C0) = some true)
    (z0 : PySem.W.nsIn K mainGlobals "abs" = some none)
    (z1 : PySem.W.nsIn K mainGlobals "all" = some none)
    (z2 : PySem.W.nsIn K mainGlobals "bool" = some none)
    (z3 : PySem.W.nsIn K mainGlobals "enumerate" = some none)
    (z4 : PySem.W.nsIn K mainGlobals "int" = some none)
    (z5 : PySem.W.nsIn K mainGlobals "isinstance" = some none)
    (z6 : PySem.W.nsIn K mainGlobals "len" = some none)
    (z7 : PySem.W.nsIn K mainGlobals "tuple" = some none)
    (z8 : PySem.W.nsIn K mainGlobals "zip" = some none)
    {t0 : Tok} (gcs0 : PySem.W.nsIn K mainGlobals "MOST_RULES" = some (some (.int 6 t0)))
    : ∃ fd : FuncData, (∀ (s : Shared) (v : Value), BindsTo s fd ⟨[v], []⟩ [("_law_script", v)]) ∧ ∀ base : Heap, K.In base → base.Ns mainGlobals mg → FnOk l.prog w K mg base CX0 8 fa fd ["_law_script"] (spLaw K) := by
  have e := hfa.symm.trans (PySem.W.mg_of X G a9)
  cases e
  have F0 := fun_mk (st := xis_integer_s) l0 c0 k0
  have b0 := F0.binds (ps := ["value"]) fun _ _ _ _ _ _ us hl => match us, hl with | [_], _ => rfl
  have F1 := fun_mk (st := xis_index_s) l1 c1 k1
  have b1 := F1.binds (ps := ["value", "many"]) fun _ _ _ _ _ _ us hl => match us, hl with | [_, _], _ => rfl
  have F2 := fun_mk (st := xis_content_s) l2 c2 k2
  have b2 := F2.binds (ps := ["sizes", "value"]) fun _ _ _ _ _ _ us hl => match us, hl with | [_, _], _ => rfl
  have F3 := fun_mk (st := xare_contents_s) l3 c3 k3
  have b3 := F3.binds (ps := ["sizes", "value"]) fun _ _ _ _ _ _ us hl => match us, hl with | [_, _], _ => rfl
  have F4 := fun_mk (st := xrequire_rules_s) l4 c4 k4
  have b4 := F4.binds (ps := ["house", "value"]) fun _ _ _ _ _ _ us hl => match us, hl with | [_, _], _ => rfl
  have F5 := fun_mk (st := xis_item_s) l5 c5 k5
  have b5 := F5.binds (ps := ["house", "value"]) fun _ _ _ _ _ _ us hl => match us, hl with | [_, _], _ => rfl
  have F6 := fun_mk (st := y_is_rule_s) l6 c6 k6
  have b6 := F6.binds (ps := ["house", "value"]) fun _ _ _ _ _ _ us hl => match us, hl with | [_, _], _ => rfl
  have F7 := fun_mk (st := y_law_outcome_s) l7 c7 k7
  have b7 := F7.binds (ps := ["_law_house", "_law_thing"]) fun _ _ _ _ _ _ us hl => match us, hl with | [_, _], _ => rfl
  have F8 := fun_mk (st := y_law_wrong_s) l8 c8 k8
  have b8 := F8.binds (ps := ["_law_house"]) fun _ _ _ _ _ _ us hl => match us, hl with | [_], _ => rfl
  have F9 := fun_mk (st := xlaw_s) l9 c9 k9
  have b9 := F9.binds (ps := ["_law_script"]) fun _ _ _ _ _ _ us hl => match us, hl with | [_], _ => rfl
  have low0 : PySem.Er_InvalidRules.LowTxt K mg C0 fi0 := { gC := PySem.W.mg_of X G aC0, cls := ⟨nm0, q0, N0, bs0, _, sn0, sub0, ab0, col0, dd0, u0a, u0b, u0c, u0d, u0e, xL0, by decide +kernel⟩, sa := sa0, ga := ga0, gg := gg0, noN := nb0, iC := ia0, tC := it0, kC := kC0, exC := eC0, tyC := tC0, hdC := hC0, te := L2.Er_InvalidRules.exm_self eC0 iC0 tC0 sC0, fn := ⟨_, _, _, _, _, _, _, _, _, _, _, _, _, _, il0, icc0⟩ }
  letI : KFrag := ⟨K⟩
  have Tx : Txt K mg (fun i => [f0, f1, f2, f3, f4, f5, f6, f7, f8, fa].getD i 0) (fun i => [PySem.W.fnOf "is_integer" "is_integer" (defArgs xis_integer_s) (defBody xis_integer_s) (defScope xis_integer_s) .none kV0 dc0 pm0 an0 cd0 ct0, PySem.W.fnOf "is_index" "is_index" (defArgs xis_index_s) (defBody xis_index_s) (defScope xis_index_s) .none kV1 dc1 pm1 an1 cd1 ct1, PySem.W.fnOf "is_content" "is_content" (defArgs xis_content_s) (defBody xis_content_s) (defScope xis_content_s) .none kV2 dc2 pm2 an2 cd2 ct2, PySem.W.fnOf "are_contents" "are_contents" (defArgs xare_contents_s) (defBody xare_contents_s) (defScope xare_contents_s) .none kV3 dc3 pm3 an3 cd3 ct3, PySem.W.fnOf "require_rules" "require_rules" (defArgs xrequire_rules_s) (defBody xrequire_rules_s) (defScope xrequire_rules_s) .none kV4 dc4 pm4 an4 cd4 ct4, PySem.W.fnOf "is_item" "is_item" (defArgs xis_item_s) (defBody xis_item_s) (defScope xis_item_s) .none kV5 dc5 pm5 an5 cd5 ct5, PySem.W.fnOf "_is_rule" "_is_rule" (defArgs y_is_rule_s) (defBody y_is_rule_s) (defScope y_is_rule_s) .none kV6 dc6 pm6 an6 cd6 ct6, PySem.W.fnOf "_law_outcome" "_law_outcome" (defArgs y_law_outcome_s) (defBody y_law_outcome_s) (defScope y_law_outcome_s) .none kV7 dc7 pm7 an7 cd7 ct7, PySem.W.fnOf "_law_wrong" "_law_wrong" (defArgs y_law_wrong_s) (defBody y_law_wrong_s) (defScope y_law_wrong_s) .none kV8 dc8 pm8 an8 cd8 ct8, PySem.W.fnOf "law" "law" (defArgs xlaw_s) (defBody xlaw_s) (defScope xlaw_s) .none kV9 dc9 pm9 an9 cd9 ct9].getD i (PySem.W.fnOf "is_integer" "is_integer" (defArgs xis_integer_s) (defBody xis_integer_s) (defScope xis_integer_s) .none kV0 dc0 pm0 an0 cd0 ct0)) (fun i => [(C0, ("index" : Str))].getD i (0, "")) (fun i => [C0].getD i 0) (fun i => [fi0].getD i 0) := {
    K0 := low0,
    T0 := rfl,
    F0 := F0,
    M0 := PySem.W.mg_of X G a0,
    B0 := b0,
    F1 := F1,
    M1 := PySem.W.mg_of X G a1,
    B1 := b1,
    F2 := F2,
    M2 := PySem.W.mg_of X G a2,
    B2 := b2,
    F3 := F3,
    M3 := PySem.W.mg_of X G a3,
    B3 := b3,
    F4 := F4,
    M4 := PySem.W.mg_of X G a4,
    B4 := b4,
    F5 := F5,
    M5 := PySem.W.mg_of X G a5,
    B5 := b5,
    F6 := F6,
    M6 := PySem.W.mg_of X G a6,
    B6 := b6,
    F7 := F7,
    M7 := PySem.W.mg_of X G a7,
    B7 := b7,
    F8 := F8,
    M8 := PySem.W.mg_of X G a8,
    B8 := b8,
    F9 := F9,
    M9 := PySem.W.mg_of X G a9,
    B9 := b9,
    z_abs := PySem.W.mg_none_of X G z0,
    z_all := PySem.W.mg_none_of X G z1,
    z_bool := PySem.W.mg_none_of X G z2,
    z_enumerate := PySem.W.mg_none_of X G z3,
    z_int := PySem.W.mg_none_of X G z4,
    z_isinstance := PySem.W.mg_none_of X G z5,
    z_len := PySem.W.mg_none_of X G z6,
    z_tuple := PySem.W.mg_none_of X G z7,
    z_zip := PySem.W.mg_none_of X G z8,
    g_MOST_RULES := ⟨_, PySem.W.mg_of X G gcs0⟩ }
  exact ⟨PySem.W.fnOf "law" "law" (defArgs xlaw_s) (defBody xlaw_s) (defScope xlaw_s) .none kV9 dc9 pm9 an9 cd9 ct9, fun s v => .of_eq rfl, fun base _ _ => (xlaw_ok (T := (fun i => [(C0, ("index" : Str))].getD i (0, ""))) rfl Tx).imp (law_sp rfl HL)⟩
end K49
open PySem PySem.W PyProof.Rows
set_option maxHeartbeats 0 in
theorem PySem.Challenge.cw_movedfolders_k49_rules_by_hand_refused_holds : PySem.Challenge.rw_movedfolders_k49_rules_by_hand_refused.Holds := by
  w_on; o_law; k_head; (case hw => w_witness2)
  k_fill
  refine L2.walk_ofK (l := PySem.Challenge.rw_movedfolders_k49_rules_by_hand_refused) (n := 63) (k := 8) (x := "_law_script") (CX := L2.CX0) (sp := DL.spLaw) rfl (by decide) rfl ⟨rfl, by decide, by decide⟩ (fun w h Y => PySem.W.kIn_of Y) ?F (fun K H a ns hl hO hS => ⟨a, ns, rfl, hO, hS, hl, fun _ => rfl⟩) (fun _ _ _ _ h => h)
  case F =>
    intro w mg fa h KX G hmg
    refine' K49.all_mk KX G hmg K49.HLAW ?a0 ?l0 ?c0 ?k0 ?a1 ?l1 ?c1 ?k1 ?a2 ?l2 ?c2 ?k2 ?a3 ?l3 ?c3 ?k3 ?a4 ?l4 ?c4 ?k4 ?a5 ?l5 ?c5 ?k5 ?a6 ?l6 ?c6 ?k6 ?a7 ?l7 ?c7 ?k7 ?a8 ?l8 ?c8 ?k8 ?a9 ?l9 ?c9 ?k9 ?aC0 ?xL0 ?sa0 ?ga0 ?gg0 ?nb0 ?ia0 ?it0 ?il0 ?icc0 ?kC0 ?eC0 ?tC0 ?hC0 ?iC0 ?sC0 ?z0 ?z1 ?z2 ?z3 ?z4 ?z5 ?z6 ?z7 ?z8 ?gcs0
    (case a0 => k_is); (case l0 => k_is); (case c0 => k_is); (case k0 => k_is); (case a1 => k_is); (case l1 => k_is); (case c1 => k_is); (case k1 => k_is); (case a2 => k_is); (case l2 => k_is); (case c2 => k_is); (case k2 => k_is); (case a3 => k_is); (case l3 => k_is); (case c3 => k_is); (case k3 => k_is); (case a4 => k_is); (case l4 => k_is); (case c4 => k_is); (case k4 => k_is); (case a5 => k_is); (case l5 => k_is); (case c5 => k_is); (case k5 => k_is); (case a6 => k_is); (case l6 => k_is); (case c6 => k_is); (case k6 => k_is); (case a7 => k_is); (case l7 => k_is); (case c7 => k_is); (case k7 => k_is); (case a8 => k_is); (case l8 => k_is); (case c8 => k_is); (case k8 => k_is); (case a9 => k_is); (case l9 => k_is); (case c9 => k_is); (case k9 => k_is); (case aC0 => k_is); (case xL0 => k_is); (case sa0 => k_is); (case ga0 => k_is); (case gg0 => k_is); (case nb0 => k_is); (case ia0 => k_is); (case it0 => k_is); (case il0 => k_is); (case icc0 => k_is); (case kC0 => k_is); (case eC0 => k_is); (case tC0 => k_is); (case hC0 => k_is); (case iC0 => k_is); (case sC0 => first | rfl | k_is); (case z0 => k_is); (case z1 => k_is); (case z2 => k_is); (case z3 => k_is); (case z4 => k_is); (case z5 => k_is); (case z6 => k_is); (case z7 => k_is); (case z8 => k_is); (case gcs0 => k_is)
